import PyProof.Rows.All
import Wide.All
import OpenK.AllK
import Wide.FinOn
import Lean
import PyProof.EqAt
import PyProof.EqKinds
import PyProof.TupleCall
import PySem.Challenge.RW_unseen_k13_texts
set_option Elab.async false
set_option linter.all false
set_option maxRecDepth 100000
namespace L2
open PySem PySem.Spec PyProof.Rows
abbrev Key := Sum Int Str
def iV : Key -> Value -> Bool
 | .inl k, v => Value.isInt k v
 | .inr x, v => Value.isStrOf x v
def xN (w : World) : Key -> Int
 | .inl k => hashInt k
 | .inr x => hashStr w x
theorem bF : ∀ {k : Key} {v : Value}, iV k v = true -> (∃ i t, k = Sum.inl i /\ v = Value.int i t) \/ (∃ x t, k = Sum.inr x /\ v = Value.str x t)
 | .inl i, v, h => by
  obtain ⟨t, e⟩ := Value.isInt_shape (k := i) (v := v) h
  exact .inl ⟨i, t, rfl, e⟩
 | .inr x, v, h => by
  obtain ⟨t, e⟩ := Value.isStrOf_shape (x := x) (v := v) h
  exact .inr ⟨x, t, rfl, e⟩
theorem qW (i : Int) (t : Tok) : iV (.inl i) (.int i t) = true := by simp [iV, Value.isInt]
theorem rD (x : Str) (t : Tok) : iV (.inr x) (.str x t) = true := by simp [iV, Value.isStrOf]
theorem wC (a b : Int) : decide ((Sum.inl a : Key) = Sum.inl b) = (a == b) := by
 by_cases e : a = b
 ·subst e; simp
 ·have h : ¬ (Sum.inl a : Key) = Sum.inl b := fun q => e (Sum.inl.inj q)
  rw [decide_eq_false h]
  exact (beq_eq_false_iff_ne.mpr e).symm
theorem vX (a b : Str) : decide ((Sum.inr a : Key) = Sum.inr b) = decide (a = b) := by
 by_cases e : a = b
 ·subst e; simp
 ·have h : ¬ (Sum.inr a : Key) = Sum.inr b := fun q => e (Sum.inr.inj q)
  rw [decide_eq_false h, decide_eq_false e]
theorem vd (a : Int) (b : Str) : decide ((Sum.inl a : Key) = Sum.inr b) = false := decide_eq_false (fun q => nomatch q)
theorem vP (a : Str) (b : Int) : decide ((Sum.inr a : Key) = Sum.inl b) = false := decide_eq_false (fun q => nomatch q)
def bK (prog : Program) (w : World) : PySem.KeyKind prog w Key where
 is := iV
 hash := xN w
 inj := fun v a b ha hb => by
  rcases bF ha with ⟨i, t, rfl, rfl⟩ | ⟨x, t, rfl, rfl⟩
  ·rcases bF hb with ⟨j, u, rfl, e⟩ | ⟨y, u, rfl, e⟩
   ·injection e with e1 _; rw [e1]
   ·exact nomatch e
  ·rcases bF hb with ⟨j, u, rfl, e⟩ | ⟨y, u, rfl, e⟩
   ·exact nomatch e
   ·injection e with e1 _; rw [e1]
 byValue := fun k v h => by
  rcases bF h with ⟨i, t, rfl, rfl⟩ | ⟨x, t, rfl, rfl⟩ <;> rfl
 pyHash := fun hv h => by
  rcases bF hv with ⟨i, t, rfl, rfl⟩ | ⟨x, t, rfl, rfl⟩
  ·exact wpAny_pyHash_int h
  ·exact wpAny_pyHash_str h
 eqBool := fun hu hv h => by
  rcases bF hu with ⟨i, t, rfl, rfl⟩ | ⟨x, t, rfl, rfl⟩
  ·rcases bF hv with ⟨j, u, rfl, rfl⟩ | ⟨y, u, rfl, rfl⟩
   ·rw [wC] at h; exact wpAny_eqBool_int h
   ·rw [vd] at h; exact SeqAt.EqAt.int_str i t y u _ _ _ _ h
  ·rcases bF hv with ⟨j, u, rfl, rfl⟩ | ⟨y, u, rfl, rfl⟩
   ·rw [vP] at h; exact SeqAt.EqAt.str_int x t j u _ _ _ _ h
   ·rw [vX] at h; exact wpAny_eqBool_str h
 «strs» := fun k x t v h => by
  rcases bF h with ⟨i, u, rfl, e⟩ | ⟨y, u, rfl, e⟩
  ·exact nomatch e
  ·injection e with e1 _
   subst e1
   cases v <;> rfl
theorem o_ (prog : Program) (w : World) (i : Int) (t : Tok) : (bK prog w).is (.inl i) (.int i t) = true := qW i t
theorem pF (prog : Program) (w : World) (x : Str) (t : Tok) : (bK prog w).is (.inr x) (.str x t) = true := rD x t
end L2
namespace L2
open PySem PySem.Spec PyProof.Rows
inductive V where
 | non | bl (b : Bool) | int (i : Int) | str (x : Str) | byt (b : Array UInt8) | flt (b : UInt64) | ref (a : Addr) | ty (n : String)
 deriving DecidableEq
def RelV : V -> Value -> Prop
 | .non, u => u = Value.none
 | .bl b, u => u = Value.bool b
 | .int i, u => ∃ t, u = Value.int i t
 | .str x, u => ∃ t, u = Value.str x t
 | .byt b, u => ∃ t, u = Value.bytes b t
 | .flt b, u => ∃ t, u = Value.float b t
 | .ref a, u => u = Value.ref a
 | .ty n, u => u = Value.type n
abbrev Vals : List V -> List Value -> Prop := Paired RelV
theorem Vals.length {xs : List V} {us : List Value} (r : Vals xs us) : xs.length = us.length := Paired.length r
theorem Vals.get : ∀ {xs : List V} {us : List Value} {i : Nat} {x : V}, Vals xs us -> xs[i]? = some x -> ∃ u, us[i]? = some u /\ RelV x u
 | _, _, _, _, .nil, e => by simp at e
 | _, _, 0, _, .cons r _, e => by simp at e; subst e; exact ⟨_, rfl, r⟩
 | _, _, i + 1, x, .cons _ t, e => by
  obtain ⟨u, h1, h2⟩ := Vals.get (i := i) (x := x) t (by simpa using e)
  exact ⟨u, by simpa using h1, h2⟩
theorem Vals.set {x : V} {u : Value} (r : RelV x u) : ∀ {xs : List V} {us : List Value} (i : Nat), Vals xs us -> Vals (xs.set i x) (us.set i u)
 | _, _, _, .nil => .nil
 | _, _, 0, .cons _ t => .cons r t
 | _, _, i + 1, .cons q t => .cons q (Vals.set r i t)
theorem Vals.append : ∀ {xs ys : List V} {us ws : List Value}, Vals xs us -> Vals ys ws -> Vals (xs ++ ys) (us ++ ws)
 | _, _, _, _, .nil, s => s
 | _, _, _, _, .cons r t, s => .cons r (Vals.append t s)
theorem Vals.take : ∀ {xs : List V} {us : List Value} (n : Nat), Vals xs us -> Vals (xs.take n) (us.take n)
 | _, _, 0, _ => .nil
 | _, _, _ + 1, .nil => .nil
 | _, _, n + 1, .cons r t => .cons r (Vals.take n t)
theorem Vals.drop : ∀ {xs : List V} {us : List Value} (n : Nat), Vals xs us -> Vals (xs.drop n) (us.drop n)
 | _, _, 0, r => r
 | _, _, _ + 1, .nil => .nil
 | _, _, n + 1, .cons _ t => Vals.drop n t
def RelO : Option V -> Option Value -> Prop
 | some v, some u => RelV v u
 | none, none => True
 | _, _ => False
def KV {κ : Type} : List (κ × V) -> List (κ × Value) -> Prop := Paired fun (p : κ × V) (q : κ × Value) => p.1 = q.1 /\ RelV p.2 q.2
def kV : Key -> V
 | .inl i => .int i
 | .inr x => .str x
inductive HO where
 | lst (xs : List V)
 | tup (xs : List V)
 | dK (kvs : List (Key × V)) | dT (kvs : List (List Key × V))
 | set (S : Int -> Bool) (n : Nat)
 | ins (C dx : Addr) (fs : List (Str × V))
 | own (x : Addr)
 | xd (fs : List (Str × V))
 | met (f x : Addr)
 | rng (lo hi : Int)
 | frz (o : Obj) (u : HO)
 | tbl (ps : Array Value)
 | ext (φ : Heap -> Prop)
abbrev Hp := Addr -> Option HO
def upd (H : Hp) (a : Addr) (o : HO) : Hp := fun b => if b = a then some o else H b
theorem au {H : Hp} {a : Addr} {o : HO} : upd H a o a = some o := by unfold upd; rw [if_pos rfl]
theorem aH {H : Hp} {a b : Addr} {o : HO} (h : b ≠ a) : upd H a o b = H b := by unfold upd; rw [if_neg h]
theorem qz {H : Hp} {a b : Addr} {o u : HO} (h : H a = some o) (h' : H b = some u) (d : o ≠ u) : a ≠ b := by
 intro e; subst e; rw [h] at h'; exact d (Option.some.inj h')
theorem aQ {H : Hp} {a b : Addr} {o : HO} (h : H a = some o) (h' : H b = none) : a ≠ b := by
 intro e; subst e; rw [h] at h'; cases h'
section
variable (P : Program) (w : World)
def ObjOk (H : Hp) (h : Heap) (a : Addr) : HO -> Prop
 | .lst xs => xs.length <= sizeLine /\ ∃ (its : List Value) (n : Nat), Vals xs its /\ h.get? a = some { cls := .type "list", data := .seq its.toArray n }
 | .tup xs => xs.length <= sizeLine /\ ∃ its : List Value, Vals xs its /\ IsTup h a its.toArray
 | .dK kvs => kvs.length <= sizeLine /\ (a == sysModules) = false /\ ∃ vs, KV kvs vs /\ h.DictOf (bK P w) a vs
 | .dT kvs => kvs.length <= sizeLine /\ (a == sysModules) = false /\ ∃ xs : List (List Key × Addr × Value),
   Paired (fun (p : List Key × V) (q : List Key × Addr × Value) => p.1 = q.1 /\ H q.2.1 = some (.tup (p.1.map kV)) /\ RelV p.2 q.2.2) kvs xs /\
   ∃ o es ep, h.get? a = some o /\ o.ExactDict /\ o.data = .dict es ep /\ es.toList = xs.map (entryOfKey (tupleKind (bK P w))) /\ (xs.map (·.1)).Nodup
 | .set S n => h.SetOf (intKind P w) a S n
 | .ins C dx fs => H dx = some (.own a) /\ fs.length <= 1000 /\ dx ≠ a /\ h.get? a = some (PySem.W.instObj C dx) /\
   ∃ mA, h.Ns1 dx mA /\ (∀ f, RelO (fs.lookup f) (mA f)) /\ PySem.Within mA (fs.map (·.1))
 | .own _ => ∃ o, h.get? a = some o
 | .xd fs => ∃ mA, h.Ns1 a mA /\ ∀ f, RelO (fs.lookup f) (mA f)
 | .rng lo hi => ∃ t u v, h.get? a = some { cls := .type "range", data := .fields #[.int lo t, .int hi u, .int 1 v] }
 | .frz o u => h.get? a = some o /\ ObjOk H h a u
 | .tbl ps => h.get? a = some { cls := .none, data := .fields ps }
 | .met f x => h.get? a = some (PySem.W.methodObj (.ref f) (.ref x))
 | .ext φ => φ h /\ (∃ o, h.get? a = some o) /\ ∀ h1 h2 : Heap, φ h1 -> (∀ o, h1.get? a = some o -> h2.get? a = some o) -> φ h2
def HOk (H : Hp) (h : Heap) : Prop := ∀ a o, H a = some o -> ObjOk P w H h a o
end
section
variable {P : Program} {w : World} {H H' : Hp} {h h' : Heap} {a : Addr} {o : HO}
theorem ObjOk.lt (x : ObjOk P w H h a o) : a < h.objs.size := by
 cases o with
 | lst xs => obtain ⟨_, _, _, _, e⟩ := x; exact Heap.lt_size e
 | tup xs => obtain ⟨_, _, _, p⟩ := x; exact p.lt
 | dK kvs => obtain ⟨_, _, _, _, o, _, _, e, _⟩ := x; exact Heap.lt_size e
 | dT kvs => obtain ⟨_, _, _, _, o, _, _, e, _⟩ := x; exact Heap.lt_size e
 | set S n => obtain ⟨o, _, _, _, e, _⟩ := x; exact Heap.lt_size e
 | ins C dx fs => obtain ⟨_, _, _, e, _⟩ := x; exact Heap.lt_size e
 | own y => obtain ⟨_, e⟩ := x; exact Heap.lt_size e
 | xd fs => obtain ⟨_, ⟨_, _, _, e, _⟩, _⟩ := x; exact Heap.lt_size e
 | rng lo hi => obtain ⟨_, _, _, e⟩ := x; exact Heap.lt_size e
 | frz ob u => obtain ⟨e, _⟩ := x; exact Heap.lt_size e
 | tbl ps => exact Heap.lt_size (show h.get? a = some _ from x)
 | met f y => exact Heap.lt_size (show h.get? a = some _ from x)
 | ext φ => obtain ⟨_, ⟨_, e⟩, _⟩ := x; exact Heap.lt_size e
theorem Paired.mapP {α β : Type} {F G : α -> β -> Prop} : ∀ {l₁ : List α} {l₂ : List β}, Paired F l₁ l₂ -> (∀ a b, F a b -> G a b) -> Paired G l₁ l₂
 | _, _, .nil, _ => .nil
 | _, _, .cons r t, f => .cons (f _ _ r) (Paired.mapP t f)
theorem ObjOk.stay (x : ObjOk P w H h a o) (k : ∀ b u, (b = a \/ H b = some (.own a)) -> h.get? b = some u -> h'.get? b = some u)
  (ho : ∀ b, H b = some (.own a) -> H' b = some (.own a)) (ht : ∀ b xs, H b = some (.tup xs) -> H' b = some (.tup xs)) : ObjOk P w H' h' a o := by
 induction o with
 | lst xs => obtain ⟨z, its, n, r, e⟩ := x; exact ⟨z, its, n, r, k _ _ (.inl rfl) e⟩
 | tup xs => obtain ⟨z, its, r, ob, e, c⟩ := x; exact ⟨z, its, r, ob, k _ _ (.inl rfl) e, c⟩
 | dK kvs => obtain ⟨z, y, vs, r, ob, es, ep, e, c⟩ := x; exact ⟨z, y, vs, r, ob, es, ep, k _ _ (.inl rfl) e, c⟩
 | dT kvs =>
  obtain ⟨z, y, xs, r, ob, es, ep, e, c⟩ := x
  exact ⟨z, y, xs, Paired.mapP r fun p q z => ⟨z.1, ht _ _ z.2.1, z.2.2⟩, ob, es, ep, k _ _ (.inl rfl) e, c⟩
 | set S n => obtain ⟨ob, es, ep, t, e, c⟩ := x; exact ⟨ob, es, ep, t, k _ _ (.inl rfl) e, c⟩
 | ins C dx fs =>
  obtain ⟨d, z, ne, e, mA, ⟨od, es, ep, e2, c⟩, r⟩ := x
  exact ⟨ho _ d, z, ne, k _ _ (.inl rfl) e, mA, ⟨od, es, ep, k _ _ (.inr d) e2, c⟩, r⟩
 | own y => obtain ⟨ob, e⟩ := x; exact ⟨ob, k _ _ (.inl rfl) e⟩
 | xd fs => obtain ⟨mA, ⟨od, es, ep, e, c⟩, r⟩ := x; exact ⟨mA, ⟨od, es, ep, k _ _ (.inl rfl) e, c⟩, r⟩
 | rng lo hi => obtain ⟨t, u, v, e⟩ := x; exact ⟨t, u, v, k _ _ (.inl rfl) e⟩
 | frz ob u ih => obtain ⟨e, q⟩ := x; exact ⟨k _ _ (.inl rfl) e, ih q⟩
 | tbl ps =>
  have e : h.get? a = some { cls := .none, data := .fields ps } := x
  show h'.get? a = some { cls := .none, data := .fields ps }
  exact k a _ (.inl rfl) e
 | met f y =>
  have e : h.get? a = some (PySem.W.methodObj (.ref f) (.ref y)) := x
  show h'.get? a = some (PySem.W.methodObj (.ref f) (.ref y))
  exact k a _ (.inl rfl) e
 | ext φ => obtain ⟨p, ⟨o, e⟩, st⟩ := x; exact ⟨st _ _ p fun o q => k _ _ (.inl rfl) q, ⟨o, k _ _ (.inl rfl) e⟩, st⟩
theorem HOk.lt (x : HOk P w H h) (e : H a = some o) : a < h.objs.size := (x a o e).lt
theorem HOk.fresh (x : HOk P w H h) (e : h.objs.size <= a) : H a = none := by
 cases q : H a with
 | none => rfl
 | some u => exact absurd (Nat.lt_of_lt_of_le (x.lt q) e) (Nat.lt_irrefl _)
theorem HOk.kept (x : HOk P w H h) (k : ∀ b u, h.get? b = some u -> h'.get? b = some u) : HOk P w H h' := fun a o e =>
 (x a o e).stay (fun b u _ q => k b u q) (fun _ q => q) fun _ _ q => q
theorem HOk.laid (x : HOk P w H h) (k : ∀ b u, h.get? b = some u -> h'.get? b = some u) (hp : h.objs.size <= a) (new : ObjOk P w (upd H a o) h' a o) : HOk P w (upd H a o) h' := fun b u e => by
 have hn := x.fresh hp
 by_cases hb : b = a
 ·subst hb; rw [au] at e; cases e; exact new
 ·rw [aH hb] at e
  exact (x b u e).stay (fun c v _ q => k c v q) (fun c q => by rw [aH (aQ q hn)]; exact q) fun c xs q => by rw [aH (aQ q hn)]; exact q
end
def Rd (H : Hp) (a : Addr) (u : HO) : Prop := H a = some u \/ ∃ o, H a = some (.frz o u)
theorem Rd.of {H : Hp} {a : Addr} {u : HO} (h : H a = some u) : Rd H a u := .inl h
theorem Rd.ok {P : Program} {w : World} {H : Hp} {h : Heap} {a : Addr} {u : HO} (r : Rd H a u) (x : HOk P w H h) : ObjOk P w H h a u := by
 rcases r with r | ⟨o, r⟩
 ·exact x a u r
 ·obtain ⟨_, q⟩ := x a _ r
  exact q
def Mut : Option HO -> Prop
 | some (.lst _) => True
 | some (.dK _) => True
 | some (.dT _) => True
 | some (.set _ _) => True
 | some (.ins _ _ _) => True
 | some (.ext _) => True
 | _ => False
section
variable {P : Program} {w : World} {H : Hp} {h h' : Heap} {x e : Addr} {o' : HO}
theorem HOk.write (ok : HOk P w H h) (mu : Mut (H x)) (he : e = x \/ H e = some (.own x)) (k : ∀ b u, b ≠ e -> h.get? b = some u -> h'.get? b = some u) (heo : ∃ u, h'.get? e = some u)
  (new : ObjOk P w (upd H x o') h' x o') : HOk P w (upd H x o') h' := fun b u q => by
 have nown : ∀ c y, H c = some (.own y) -> c ≠ x := fun c y r z => by subst z; rw [r] at mu; exact mu
 have ntup : ∀ c xs, H c = some (.tup xs) -> c ≠ x := fun c xs r z => by subst z; rw [r] at mu; exact mu
 by_cases hb : b = x
 ·subst hb; rw [au] at q; cases q; exact new
 ·rw [aH hb] at q
  by_cases hbe : b = e
  ·have q' : H b = some (.own x) := by
    rcases he with z | z
    ·exact absurd (hbe.trans z) hb
    ·rw [hbe]; exact z
   rw [q] at q'; cases q'
   obtain ⟨v, hv⟩ := heo
   exact ⟨v, by rw [hbe]; exact hv⟩
  ·refine (ok b u q).stay (fun c v hc r => k c v ?_ r) (fun c r => by rw [aH (nown c b r)]; exact r) fun c xs r => by rw [aH (ntup c xs r)]; exact r
   rcases hc with rfl | hc
   ·exact hbe
   ·rintro rfl
    rcases he with z | z
    ·exact nown c b hc z
    ·rw [hc] at z; cases z; exact hb rfl
end
structure Un (fs ex : List Addr) (H H' : Hp) (h h' : Heap) : Prop where
 keep : ∀ b o, h.get? b = some o -> H b = none -> b ∉ fs -> b ∉ ex -> h'.get? b = some o
 slot : ∀ b o, h.get? b = some o -> H b = none -> b ∈ fs -> b ∉ ex -> ∃ sl, h'.get? b = some { o with slots := sl }
 free : ∀ b o, h.get? b = some o -> H b = none -> b ∉ ex -> H' b = none
 there : ∀ b o, h.get? b = some o -> b ∉ ex -> ∃ o', h'.get? b = some o'
 tups : ∀ b xs, H b = some (.tup xs) -> H' b = some (.tup xs)
 frzs : ∀ b o u, H b = some (.frz o u) -> H' b = some (.frz o u)
 tbls : ∀ b ps, H b = some (.tbl ps) -> ∃ more, H' b = some (.tbl (ps ++ more))
section
variable {fs fs' ex ex' : List Addr} {H H1 H2 : Hp} {h h1 h2 h' : Heap} {a x e : Addr} {o : HO}
theorem Un.any (u : Un fs ex H H1 h h1) {b : Addr} {ob : Obj} (q : h.get? b = some ob) (n : H b = none) (hx : b ∉ ex) : ∃ sl, h1.get? b = some { ob with slots := sl } := by
 by_cases hb : b ∈ fs
 ·exact u.slot b ob q n hb hx
 ·exact ⟨ob.slots, u.keep b ob q n hb hx⟩
theorem Un.trans (a : Un fs ex H H1 h h1) (b : Un fs ex H1 H2 h1 h2) : Un fs ex H H2 h h2 where
 keep := fun c ob q n hc hx => b.keep c ob (a.keep c ob q n hc hx) (a.free c ob q n hx) hc hx
 slot := fun c ob q n hc hx => by
  obtain ⟨sl, e1⟩ := a.slot c ob q n hc hx
  obtain ⟨sl', e2⟩ := b.slot c _ e1 (a.free c ob q n hx) hc hx
  exact ⟨sl', e2⟩
 free := fun c ob q n hx => by
  obtain ⟨o', e1⟩ := a.there c ob q hx
  exact b.free c o' e1 (a.free c ob q n hx) hx
 there := fun c ob q hx => by
  obtain ⟨o', e1⟩ := a.there c ob q hx
  exact b.there c o' e1 hx
 tups := fun c xs q => b.tups c xs (a.tups c xs q)
 frzs := fun c ob xs q => b.frzs c ob xs (a.frzs c ob xs q)
 tbls := fun c ps q => by
  obtain ⟨m1, e1⟩ := a.tbls c ps q
  obtain ⟨m2, e2⟩ := b.tbls c _ e1
  exact ⟨m1 ++ m2, by rw [e2, Array.append_assoc]⟩
theorem Un.kept (k : ∀ b u, h.get? b = some u -> h'.get? b = some u) : Un fs ex H H h h' :=
 ⟨fun b ob q _ _ _ => k b ob q, fun b ob q _ _ _ => ⟨ob.slots, k b ob q⟩, fun _ _ _ n _ => n, fun b ob q _ => ⟨ob, k b ob q⟩, fun _ _ q => q, fun _ _ _ q => q, fun _ ps q => ⟨#[], by rw [q]; simp⟩⟩
theorem Un.refl : Un fs ex H H h h := Un.kept fun _ _ q => q
theorem Un.laid (k : ∀ b u, h.get? b = some u -> h'.get? b = some u) (hp : h.objs.size <= a) (hn : H a = none) : Un fs ex H (upd H a o) h h' where
 keep := fun b u q _ _ _ => k b u q
 slot := fun b u q _ _ _ => ⟨u.slots, k b u q⟩
 free := fun b u q n _ => by rw [aH (Nat.ne_of_lt (Nat.lt_of_lt_of_le (Heap.lt_size q) hp))]; exact n
 there := fun b u q _ => ⟨u, k b u q⟩
 tups := fun b xs q => by rw [aH (aQ q hn)]; exact q
 frzs := fun b u xs q => by rw [aH (aQ q hn)]; exact q
 tbls := fun b ps q => ⟨#[], by rw [aH (aQ q hn), q]; simp⟩
theorem Un.write (mu : Mut (H x)) (he : e = x \/ H e = some (.own x)) (k : ∀ b u, b ≠ e -> h.get? b = some u -> h'.get? b = some u) (heo : ∃ u, h'.get? e = some u) : Un fs ex H (upd H x o) h h' := by
 have hx : ∀ b, H b = none -> b ≠ x := fun b n z => by subst z; rw [n] at mu; exact mu
 have hb : ∀ b, H b = none -> b ≠ e := fun b n z => by
  subst z
  rcases he with r | r
  ·exact hx b n r
  ·rw [n] at r; cases r
 have hm : ∀ b u, H b = some u -> ¬ Mut (some u) -> b ≠ x := fun b u q nm z => by subst z; rw [q] at mu; exact nm mu
 refine ⟨fun b u q n _ _ => k b u (hb b n) q, fun b u q n _ _ => ⟨u.slots, k b u (hb b n) q⟩, fun b u q n _ => by rw [aH (hx b n)]; exact n, fun b u q _ => ?_,
  fun b xs q => by rw [aH (hm b _ q fun z => z)]; exact q, fun b u xs q => by rw [aH (hm b _ q fun z => z)]; exact q, fun b ps q => ⟨#[], by rw [aH (hm b _ q fun z => z), q]; simp⟩⟩
 by_cases hbe : b = e
 ·subst hbe; exact heo
 ·exact ⟨u, k b u hbe q⟩
theorem Un.mono (u : Un fs ex H H1 h h1) (hs : ∀ b ∈ fs, b ∈ fs') (hx : ∀ b ∈ ex, b ∈ ex') : Un fs' ex' H H1 h h1 :=
 ⟨fun b ob q n hb he => u.keep b ob q n (fun z => hb (hs b z)) fun z => he (hx b z), fun _ _ q n _ he => u.any q n fun z => he (hx _ z), fun b ob q n he => u.free b ob q n fun z => he (hx b z), fun b ob q he => u.there b ob q fun z => he (hx b z), u.tups, u.frzs, u.tbls⟩
end
def trk (h : Heap) (H : Hp) : List Addr := (List.range h.objs.size).filter fun a => (H a).isSome
def gZ (h : Heap) (H : Hp) : Heap := PySem.W.hideAll h (trk h H)
theorem rG (h : Heap) (H : Hp) : (gZ h H).objs.size = h.objs.size := PySem.W.hideAll_size _ _
theorem tK {h : Heap} {H : Hp} {b : Addr} {o : Obj} (e : h.get? b = some o) (n : H b = none) : (gZ h H).get? b = some o :=
 PySem.W.hideAll_get _ e fun hm => by
  have q : (H b).isSome = true := (List.mem_filter.mp hm).2
  rw [n] at q; simp at q
theorem uZ {h : Heap} {H : Hp} {b : Addr} {o : Obj} (e : (gZ h H).get? b = some o) : h.get? b = some o /\ H b = none := by
 have e' : h.get? b = some o := PySem.W.of_hideAll (trk h H) e
 refine ⟨e', ?_⟩
 cases q : H b with
 | none => rfl
 | some x =>
  have hm : b ∈ trk h H := List.mem_filter.mpr ⟨List.mem_range.mpr (Heap.lt_size e'), by simp [q]⟩
  have z : (gZ h H).get? b = none := PySem.W.hideAll_none (trk h H) hm
  rw [z] at e; cases e
def uM (g h : Heap) (L : Addr) : List (Addr × Obj) := (List.range h.objs.size).filterMap fun a => if a = L \/ (g.get? a).isSome = true then none else (h.get? a).map fun o => (a, o)
def rest (g h : Heap) (L d : Addr) : List (Addr × Obj) := (uM g h L).filter fun p => decide (p.1 ≠ d)
end L2
namespace L2
open PySem PySem.Spec PyProof.Rows
structure Mod (K : PySem.W.Frag) (mg : Str -> Option Value) (base : Heap) : Prop where
 kin : K.In base
 glob : base.Ns mainGlobals mg
 blt : ∃ mb, base.Ns builtinsNs mb /\ ∀ x : Str, x ≠ "__name__" -> mb x = bootBuiltins x
 nolimit : base.NoLimit
structure Cx where
 prog : Program
 w : World
 K : PySem.W.Frag
 mg : Str -> Option Value
 base : Heap
 A : Around
 N : List Str
 s₀ : Shared
 H₀ : Hp
 env : Env
 outer : List Env
 stack : List Env
 ex : List Addr
 fn : Str -> Bool
 calm : Bool
 pn : List (Addr × Obj)
 xe : Value -> Shared -> Prop
def frs (l : List Env) : List Addr := l.filterMap (·.frame)
abbrev Cx.fs (X : Cx) : List Addr := frs X.outer
def Vis (sc : Scope) (x : Str) : Prop := sc.names.lookup x = some .local \/ sc.names.lookup x = some .cell \/ sc.names.lookup x = some .free
def Loc (sc : Scope) (x : Str) : Prop := sc.names.lookup x = some .local \/ sc.names.lookup x = some .cell
def Look (env : Env) (h : Heap) (m : Str -> Option Value) (x : Str) (u : Value) : Prop :=
 (env.kindOf x = some .local /\ m x = some u) \/ ((env.kindOf x = some .cell \/ env.kindOf x = some .free) /\ ∃ c, env.cells.lookup x = some c /\ h.IsCell c (some u))
structure Cx.Ok (X : Cx) : Prop where
 mod : Mod X.K X.mg X.base
 kind : X.env.scope.kind = .function
 glob : X.env.globals = mainGlobals
 blt : X.env.builtins = builtinsNs
 above : X.s₀.heap.objs.size <= X.env.locals
 inj : ∀ x y c, X.env.cells.lookup x = some c -> X.env.cells.lookup y = some c -> x = y
 has : ∀ x, (X.env.kindOf x = some .cell \/ X.env.kindOf x = some .free) -> ∃ c, X.env.cells.lookup x = some c
 cab : ∀ x c, X.fn x = true -> X.env.cells.lookup x = some c -> X.s₀.heap.objs.size <= c
 hd : X.calm = true -> X.A.handled = none
 frames : X.A.frames = some X.stack
 stk : X.stack = X.outer \/ (X.stack = X.env :: X.outer /\ X.env.frame = some X.env.locals)
 exf : ∀ b ∈ X.ex, b ≠ X.env.locals /\ ∀ x c, X.env.cells.lookup x = some c -> c ≠ b
 bs : ∀ b o, X.base.get? b = some o -> X.s₀.heap.get? b = some o /\ X.H₀ b = none
 bsz : X.base.objs.size <= X.s₀.heap.objs.size
 noex : ∀ b o, X.base.get? b = some o -> b ∉ X.ex
 exfs : ∀ b ∈ X.ex, b ∉ X.fs
 funs : X.s₀.heap.FunFrames X.base X.outer
 frf : ∀ b ∈ X.fs, X.H₀ b = none
structure Inv (X : Cx) (pins : List (Addr × Obj)) (σ : List (Option V)) (H : Hp) (s : Shared) : Prop where
 ok : X.Ok
 os : s.os = X.s₀.os
 bare : AllBare s.gens
 base : Un X.fs X.ex X.H₀ H X.s₀.heap s.heap
 loc : ∃ m, s.heap.Ns X.env.locals m /\ ∀ (i : Nat) (x : Str) (v : V), X.N[i]? = some x -> σ[i]? = some (some v) -> Vis X.env.scope x -> ∃ u, RelV v u /\ Look X.env s.heap m x u
 cell : ∀ x c, X.env.cells.lookup x = some c -> ∃ v, s.heap.IsCell c v
 free : H X.env.locals = none
 freeC : ∀ x c, X.env.cells.lookup x = some c -> H c = none
 pin : ∀ p ∈ X.pn ++ pins, s.heap.get? p.1 = some p.2 /\ H p.1 = none /\ p.1 ≠ X.env.locals /\ p.1 ∉ X.fs /\ ∀ v, p.2.data ≠ .cell v
 hok : HOk X.prog X.w H s.heap
 len : σ.length = X.N.length
section
variable {X : Cx} {pins : List (Addr × Obj)} {σ : List (Option V)} {H H' : Hp} {s : Shared} {h' : Heap}
theorem Cx.Ok.nofr (ok : X.Ok) {b : Addr} {o : Obj} (e : X.base.get? b = some o) : b ∉ X.fs := fun hb => by
 have := (ok.funs.mem hb).1
 rw [e] at this; cases this
theorem Inv.bs (I : Inv X pins σ H s) : ∀ b o, X.base.get? b = some o -> s.heap.get? b = some o /\ H b = none := fun b o e =>
 ⟨I.base.keep b o (I.ok.bs b o e).1 (I.ok.bs b o e).2 (I.ok.nofr e) (I.ok.noex b o e), I.base.free b o (I.ok.bs b o e).1 (I.ok.bs b o e).2 (I.ok.noex b o e)⟩
theorem Inv.bk (I : Inv X pins σ H s) : ∀ b o, X.base.get? b = some o -> s.heap.get? b = some o := fun b o e => (I.bs b o e).1
theorem Inv.mod (I : Inv X pins σ H s) : Mod X.K X.mg X.base := I.ok.mod
theorem Inv.kIn (I : Inv X pins σ H s) : X.K.In s.heap := I.ok.mod.kin.keeps I.bk
theorem Inv.nolimit (I : Inv X pins σ H s) : s.heap.NoLimit := I.ok.mod.nolimit.keeps I.bk
theorem Inv.fr (I : Inv X pins σ H s) : ∃ m, Fr X.base X.env.locals s.heap m :=
 let ⟨m, hn, _⟩ := I.loc
 ⟨m, hn, I.bk, Nat.le_trans I.ok.bsz I.ok.above⟩
theorem Inv.lt (I : Inv X pins σ H s) : X.env.locals < s.heap.objs.size := let ⟨_, hn, _⟩ := I.loc; hn.lt
theorem Inv.sz (I : Inv X pins σ H s) : X.s₀.heap.objs.size <= s.heap.objs.size := Nat.le_trans I.ok.above (Nat.le_of_lt I.lt)
theorem Inv.nofs (I : Inv X pins σ H s) {a : Addr} (h : s.heap.objs.size <= a) : a ∉ X.fs := fun hb => by
 obtain ⟨_, o, ho, _⟩ := I.ok.funs.mem hb
 exact absurd (Nat.lt_of_lt_of_le (Heap.lt_size ho) (Nat.le_trans I.sz h)) (Nat.lt_irrefl _)
theorem Inv.cne (I : Inv X pins σ H s) : ∀ x c, X.env.cells.lookup x = some c -> c ≠ X.env.locals := fun x c e z => by
 obtain ⟨v, o, ho, hd⟩ := I.cell x c e
 obtain ⟨m, ⟨o', es, ep, ho', hd', _⟩, _⟩ := I.loc
 rw [z, ho'] at ho; cases ho; rw [hd'] at hd; cases hd
theorem Inv.funs (I : Inv X pins σ H s) : s.heap.FunFrames X.base X.outer := by
 have all : ∀ (l : List Env), (∀ b ∈ frs l, b ∈ X.fs) -> X.s₀.heap.FunFrames X.base l -> s.heap.FunFrames X.base l := by
  intro l
  induction l with
  | nil => intro _ _; trivial
  | cons env r ih =>
   intro hs hl
   obtain ⟨hk, ⟨L, o, hf, hn, ho, hd⟩, hr⟩ := hl
   have hL : L ∈ X.fs := hs L (by unfold frs; rw [List.filterMap_cons, hf]; exact List.mem_cons_self)
   obtain ⟨sl, e⟩ := I.base.slot L o ho (I.ok.frf L hL) hL fun z => I.ok.exfs L z hL
   exact ⟨hk, ⟨L, _, hf, hn, e, hd⟩, ih (fun b hb => hs b (by unfold frs; rw [List.filterMap_cons, hf]; exact List.mem_cons_of_mem _ hb)) hr⟩
 exact all X.outer (fun _ hb => hb) I.ok.funs
theorem Inv.stack (I : Inv X pins σ H s) : s.heap.FunFrames X.base X.stack := by
 rcases I.ok.stk with e | ⟨e, hf⟩
 ·rw [e]; exact I.funs
 ·rw [e]
  obtain ⟨m, hn, _⟩ := I.loc
  refine .cons (by rw [I.ok.kind]; decide) hf hn ?_ I.funs
  exact Heap.get?_none_of_le (Nat.le_trans I.ok.bsz I.ok.above)
theorem Inv.stkSub (I : Inv X pins σ H s) : ∀ b ∈ frs X.stack, b ∈ X.env.locals :: X.fs := fun b hb => by
 rcases I.ok.stk with e | ⟨e, hf⟩
 ·rw [e] at hb; exact List.mem_cons_of_mem _ hb
 ·rw [e] at hb
  unfold frs at hb
  rw [List.filterMap_cons, hf] at hb
  exact hb
theorem Inv.stkFree (I : Inv X pins σ H s) : ∀ b ∈ frs X.stack, H b = none := fun b hb => by
 rcases List.mem_cons.mp (I.stkSub b hb) with e | hb
 ·rw [e]; exact I.free
 ·obtain ⟨_, o, ho, _⟩ := I.ok.funs.mem hb
  exact I.base.free b o ho (I.ok.frf b hb) fun z => I.ok.exfs b z hb
theorem Inv.step {g' : Array GenState} {t' : Nat} {d' : Drawn} {ch : List Addr} (I : Inv X pins σ H s)
  (hch : ∀ b ∈ ch, (b ∈ X.ex \/ X.s₀.heap.objs.size <= b) /\ b ≠ X.env.locals /\ (∀ x c, X.env.cells.lookup x = some c -> c ≠ b) /\ ∀ p ∈ X.pn ++ pins, p.1 ≠ b)
  (keep : ∀ b o, b ≠ X.env.locals -> b ∉ X.fs -> b ∉ ch -> s.heap.get? b = some o -> H b = none -> h'.get? b = some o)
  (slot : ∀ b o, b ≠ X.env.locals -> b ∈ X.fs -> b ∉ ch -> s.heap.get? b = some o -> H b = none -> ∃ sl, h'.get? b = some { o with slots := sl }) (free : ∀ b o, b ∉ ch -> s.heap.get? b = some o -> H b = none -> H' b = none)
  (there : ∀ b o, b ∉ ch -> s.heap.get? b = some o -> ∃ o', h'.get? b = some o')
  (tups : ∀ b xs, H b = some (.tup xs) -> H' b = some (.tup xs)) (frzs : ∀ b o u, H b = some (.frz o u) -> H' b = some (.frz o u)) (tbls : ∀ b ps, H b = some (.tbl ps) -> ∃ more, H' b = some (.tbl (ps ++ more)))
  (ns : ∀ m, s.heap.Ns X.env.locals m -> h'.Ns X.env.locals m) (hok : HOk X.prog X.w H' h') (hg : AllBare g') :
  Inv X pins σ H' { s with heap := h', gens := g', drawn := d', toks := t' } := by
 have neL : ∀ b o, X.s₀.heap.get? b = some o -> b ≠ X.env.locals := fun b o e => Nat.ne_of_lt (Nat.lt_of_lt_of_le (Heap.lt_size e) I.ok.above)
 have neC : ∀ b o, X.s₀.heap.get? b = some o -> b ∉ X.ex -> b ∉ ch := fun b o e hx hb => by
  rcases (hch b hb).1 with z | z
  ·exact hx z
  ·exact absurd (Nat.lt_of_lt_of_le (Heap.lt_size e) z) (Nat.lt_irrefl _)
 have cellK : ∀ x c, X.env.cells.lookup x = some c -> ∀ v, s.heap.IsCell c v -> h'.IsCell c v := fun x c e v ⟨o, ho, hd⟩ => by
  have nch : c ∉ ch := fun z => (hch c z).2.2.1 x c e rfl
  by_cases hc : c ∈ X.fs
  ·obtain ⟨sl, q⟩ := slot c o (I.cne x c e) hc nch ho (I.freeC x c e)
   exact ⟨_, q, hd⟩
  ·exact ⟨o, keep c o (I.cne x c e) hc nch ho (I.freeC x c e), hd⟩
 refine ⟨I.ok, I.os, hg, ⟨fun b o e n hb hx => ?_, fun b o e n hb hx => ?_, fun b o e n hx => ?_, fun b o e hx => ?_, fun b xs e => tups b xs (I.base.tups b xs e), fun b o xs e => frzs b o xs (I.base.frzs b o xs e), fun b ps e => ?_⟩, ?_, fun x c e => ?_, ?_, fun x c e => ?_, fun p hp => ?_, hok, I.len⟩
 ·exact keep b o (neL b o e) hb (neC b o e hx) (I.base.keep b o e n hb hx) (I.base.free b o e n hx)
 ·obtain ⟨sl, e1⟩ := I.base.slot b o e n hb hx
  obtain ⟨sl', e2⟩ := slot b _ (neL b o e) hb (neC b o e hx) e1 (I.base.free b o e n hx)
  exact ⟨sl', e2⟩
 ·obtain ⟨o', e1⟩ := I.base.there b o e hx
  exact free b o' (neC b o e hx) e1 (I.base.free b o e n hx)
 ·obtain ⟨o', e1⟩ := I.base.there b o e hx
  exact there b o' (neC b o e hx) e1
 ·obtain ⟨m1, e1⟩ := I.base.tbls b ps e
  obtain ⟨m2, e2⟩ := tbls b _ e1
  exact ⟨m1 ++ m2, by rw [e2, Array.append_assoc]⟩
 ·obtain ⟨m, hn, hl⟩ := I.loc
  refine ⟨m, ns m hn, fun i x v e1 e2 e3 => ?_⟩
  obtain ⟨u, r, l⟩ := hl i x v e1 e2 e3
  refine ⟨u, r, ?_⟩
  rcases l with l | ⟨k, c, e, z⟩
  ·exact .inl l
  ·exact .inr ⟨k, c, e, cellK x c e _ z⟩
 ·obtain ⟨v, z⟩ := I.cell x c e
  exact ⟨v, cellK x c e v z⟩
 ·obtain ⟨m, ⟨o, _, _, ho, _⟩, _⟩ := I.loc
  exact free _ o (fun z => (hch _ z).2.1 rfl) ho I.free
 ·obtain ⟨v, o, ho, hd⟩ := I.cell x c e
  exact free c o (fun z => (hch c z).2.2.1 x c e rfl) ho (I.freeC x c e)
 ·obtain ⟨e, n, ne, nf, d⟩ := I.pin p hp
  have nch : p.1 ∉ ch := fun z => (hch p.1 z).2.2.2 p hp rfl
  exact ⟨keep p.1 p.2 ne nf nch e n, free p.1 p.2 nch e n, ne, nf, d⟩
theorem Inv.un {t' : Nat} (I : Inv X pins σ H s) (u : Un X.fs [] H H' s.heap h') (hok : HOk X.prog X.w H' h') : Inv X pins σ H' { s with heap := h', toks := t' } := by
 obtain ⟨m, ⟨o, es, ep, ho, r⟩, _⟩ := id I.loc
 obtain ⟨sl, hL⟩ := u.any ho I.free (by simp)
 exact I.step (g' := s.gens) (d' := s.drawn) (ch := []) (fun _ z => nomatch z) (fun b o _ hb _ e n => u.keep b o e n hb (by simp)) (fun b o _ hb _ e n => u.slot b o e n hb (by simp)) (fun b o _ e n => u.free b o e n (by simp)) (fun b o _ e => u.there b o e (by simp)) u.tups u.frzs u.tbls (fun m' hm => by
  obtain ⟨o', es', ep', ho', r'⟩ := hm
  rw [ho] at ho'; cases ho'
  exact ⟨_, es', ep', hL, r'⟩) hok I.bare
theorem Inv.call {g' : Array GenState} {t' : Nat} {d' : Drawn} {ch : List Addr} (I : Inv X pins σ H s) (u : Un (frs X.stack) ch H H' s.heap h') (hok : HOk X.prog X.w H' h') (hg : AllBare g')
  (hch : ∀ b ∈ ch, (b ∈ X.ex \/ X.s₀.heap.objs.size <= b) /\ b ≠ X.env.locals /\ (∀ x c, X.env.cells.lookup x = some c -> c ≠ b) /\ ∀ p ∈ X.pn ++ pins, p.1 ≠ b) :
  Inv X pins σ H' { s with heap := h', gens := g', drawn := d', toks := t' } := by
 obtain ⟨m, ⟨o, es, ep, ho, r⟩, _⟩ := id I.loc
 obtain ⟨sl, hL⟩ := u.any ho I.free fun z => (hch _ z).2.1 rfl
 exact I.step (ch := ch) hch (fun b o hL hb hc e n => u.keep b o e n (fun z => (List.mem_cons.mp (I.stkSub b z)).elim hL hb) hc) (fun b o _ _ hc e n => u.any e n hc) (fun b o hc e n => u.free b o e n hc) (fun b o hc e => u.there b o e hc) u.tups u.frzs u.tbls (fun m' hm => by
  obtain ⟨o', es', ep', ho', r'⟩ := hm
  rw [ho] at ho'; cases ho'
  exact ⟨_, es', ep', hL, r'⟩) hok hg
theorem Inv.turned {t' : Nat} {it : Addr} (I : Inv X pins σ H s) (k : ∀ b o, b ≠ it -> s.heap.get? b = some o -> h'.get? b = some o) (hn : H it = none) (hL : it ≠ X.env.locals)
  (h1 : it ∈ X.ex \/ X.s₀.heap.objs.size <= it) (h2 : ∀ x c, X.env.cells.lookup x = some c -> c ≠ it) (h3 : ∀ p ∈ X.pn ++ pins, p.1 ≠ it) : Inv X pins σ H { s with heap := h', toks := t' } := by
 have nit : ∀ b u, H b = some u -> b ≠ it := fun b u e z => by rw [z, hn] at e; cases e
 refine I.step (g' := s.gens) (d' := s.drawn) (ch := [it]) (fun b hb => ?_) (fun b o _ _ hc e _ => k b o (fun z => hc (by simp [z])) e) (fun b o _ _ hc e _ => ⟨o.slots, k b o (fun z => hc (by simp [z])) e⟩) (fun _ _ _ _ n => n)
  (fun b o hc e => ⟨o, k b o (fun z => hc (by simp [z])) e⟩) (fun _ _ e => e) (fun _ _ _ e => e) (fun b ps e => ⟨#[], by rw [e]; simp⟩) (fun m hm => ?_) (fun b u e => ?_) I.bare
 ·have e : b = it := by simpa using hb
  subst e
  exact ⟨h1, hL, h2, h3⟩
 ·obtain ⟨o, es, ep, ho, r⟩ := hm
  exact ⟨o, es, ep, k _ o (Ne.symm hL) ho, r⟩
 ·refine (I.hok b u e).stay (fun c v hc q => k c v ?_ q) (fun _ q => q) fun _ _ q => q
  rcases hc with z | z
  ·rw [z]; exact nit b u e
  ·exact nit c _ z
theorem Inv.tok (I : Inv X pins σ H s) (t : Nat) : Inv X pins σ H { s with toks := t } := I.un (h' := s.heap) (t' := t) Un.refl I.hok
theorem Inv.kept {t' : Nat} (I : Inv X pins σ H s) (k : ∀ b u, s.heap.get? b = some u -> h'.get? b = some u) : Inv X pins σ H { s with heap := h', toks := t' } := I.un (Un.kept k) (I.hok.kept k)
theorem Inv.laid {a : Addr} {o : HO} {t' : Nat} (I : Inv X pins σ H s) (k : ∀ b u, s.heap.get? b = some u -> h'.get? b = some u) (hp : s.heap.objs.size <= a) (new : ObjOk X.prog X.w (upd H a o) h' a o) :
  Inv X pins σ (upd H a o) { s with heap := h', toks := t' } := I.un (Un.laid k hp (I.hok.fresh hp)) (I.hok.laid k hp new)
theorem Inv.write {x e : Addr} {o : HO} {t' : Nat} (I : Inv X pins σ H s) (mu : Mut (H x)) (he : e = x \/ H e = some (.own x)) (k : ∀ b u, b ≠ e -> s.heap.get? b = some u -> h'.get? b = some u) (heo : ∃ u, h'.get? e = some u)
  (new : ObjOk X.prog X.w (upd H x o) h' x o) : Inv X pins σ (upd H x o) { s with heap := h', toks := t' } := I.un (Un.write mu he k heo) (I.hok.write mu he k heo new)
theorem Inv.weak {σ' : List (Option V)} (I : Inv X pins σ H s) (hl : σ'.length = σ.length) (w : ∀ (i : Nat) v, σ'[i]? = some (some v) -> σ[i]? = some (some v)) : Inv X pins σ' H s :=
 ⟨I.ok, I.os, I.bare, I.base, let ⟨m, hn, hl'⟩ := I.loc; ⟨m, hn, fun i x v e1 e2 e3 => hl' i x v e1 (w i v e2) e3⟩, I.cell, I.free, I.freeC, I.pin, I.hok, hl.trans I.len⟩
theorem Inv.pins_of {pins' : List (Addr × Obj)} (I : Inv X pins σ H s) (h : ∀ p ∈ pins', s.heap.get? p.1 = some p.2 /\ H p.1 = none /\ p.1 ≠ X.env.locals /\ p.1 ∉ X.fs /\ ∀ v, p.2.data ≠ .cell v) : Inv X pins' σ H s :=
 ⟨I.ok, I.os, I.bare, I.base, I.loc, I.cell, I.free, I.freeC, fun p hp => (List.mem_append.mp hp).elim (fun z => I.pin p (List.mem_append_left _ z)) (h p), I.hok, I.len⟩
theorem oF {N : List Str} (hN : N.Nodup) {i j : Nat} {x : Str} (a : N[i]? = some x) (b : N[j]? = some x) : i = j := by
 obtain ⟨h1, e1⟩ := List.getElem?_eq_some_iff.mp a
 obtain ⟨h2, e2⟩ := List.getElem?_eq_some_iff.mp b
 exact (List.getElem_inj hN).mp (e1.trans e2.symm)
theorem g_ {M : Model} {A : Around} {E : Value -> Shared -> Prop} {i : Nat} {x : Str} {v : V} {u : Value} {Q : Unit -> Shared -> Prop} (I : Inv X pins σ H s) (hN : X.N.Nodup) (hi : X.N[i]? = some x) (hx : Loc X.env.scope x) (r : RelV v u)
  (h : ∀ s', Inv X pins (σ.set i (some v)) H s' -> (∃ a, Heap.SameBut a s.heap s'.heap /\ (a = X.env.locals \/ X.env.cells.lookup x = some a)) -> Q () s') (hf : X.fn x = true \/ X.env.scope.names.lookup x = some .local := by first | exact .inl rfl | exact .inr rfl | assumption) : wpAny M A (storeName X.env x u) Q E s := by
 obtain ⟨m, hn, hl⟩ := id I.loc
 have hcls : (X.env.scope.kind == .class || (X.env.scope.kind == .module && X.env.locals != X.env.globals)) = false := by rw [I.ok.kind]; rfl
 have hiσ : i < σ.length := by rw [I.len]; exact (List.getElem?_eq_some_iff.mp hi).1
 have cne := I.cne
 have tracked : ∀ {a : Addr} {h' : Heap}, (∃ o, s.heap.get? a = some o /\ H a = none) -> Heap.SameBut a s.heap h' -> HOk X.prog X.w H h' := fun {a h'} ha hs b ob e => by
  obtain ⟨_, _, hfree⟩ := ha
  refine (I.hok b ob e).stay (fun c w' hc q => (hs.2 c ?_).trans q) (fun _ q => q) fun _ _ q => q
  rintro rfl
  rcases hc with rfl | hc
  ·rw [hfree] at e; cases e
  ·rw [hfree] at hc; cases hc
 rcases hx with hk | hk
 ·refine wpAny_storeName_local hk hn (fun h' hn' hs => ?_) hcls
  obtain ⟨oL, _, _, hoL, _⟩ := id hn
  refine h _ ⟨I.ok, I.os, I.bare, ⟨fun b o e n hb hx => ?_, fun b o e n hb hx => ?_, I.base.free, fun b o e hx => ?_, I.base.tups, I.base.frzs, I.base.tbls⟩, ⟨_, hn', fun j y v' e1 e2 e3 => ?_⟩, fun y c e => ?_, I.free, I.freeC, fun p hp => ?_, tracked ⟨oL, hoL, I.free⟩ hs, by simpa using I.len⟩ ⟨_, hs, .inl rfl⟩
  ·exact (hs.2 b (Nat.ne_of_lt (Nat.lt_of_lt_of_le (Heap.lt_size e) I.ok.above))).trans (I.base.keep b o e n hb hx)
  ·obtain ⟨sl, e1⟩ := I.base.slot b o e n hb hx
   exact ⟨sl, (hs.2 b (Nat.ne_of_lt (Nat.lt_of_lt_of_le (Heap.lt_size e) I.ok.above))).trans e1⟩
  ·obtain ⟨o', e1⟩ := I.base.there b o e hx
   exact ⟨o', (hs.2 b (Nat.ne_of_lt (Nat.lt_of_lt_of_le (Heap.lt_size e) I.ok.above))).trans e1⟩
  ·by_cases hj : j = i
   ·subst hj
    rw [hi] at e1; cases e1
    rw [List.getElem?_set_self hiσ] at e2
    cases e2
    exact ⟨u, r, .inl ⟨hk, by simp⟩⟩
   ·rw [List.getElem?_set_ne (Ne.symm hj)] at e2
    obtain ⟨u', r', q⟩ := hl j y v' e1 e2 e3
    refine ⟨u', r', ?_⟩
    rcases q with ⟨k, e⟩ | ⟨k, c, e, z⟩
    ·refine .inl ⟨k, ?_⟩
     have : y ≠ x := fun e => hj (oF hN e1 (e ▸ hi))
     simp [this, e]
    ·exact .inr ⟨k, c, e, z.sameBut hs (cne y c e)⟩
  ·obtain ⟨w', z⟩ := I.cell y c e
   exact ⟨w', z.sameBut hs (cne y c e)⟩
  ·obtain ⟨e, n, ne, nf, d⟩ := I.pin p hp
   exact ⟨(hs.2 p.1 ne).trans e, n, ne, nf, d⟩
 ·have hfn : X.fn x = true := by
   rcases hf with z | z
   ·exact z
   ·rw [z] at hk; cases hk
  obtain ⟨c, hc⟩ := I.ok.has x (.inl hk)
  obtain ⟨w', z⟩ := I.cell x c hc
  refine wpAny_storeName_cell I.ok.kind hk hc z (fun h' hc' hs => ?_)
  obtain ⟨oc, hoc, hocd⟩ := id z
  refine h { s with heap := h' } ⟨I.ok, I.os, I.bare, ⟨fun b o e n hb hx => ?_, fun b o e n hb hx => ?_, I.base.free, fun b o e hx => ?_, I.base.tups, I.base.frzs, I.base.tbls⟩, ⟨m, hn.sameBut hs (Ne.symm (cne x c hc)), fun j y v' e1 e2 e3 => ?_⟩, fun y c' e => ?_, I.free, I.freeC, fun p hp => ?_, tracked ⟨oc, hoc, I.freeC x c hc⟩ hs, by simpa using I.len⟩ ⟨c, hs, .inr hc⟩
  ·exact (hs.2 b (Nat.ne_of_lt (Nat.lt_of_lt_of_le (Heap.lt_size e) (I.ok.cab x c hfn hc)))).trans (I.base.keep b o e n hb hx)
  ·obtain ⟨sl, e1⟩ := I.base.slot b o e n hb hx
   exact ⟨sl, (hs.2 b (Nat.ne_of_lt (Nat.lt_of_lt_of_le (Heap.lt_size e) (I.ok.cab x c hfn hc)))).trans e1⟩
  ·obtain ⟨o', e1⟩ := I.base.there b o e hx
   exact ⟨o', (hs.2 b (Nat.ne_of_lt (Nat.lt_of_lt_of_le (Heap.lt_size e) (I.ok.cab x c hfn hc)))).trans e1⟩
  ·by_cases hj : j = i
   ·subst hj
    rw [hi] at e1; cases e1
    rw [List.getElem?_set_self hiσ] at e2
    cases e2
    exact ⟨u, r, .inr ⟨.inl hk, c, hc, hc'⟩⟩
   ·rw [List.getElem?_set_ne (Ne.symm hj)] at e2
    obtain ⟨u', r', q⟩ := hl j y v' e1 e2 e3
    refine ⟨u', r', ?_⟩
    rcases q with q | ⟨k, c', e, z'⟩
    ·exact .inl q
    ·refine .inr ⟨k, c', e, z'.sameBut hs ?_⟩
     rintro rfl
     exact hj (oF hN e1 (I.ok.inj _ _ _ e hc ▸ hi))
  ·by_cases hcc : c' = c
   ·subst hcc; exact ⟨_, hc'⟩
   ·obtain ⟨w2, z2⟩ := I.cell y c' e
    exact ⟨w2, z2.sameBut hs hcc⟩
  ·obtain ⟨e, n, ne, nf, d⟩ := I.pin p hp
   refine ⟨(hs.2 p.1 ?_).trans e, n, ne, nf, d⟩
   intro q
   rw [q, hoc] at e
   have q' : oc = p.2 := Option.some.inj e
   exact d w' (by rw [<- q']; exact hocd)
theorem jl {M : Model} {A : Around} {E : Value -> Shared -> Prop} {i : Nat} {x : Str} {v : V} {u : Value} {Q : Unit -> Shared -> Prop} (I : Inv X pins σ H s) (hN : X.N.Nodup) (hi : X.N[i]? = some x) (hx : Loc X.env.scope x) (r : RelV v u)
  (h : ∀ s', Inv X pins (σ.set i (some v)) H s' -> Q () s') (hf : X.fn x = true \/ X.env.scope.names.lookup x = some .local := by first | exact .inl rfl | exact .inr rfl | assumption) : wpAny M A (storeName X.env x u) Q E s :=
 g_ I hN hi hx r (fun s' I' _ => h s' I') hf
theorem Inv.call' {s' : Shared} {ch : List Addr} (I : Inv X pins σ H s) (ho : s'.os = s.os) (u : Un (frs X.stack) ch H H' s.heap s'.heap) (hok : HOk X.prog X.w H' s'.heap) (hg : AllBare s'.gens)
  (hch : ∀ b ∈ ch, (b ∈ X.ex \/ X.s₀.heap.objs.size <= b) /\ b ≠ X.env.locals /\ (∀ x c, X.env.cells.lookup x = some c -> c ≠ b) /\ ∀ p ∈ X.pn ++ pins, p.1 ≠ b) : Inv X pins σ H' s' := by
 obtain ⟨h', g', d', t', o'⟩ := s'
 have e : o' = s.os := ho
 subst e
 exact I.call (g' := g') (t' := t') (d' := d') u hok hg hch
end
abbrev XK := Value -> Option Addr -> Hp -> Prop
abbrev St := List (Option V)
abbrev VK := V -> Hp -> Prop
abbrev TE := St -> Hp -> VK -> Prop
abbrev TT := St -> Hp -> (Bool -> Hp -> Prop) -> Prop
abbrev TA := St -> Hp -> (List V -> Hp -> Prop) -> Prop
structure Ends where
 nx : St -> Hp -> Prop
 rt : VK
 bk : St -> Hp -> Prop := fun _ _ => False
 ct : St -> Hp -> Prop := fun _ _ => False
abbrev TS := Ends -> St -> Hp -> Prop
def EP (X : Cx) (pins : List (Addr × Obj)) (σ : St) (Q : VK) (u : Value) (s' : Shared) : Prop := ∃ v H', Inv X pins σ H' s' /\ RelV v u /\ Q v H'
def TP (X : Cx) (pins : List (Addr × Obj)) (σ : St) (Q : Bool -> Hp -> Prop) (b : Bool) (s' : Shared) : Prop := ∃ H', Inv X pins σ H' s' /\ Q b H'
def AP (X : Cx) (pins : List (Addr × Obj)) (σ : St) (Q : List V -> Hp -> Prop) (us : List Value) (s' : Shared) : Prop := ∃ vs H', Inv X pins σ H' s' /\ Vals vs us /\ Q vs H'
def SP (X : Cx) (pins : List (Addr × Obj)) (D : Ends) (f : Flow) (s' : Shared) : Prop :=
 match f with
 | .next => ∃ σ' H', Inv X pins σ' H' s' /\ D.nx σ' H'
 | .brk => ∃ σ' H', Inv X pins σ' H' s' /\ D.bk σ' H'
 | .cont => ∃ σ' H', Inv X pins σ' H' s' /\ D.ct σ' H'
 | .ret u => ∃ v σ' H', Inv X pins σ' H' s' /\ RelV v u /\ D.rt v H'
def PE (X : Cx) (e : Expr) (t : TE) : Prop :=
 ∀ (pins : List (Addr × Obj)) (s : Shared) (σ : St) (H : Hp) (Q : VK), Inv X pins σ H s -> t σ H Q -> wpAny (model X.prog X.w) X.A (eval e X.env) (EP X pins σ Q) X.xe s
def PT (X : Cx) (e : Expr) (t : TT) : Prop :=
 ∀ (pins : List (Addr × Obj)) (s : Shared) (σ : St) (H : Hp) (Q : Bool -> Hp -> Prop), Inv X pins σ H s -> t σ H Q -> wpAny (model X.prog X.w) X.A (isTrue e X.env (eval e X.env)) (TP X pins σ Q) X.xe s
def PW (X : Cx) (e : Expr) (t : TT) : Prop :=
 ∀ (whole : Sem Value) (pins : List (Addr × Obj)) (s : Shared) (σ : St) (H : Hp) (Q : Bool -> Hp -> Prop), Inv X pins σ H s -> t σ H Q -> wpAny (model X.prog X.w) X.A (isTrue e X.env whole) (TP X pins σ Q) X.xe s
theorem PW.pt {X : Cx} {e : Expr} {t : TT} (h : PW X e t) : PT X e t := h _
def PA (X : Cx) (es : List Expr) (t : TA) : Prop :=
 ∀ (pos : Pos) (pins : List (Addr × Obj)) (s : Shared) (σ : St) (H : Hp) (Q : List V -> Hp -> Prop), Inv X pins σ H s -> t σ H Q -> wpAny (model X.prog X.w) X.A (spliced (backTo pos (starEach es X.env))) (AP X pins σ Q) X.xe s
def PS (X : Cx) (st : Stmt) (t : TS) : Prop :=
 ∀ (pins : List (Addr × Obj)) (s : Shared) (σ : St) (H : Hp) (D : Ends), Inv X pins σ H s -> t D σ H -> wpAny (model X.prog X.w) X.A (exec st X.env) (SP X pins D) X.xe s
def PSs (X : Cx) (st : List Stmt) (t : TS) : Prop :=
 ∀ (pins : List (Addr × Obj)) (s : Shared) (σ : St) (H : Hp) (D : Ends), Inv X pins σ H s -> t D σ H -> wpAny (model X.prog X.w) X.A (execs st X.env) (SP X pins D) X.xe s
theorem thn {α : Type} {t : Sem α} {Q Q' : α -> Shared -> Prop} {M : Model} {A : Around} {E : Value -> Shared -> Prop} {s : Shared} (h : wpAny M A t Q E s) (hQ : ∀ a s, Q a s -> Q' a s) : wpAny M A t Q' E s := wpAny_mono h hQ fun _ _ x => x
end L2
namespace L2
open PySem PySem.Spec PyProof.Rows
section
variable {X : Cx}
def vI (i : Nat) : TE := fun σ H Q => ∃ v, σ[i]? = some (some v) /\ Q v H
def tC (v : V) : TE := fun _ H Q => Q v H
theorem vm {i : Nat} {x : Str} {pos : Pos} (hN : X.N[i]? = some x) (hv : Vis X.env.scope x) (hd : (x == ("__debug__" : Str)) = false := by decide) (hcd : (x == ("__classdict__" : Str)) = false := by decide) : PE X (.Name x pos) (vI i) := by
 intro pins s σ H Q I h
 obtain ⟨v, e, h⟩ := h
 obtain ⟨m, hn, hl⟩ := I.loc
 obtain ⟨u, r, l⟩ := hl i x v hN e hv
 have fin : EP X pins σ Q u s := ⟨v, H, I, r, h⟩
 rcases l with ⟨hk, hm⟩ | ⟨hk, c, hc, hcell⟩
 ·exact wpAny_Name (wpAny_loadName_local I.ok.kind hk hn hm fin) hd
 ·rcases hk with hk | hk
  ·exact wpAny_Name (wpAny_loadName_cell I.ok.kind hk hc hcell fin) hd
  ·exact wpAny_Name (wpAny_loadName_free I.ok.kind hk hc hcell fin hcd) hd
theorem az {i j pos} : PE X (.Constant (.int i) j pos) (tC (.int i)) := fun _ _ _ H _ I h => wpAny_Constant_int ⟨.int i, H, I.tok _, ⟨_, rfl⟩, h⟩
theorem du {b j pos} : PE X (.Constant (.bool b) j pos) (tC (.bl b)) := fun _ _ _ H _ I h => Constant_bool ⟨.bl b, H, I, rfl, h⟩
theorem cO {j pos} : PE X (.Constant .none j pos) (tC .non) := fun _ _ _ H _ I h => Constant_none ⟨.non, H, I, rfl, h⟩
theorem aC {x j pos} : PE X (.Constant (.str x) j pos) (tC (.str x)) := fun _ _ _ H _ I h => Calls.Constant_str ⟨.str x, H, I.tok _, ⟨_, rfl⟩, h⟩
def Gl (X : Cx) (x : Str) : Prop := X.env.kindOf x = some .globalImplicit
theorem gD {E : Value -> Shared -> Prop} {pins : List (Addr × Obj)} {s : Shared} {σ : St} {H : Hp} {x : Str} {u : Value} {pos : Pos} {Q : Value -> Shared -> Prop} (I : Inv X pins σ H s) (hg : Gl X x) (hm : X.mg x = some u) (h : Q u s)
  (hd : (x == ("__debug__" : Str)) = false := by decide) : wpAny (model X.prog X.w) X.A (eval (.Name x pos) X.env) Q E s :=
 Calls.Name_function_global I.ok.kind hg (Calls.loadGlobal_global (by rw [I.ok.glob]; exact I.mod.glob.keeps I.bk) hm h) hd
theorem gk {E : Value -> Shared -> Prop} {pins : List (Addr × Obj)} {s : Shared} {σ : St} {H : Hp} {x : Str} {u : Value} {pos : Pos} {Q : Value -> Shared -> Prop} (I : Inv X pins σ H s) (hg : Gl X x) (hm : X.mg x = none) (hv : bootBuiltins x = some u) (h : Q u s)
  (hn : x ≠ "__name__" := by decide) (hd : (x == ("__debug__" : Str)) = false := by decide) : wpAny (model X.prog X.w) X.A (eval (.Name x pos) X.env) Q E s := by
 obtain ⟨mb, h1, h2⟩ := I.mod.blt
 exact Calls.Name_function_global I.ok.kind hg (Calls.loadGlobal_builtin (by rw [I.ok.glob]; exact I.mod.glob.keeps I.bk) hm (by rw [I.ok.blt]; exact h1.keeps I.bk) ((h2 x hn).trans hv) h) hd
theorem pL {x : Str} {v : V} {u : Value} {pos : Pos} (hg : Gl X x) (hm : X.mg x = some u) (r : RelV v u) (hd : (x == ("__debug__" : Str)) = false := by decide) : PE X (.Name x pos) (tC v) :=
 fun _ _ _ H _ I h => gD I hg hm ⟨v, H, I, r, h⟩ hd
theorem cA {x : Str} {v : V} {u : Value} {pos : Pos} (hg : Gl X x) (hm : X.mg x = none) (hv : bootBuiltins x = some u) (r : RelV v u) (hn : x ≠ "__name__" := by decide) (hd : (x == ("__debug__" : Str)) = false := by decide) : PE X (.Name x pos) (tC v) :=
 fun _ _ _ H _ I h => gk I hg hm hv ⟨v, H, I, r, h⟩ hn hd
def t2I (ta tb : TE) (k : Int -> Int -> Hp -> Prop) : St -> Hp -> Prop := fun σ H => ta σ H fun x H1 => tb σ H1 fun y H2 => ∃ i j, x = .int i /\ y = .int j /\ k i j H2
def zr (ta tb : TE) : TE := fun σ H Q => t2I ta tb (fun i j H2 => Q (.int (i + j)) H2) σ H
def zp (ta tb : TE) : TE := fun σ H Q => t2I ta tb (fun i j H2 => Q (.int (i - j)) H2) σ H
def zQ (ta tb : TE) : TE := fun σ H Q => t2I ta tb (fun i j H2 => (-(2 ^ 64) < i /\ i < 2 ^ 64) /\ Q (.int (i * j)) H2) σ H
variable {a b : Expr} {ta tb : TE} {pos : Pos}
def PC (X : Cx) (op : CmpOp) (a b : Expr) (t : TE) : Prop :=
 ∀ (pins : List (Addr × Obj)) (s : Shared) (σ : St) (H : Hp) (Q : VK), Inv X pins σ H s -> t σ H Q ->
  wpAny (model X.prog X.w) X.A (eval a X.env) (fun v s₁ => wpAny (model X.prog X.w) X.A (eval b X.env) (fun u s₂ => wpAny (model X.prog X.w) X.A (compareOp op v u) (EP X pins σ Q) X.xe s₂) X.xe s₁) X.xe s
theorem tV (b : Expr) {op : CmpOp} (h : op ≠ .In) (h2 : op ≠ .NotIn) : behindInMarks op b = false := by
 have e1 : (op == CmpOp.In) = false := by cases op <;> first | rfl | exact absurd rfl h
 have e2 : (op == CmpOp.NotIn) = false := by cases op <;> first | rfl | exact absurd rfl h2
 cases b <;> simp [behindInMarks, e1, e2]
def kY (p : Int -> Int -> Bool) (ta tb : TE) : TE := fun σ H Q => t2I ta tb (fun i j H2 => Q (.bl (p i j)) H2) σ H
abbrev tLt : TE -> TE -> TE := kY fun i j => decide (i < j)
abbrev tLe : TE -> TE -> TE := kY fun i j => decide (i <= j)
abbrev tGt : TE -> TE -> TE := kY fun i j => decide (j < i)
abbrev tGe : TE -> TE -> TE := kY fun i j => decide (j <= i)
abbrev yZ : TE -> TE -> TE := kY fun i j => decide (i = j)
abbrev zR : TE -> TE -> TE := kY fun i j => !decide (i = j)
def zL (ta : TE) : TE := fun σ H Q => ta σ H fun x H1 => Q (.bl (decide (x = .non))) H1
def yI (ta : TE) : TE := fun σ H Q => ta σ H fun x H1 => Q (.bl (!decide (x = .non))) H1
def tB (t : TE) : TT := fun σ H Q => t σ H fun x H1 => ∃ c, x = .bl c /\ Q c H1
theorem vg {op : CmpOp} {t : TE} (h : PC X op a b t) (h1 : behindInMarks op b = false := by first | exact tV _ (by decide) (by decide) | rfl) : PE X (.Compare a [op] [b] pos) t := fun pins s σ H Q I hw => wpAny_Compare1 (h pins s σ H Q I hw) h1
theorem bH {e : Expr} {t : TE} (h : PE X e t) (he : ∀ whole, isTrue e X.env whole = (do let v <- whole; standAt e.pos; holding [v] (truthy v)) := by intro _; rfl) : PT X e (tB t) := by
 intro pins s σ H Q I hw
 refine isTrue_plain (thn (h pins s σ H _ I hw) fun v s1 ⟨x, H1, I1, r1, q1⟩ => ?_) (he _)
 obtain ⟨d, rfl, q⟩ := q1
 cases r1
 exact wpAny_truthy_bool ⟨H1, I1, q⟩
variable {tA tB' : TT} {rest : List Expr}
def xH (t u : TT) : TT := fun σ H Q => t σ H fun c H1 => if c = true then u σ H1 Q else Q false H1
def tOr (t u : TT) : TT := fun σ H Q => t σ H fun c H1 => if c = true then Q true H1 else u σ H1 Q
def xX (t : TT) : TT := fun σ H Q => t σ H fun c H1 => Q (!c) H1
theorem kO (ha : PT X a tA) : PW X (.BoolOp .And [a] pos) tA := by
 intro wh pins s σ H Q I h
 refine isTrue_and (thn (ha pins s σ H Q I h) fun c s1 e => ?_)
 cases c with
 | true => exact isTrue_and_nil e
 | false => exact e
theorem cI (ha : PT X a tA) : PW X (.BoolOp .Or [a] pos) tA := by
 intro wh pins s σ H Q I h
 refine isTrue_or (thn (ha pins s σ H Q I h) fun c s1 e => ?_)
 cases c with
 | false => exact isTrue_or_nil e
 | true => exact e
theorem oM (ha : PT X a tA) (hb : PW X (.BoolOp .And (b :: rest) pos) tB') : PW X (.BoolOp .And (a :: b :: rest) pos) (xH tA tB') := by
 intro wh pins s σ H Q I h
 refine isTrue_and (thn (ha pins s σ H _ I h) fun c s1 ⟨H1, I1, q1⟩ => ?_)
 cases c with
 | true => exact hb wh pins s1 σ H1 Q I1 q1
 | false => exact ⟨H1, I1, q1⟩
theorem cQ (ha : PT X a tA) (hb : PW X (.BoolOp .Or (b :: rest) pos) tB') : PW X (.BoolOp .Or (a :: b :: rest) pos) (tOr tA tB') := by
 intro wh pins s σ H Q I h
 refine isTrue_or (thn (ha pins s σ H _ I h) fun c s1 ⟨H1, I1, q1⟩ => ?_)
 cases c with
 | true => exact ⟨H1, I1, q1⟩
 | false => exact hb wh pins s1 σ H1 Q I1 q1
theorem bC (ha : PT X a tA) : PT X (.UnaryOp .Not a pos) (xX tA) := by
 intro pins s σ H Q I h
 exact isTrue_not (ha pins s σ H (fun c H1 => Q (!c) H1) I h)
def xf (ta tb : TE) : TE := fun σ H Q => ta σ H fun x H1 => ∃ c, x = .bl c /\ if c = true then tb σ H1 Q else Q (.bl false) H1
def xJ (ta tb : TE) : TE := fun σ H Q => ta σ H fun x H1 => ∃ c, x = .bl c /\ if c = true then Q (.bl true) H1 else tb σ H1 Q
def wX (ta : TE) : TE := fun σ H Q => ta σ H fun x H1 => ∃ c, x = .bl c /\ Q (.bl (!c)) H1
theorem iC {op} {t : TE} (h : PE X a t) : PE X (.BoolOp op [a] pos) t := fun pins s σ H Q I hw => BoolOp_one (h pins s σ H Q I hw)
theorem jr (ha : PE X a ta) (hb : PE X (.BoolOp .And (b :: rest) pos) tb) : PE X (.BoolOp .And (a :: b :: rest) pos) (xf ta tb) := by
 intro pins s σ H Q I h
 refine BoolOp_and (thn (ha pins s σ H _ I h) fun v s1 ⟨x, H1, I1, r1, q1⟩ => ?_)
 obtain ⟨c, rfl, q1⟩ := q1
 cases r1
 refine wpAny_truthy_bool ?_
 cases c with
 | true => exact hb pins s1 σ H1 Q I1 q1
 | false => exact ⟨.bl false, H1, I1, rfl, q1⟩
theorem ur (ha : PE X a ta) (hb : PE X (.BoolOp .Or (b :: rest) pos) tb) : PE X (.BoolOp .Or (a :: b :: rest) pos) (xJ ta tb) := by
 intro pins s σ H Q I h
 refine BoolOp_or (thn (ha pins s σ H _ I h) fun v s1 ⟨x, H1, I1, r1, q1⟩ => ?_)
 obtain ⟨c, rfl, q1⟩ := q1
 cases r1
 refine wpAny_truthy_bool ?_
 cases c with
 | false => exact hb pins s1 σ H1 Q I1 q1
 | true => exact ⟨.bl true, H1, I1, rfl, q1⟩
theorem rR (ha : PE X a ta) : PE X (.UnaryOp .Not a pos) (wX ta) := by
 intro pins s σ H Q I h
 refine UnaryOp_ (thn (ha pins s σ H _ I h) fun v s1 ⟨x, H1, I1, r1, q1⟩ => ?_)
 obtain ⟨c, rfl, q1⟩ := q1
 cases r1
 exact not_of (wpAny_truthy_bool ⟨.bl (!c), H1, I1, rfl, q1⟩)
def tIf (t : TT) (ta tb : TE) : TE := fun σ H Q => t σ H fun c H1 => if c = true then ta σ H1 Q else tb σ H1 Q
theorem tY {c : Expr} (hc : PT X c tA) (ha : PE X a ta) (hb : PE X b tb) : PE X (.IfExp c a b pos) (tIf tA ta tb) := by
 intro pins s σ H Q I h
 refine wpAny_IfExp (thn (hc pins s σ H _ I h) fun d s1 ⟨H1, I1, q1⟩ => ?_)
 cases d with
 | true => exact ha pins s1 σ H1 Q I1 q1
 | false => exact hb pins s1 σ H1 Q I1 q1
end
end L2
namespace L2
open PySem PySem.Spec PyProof.Rows
def SqL (K : PySem.W.Frag) (H : Hp) (a : Addr) (xs : List V) : Prop :=
 Rd H a (.lst xs) \/
  ∃ (o : Obj) (its : Array Value) (n : Nat), K.lookup a = some o /\ o.cls = .type "list" /\ o.dict = none /\ o.data = .seq its n /\ its.size <= sizeLine /\ Vals xs its.toList
def SqT (K : PySem.W.Frag) (H : Hp) (a : Addr) (xs : List V) : Prop :=
 Rd H a (.tup xs) \/
  ∃ (o : Obj) (its : Array Value) (n : Nat), K.lookup a = some o /\ o.cls = .type "tuple" /\ o.data = .seq its n /\ its.size <= sizeLine /\ Vals xs its.toList
def xq : Value -> Option V
 | .none => some .non
 | .bool b => some (.bl b)
 | .int i _ => some (.int i)
 | .str x _ => some (.str x)
 | .bytes b _ => some (.byt b)
 | .float b _ => some (.flt b)
 | .ref a => some (.ref a)
 | .type n => some (.ty n)
 | _ => none
theorem RelV.abs {x : V} {u : Value} (r : RelV x u) : xq u = some x := by
 cases x with
 | non => cases r; rfl
 | bl _ => cases r; rfl
 | int _ => obtain ⟨t, rfl⟩ := r; rfl
 | str _ => obtain ⟨t, rfl⟩ := r; rfl
 | byt _ => obtain ⟨t, rfl⟩ := r; rfl
 | flt _ => obtain ⟨t, rfl⟩ := r; rfl
 | ref _ => cases r; rfl
 | ty _ => cases r; rfl
theorem RelV.inj {x y : V} {u : Value} (r : RelV x u) (q : RelV y u) : x = y := Option.some.inj (r.abs.symm.trans q.abs)
theorem Vals.inj : ∀ {xs ys : List V} {us : List Value}, Vals xs us -> Vals ys us -> xs = ys
 | _, _, _, .nil, .nil => rfl
 | _, _, _, .cons r t, .cons r' t' => by rw [r.inj r', Vals.inj t t']
section
variable {X : Cx} {pins : List (Addr × Obj)} {σ : St} {H : Hp} {s : Shared} {a : Addr} {xs ys : List V}
theorem SqL.of {K : PySem.W.Frag} (h : H a = some (.lst xs)) : SqL K H a xs := .inl (.inl h)
theorem SqT.of {K : PySem.W.Frag} (h : H a = some (.tup xs)) : SqT K H a xs := .inl (.inl h)
theorem Inv.list (I : Inv X pins σ H s) (h : SqL X.K H a xs) : ∃ its : List Value, Vals xs its /\ PlainL s.heap a its.toArray /\ xs.length <= sizeLine := by
 rcases h with h | ⟨o, its, n, hk, hc, hd, hs, hz, r⟩
 ·obtain ⟨z, its, n, r, e⟩ := h.ok I.hok
  exact ⟨its, r, ⟨_, n, e, rfl, rfl, rfl⟩, z⟩
 ·refine ⟨its.toList, r, ⟨o, n, I.kIn a o hk, hc, hd, by simpa using hs⟩, ?_⟩
  have e := r.length
  simp only [Array.length_toList] at e
  omega
theorem Inv.tuple (I : Inv X pins σ H s) (h : SqT X.K H a xs) : ∃ its : List Value, Vals xs its /\ IsTup s.heap a its.toArray /\ xs.length <= sizeLine := by
 rcases h with h | ⟨o, its, n, hk, hc, hs, hz, r⟩
 ·obtain ⟨z, its, r, p⟩ := h.ok I.hok
  exact ⟨its, r, p, z⟩
 ·refine ⟨its.toList, r, ⟨o, I.kIn a o hk, hc, n, by simpa using hs⟩, ?_⟩
  have e := r.length
  simp only [Array.length_toList] at e
  omega
theorem Inv.list_inj (I : Inv X pins σ H s) (h : SqL X.K H a xs) (h' : SqL X.K H a ys) : xs = ys := by
 obtain ⟨its, r, ⟨o, n, e, _, _, d⟩, _⟩ := I.list h
 obtain ⟨its', r', ⟨o', n', e', _, _, d'⟩, _⟩ := I.list h'
 rw [e] at e'; cases e'
 rw [d] at d'
 injection d' with d1 _
 have : its = its' := by simpa using congrArg Array.toList d1
 subst this
 exact r.inj r'
theorem Inv.tuple_inj (I : Inv X pins σ H s) (h : SqT X.K H a xs) (h' : SqT X.K H a ys) : xs = ys := by
 obtain ⟨its, r, ⟨o, e, _, n, d⟩, _⟩ := I.tuple h
 obtain ⟨its', r', ⟨o', e', _, n', d'⟩, _⟩ := I.tuple h'
 rw [e] at e'; cases e'
 rw [d] at d'
 injection d' with d1 _
 have : its = its' := by simpa using congrArg Array.toList d1
 subst this
 exact r.inj r'
end
abbrev Cx.wish (X : Cx) (E : Value -> Shared -> Prop) : Cx := { X with xe := E }
abbrev Cx.nox (X : Cx) : Cx := X.wish fun _ _ => False
theorem Cx.Ok.wish {X : Cx} (ok : X.Ok) (E : Value -> Shared -> Prop) : (X.wish E).Ok :=
 ⟨ok.mod, ok.kind, ok.glob, ok.blt, ok.above, ok.inj, ok.has, ok.cab, ok.hd, ok.frames, ok.stk, ok.exf, ok.bs, ok.bsz, ok.noex, ok.exfs, ok.funs, ok.frf⟩
theorem Cx.Ok.unwish {X : Cx} {E : Value -> Shared -> Prop} (ok : (X.wish E).Ok) : X.Ok :=
 ⟨ok.mod, ok.kind, ok.glob, ok.blt, ok.above, ok.inj, ok.has, ok.cab, ok.hd, ok.frames, ok.stk, ok.exf, ok.bs, ok.bsz, ok.noex, ok.exfs, ok.funs, ok.frf⟩
section
variable {X : Cx} {pins : List (Addr × Obj)} {σ : St} {H : Hp} {s : Shared} {E : Value -> Shared -> Prop}
theorem Inv.wish (I : Inv X pins σ H s) (E : Value -> Shared -> Prop) : Inv (X.wish E) pins σ H s := ⟨I.ok.wish E, I.os, I.bare, I.base, I.loc, I.cell, I.free, I.freeC, I.pin, I.hok, I.len⟩
theorem Inv.unwish (I : Inv (X.wish E) pins σ H s) : Inv X pins σ H s := ⟨I.ok.unwish, I.os, I.bare, I.base, I.loc, I.cell, I.free, I.freeC, I.pin, I.hok, I.len⟩
theorem SP.unwish {D : Ends} {f : Flow} {s' : Shared} (h : SP (X.wish E) pins D f s') : SP X pins D f s' := by
 cases f with
 | next => obtain ⟨σ', H', I, q⟩ := h; exact ⟨σ', H', I.unwish, q⟩
 | brk => obtain ⟨σ', H', I, q⟩ := h; exact ⟨σ', H', I.unwish, q⟩
 | cont => obtain ⟨σ', H', I, q⟩ := h; exact ⟨σ', H', I.unwish, q⟩
 | ret u => obtain ⟨v, σ', H', I, r, q⟩ := h; exact ⟨v, σ', H', I.unwish, r, q⟩
theorem PE.nox {e : Expr} {t : TE} (h : PE X.nox e t) : PE X e t := fun pins s σ H Q I hw =>
 wpAny_mono (h pins s σ H Q (I.wish _) hw) (fun _ _ ⟨v, H', I', r, q⟩ => ⟨v, H', I'.unwish, r, q⟩) fun _ _ z => False.elim z
theorem PT.nox {e : Expr} {t : TT} (h : PT X.nox e t) : PT X e t := fun pins s σ H Q I hw =>
 wpAny_mono (h pins s σ H Q (I.wish _) hw) (fun _ _ ⟨H', I', q⟩ => ⟨H', I'.unwish, q⟩) fun _ _ z => False.elim z
theorem PSs.nox {st : List Stmt} {t : TS} (h : PSs X.nox st t) : PSs X st t := fun pins s σ H D I hw =>
 wpAny_mono (h pins s σ H D (I.wish _) hw) (fun _ _ q => q.unwish) fun _ _ z => False.elim z
end
section
variable {X : Cx} {st : Stmt} {rest : List Stmt} {t u : TS} {e : Expr} {te : TE} {pos : Pos}
def wG : TS := fun D σ H => D.nx σ H
def oY (t u : TS) : TS := fun D σ H => t { D with nx := u D } σ H
theorem aV : PSs X [] wG := fun _ _ σ H _ I h => wpAny_execs_nil ⟨σ, H, I, h⟩
theorem aA (h1 : PS X st t) (h2 : PSs X rest u) : PSs X (st :: rest) (oY t u) := by
 intro pins s σ H D I h
 refine wpAny_execs_cons (thn (h1 pins s σ H { D with nx := u D } I h) fun f s1 q => ?_)
 cases f with
 | next =>
  obtain ⟨σ', H', I', q⟩ := q
  exact h2 pins s1 σ' H' D I' q
 | ret v => exact q
 | brk => exact q
 | cont => exact q
theorem aB (h1 : PS X st t) : PSs X [st] t := by
 intro pins s σ H D I h
 refine wpAny_execs_cons (thn (h1 pins s σ H D I h) fun f s1 q => ?_)
 cases f with
 | next => exact wpAny_execs_nil q
 | ret v => exact q
 | brk => exact q
 | cont => exact q
def yC : TS := fun D σ H => D.bk σ H
def yG : TS := fun D σ H => D.ct σ H
theorem Inv.quiet {pins : List (Addr × Obj)} {σ : St} {H : Hp} {s : Shared} (I : Inv X pins σ H s) : interactive X.env = false := by simp [interactive, I.ok.kind]
def w5 (te : TE) : TS := fun D σ H => te σ H fun _ H1 => D.nx σ H1
theorem iU (he : PE X e te) (hs : swapsWith e none pos.line X.env = pure false := by rfl) : PS X (.Expr e pos) (w5 te) := by
 intro pins s σ H D I h
 exact wpAny_Expr_any (thn (he pins s σ H _ I h) fun v s1 ⟨x, H1, I1, r1, q1⟩ => ⟨σ, H1, I1, q1⟩) I.quiet hs
def xU (te : TE) : TS := fun D σ H => te σ H D.rt
theorem aK (he : PE X e te) : PS X (.Return (some e) pos) (xU te) := by
 intro pins s σ H D I h
 exact wpAny_Return_some (thn (he pins s σ H _ I h) fun v s1 ⟨x, H1, I1, r1, q1⟩ => ⟨x, σ, H1, I1, r1, q1⟩)
def yX : TS := fun D _ H => D.rt .non H
def xT (c : TT) (t u : TS) : TS := fun D σ H => c σ H fun b H1 => if b = true then t D σ H1 else u D σ H1
theorem bw {c : Expr} {a b : List Stmt} {tc : TT} (hc : PT X c tc) (ha : PSs X a t) (hb : PSs X b u) : PS X (.If c a b pos) (xT tc t u) := by
 intro pins s σ H D I h
 refine wpAny_If (thn (hc pins s σ H _ I h) fun d s1 ⟨H1, I1, q1⟩ => ?_)
 cases d with
 | true => exact ha pins s1 σ H1 D I1 q1
 | false => exact hb pins s1 σ H1 D I1 q1
def v5 : TS := fun _ _ _ => False
theorem tu : PS X st v5 := fun _ _ _ _ _ _ h => h.elim
end
abbrev TG := V -> St -> Hp -> (St -> Hp -> Prop) -> Prop
abbrev TGs := List V -> St -> Hp -> (St -> Hp -> Prop) -> Prop
def PG (X : Cx) (target : Expr) (t : TG) : Prop :=
 ∀ (pins : List (Addr × Obj)) (s : Shared) (σ : St) (H : Hp) (v : V) (u : Value) (Q : St -> Hp -> Prop), Inv X pins σ H s -> RelV v u -> t v σ H Q ->
  wpAny (model X.prog X.w) X.A (assign target X.env u) (fun _ s' => ∃ σ' H', Inv X pins σ' H' s' /\ Q σ' H') X.xe s
def PGs (X : Cx) (ts : List Expr) (t : TGs) : Prop :=
 ∀ (pins : List (Addr × Obj)) (s : Shared) (σ : St) (H : Hp) (vs : List V) (us : List Value) (Q : St -> Hp -> Prop), Inv X pins σ H s -> Vals vs us -> t vs σ H Q ->
  wpAny (model X.prog X.w) X.A (assignInOrder ((assignEach ts X.env).map (·.2)) us) (fun _ s' => ∃ σ' H', Inv X pins σ' H' s' /\ Q σ' H') X.xe s
abbrev qD := V -> V -> V -> Hp -> (Hp -> Prop) -> Prop
def vY (X : Cx) (t : qD) : Prop :=
 ∀ (pins : List (Addr × Obj)) (s : Shared) (σ : St) (H : Hp) (o i v : V) (ov iv u : Value) (Q : Hp -> Prop), Inv X pins σ H s -> RelV o ov -> RelV i iv -> RelV v u -> t o i v H Q ->
  wpAny (model X.prog X.w) X.A (setItem ov iv u) (fun _ s' => ∃ H', Inv X pins σ H' s' /\ Q H') X.xe s
abbrev TIp := V -> V -> Hp -> VK -> Prop
def PIp (X : Cx) (op : Operator) (t : TIp) : Prop :=
 ∀ (pins : List (Addr × Obj)) (s : Shared) (σ : St) (H : Hp) (x y : V) (v u : Value) (Q : VK), Inv X pins σ H s -> RelV x v -> RelV y u -> t x y H Q ->
  wpAny (model X.prog X.w) X.A (inplaceOp op v u) (EP X pins σ Q) X.xe s
section
variable {X : Cx} {pos : Pos}
def eO (i : Nat) : TG := fun v σ H Q => Q (σ.set i (some v)) H
theorem aN {i : Nat} {x : Str} (hN : X.N.Nodup) (hi : X.N[i]? = some x) (hx : Loc X.env.scope x) (hf : X.fn x = true \/ X.env.scope.names.lookup x = some .local := by first | exact .inl rfl | exact .inr rfl | assumption) : PG X (.Name x pos) (eO i) := by
 intro pins s σ H v u Q I r h
 exact wpAny_assign_Name (jl I hN hi hx r (fun s' I' => ⟨_, H, I', h⟩) hf)
def xn : TGs := fun vs σ H Q => vs = [] /\ Q σ H
def wH (t : TG) (u : TGs) : TGs := fun vs σ H Q => ∃ v r, vs = v :: r /\ t v σ H fun σ' H' => u r σ' H' Q
theorem kh : PGs X [] xn := by
 intro pins s σ H vs us Q I r h
 obtain ⟨e, h⟩ := h
 subst e
 cases r
 exact assignInOrder_nil ⟨σ, H, I, h⟩
theorem dG {e : Expr} {es : List Expr} {t : TG} {u : TGs} (h1 : PG X e t) (h2 : PGs X es u)
  (hs : (assignEach (e :: es) X.env).map (·.2) = assign e X.env :: (assignEach es X.env).map (·.2) := by rfl) : PGs X (e :: es) (wH t u) := by
 intro pins s σ H vs us Q I r h
 obtain ⟨v, vr, e1, h⟩ := h
 subst e1
 cases r with
 | cons r rr =>
  rw [hs]
  refine assignInOrder_cons (thn (h1 pins s σ H _ _ _ I r h) fun _ s1 ⟨σ1, H1, I1, q1⟩ => ?_)
  exact h2 pins s1 σ1 H1 _ _ Q I1 rr q1
def vK (K : PySem.W.Frag) (n : Nat) (t : TGs) : TG := fun v σ H Q => ∃ a xs, v = .ref a /\ SqT K H a xs /\ xs.length = n /\ t xs σ H Q
theorem vL {es : List Expr} {k : Nat} {t : TGs} {n : Nat} (hc : X.calm = true) (h : PGs X es t)
  (hn : (assignEach es X.env).length = n := by rfl) (hst : (assignEach es X.env).findIdx? (·.1) = none := by rfl) : PG X (.Tuple es k pos) (vK X.K n t) := by
 intro pins s σ H v u Q I r hw
 obtain ⟨a, xs, e1, hq, hl, hw⟩ := hw
 subst e1
 cases r
 obtain ⟨its, rv, ht, hz⟩ := I.tuple hq
 refine assign_Tuple_tuple (I.ok.hd hc) ht (by simp [hn, <- hl, rv.length]) hst fun h' hx => ?_
 have I1 : Inv X pins σ H { s with heap := h' } := I.kept (t' := s.toks) fun b o e => hx b o (Nat.ne_of_lt (Heap.lt_size e)) e
 exact h pins _ σ H xs _ Q I1 (by simpa using rv) hw
def xu (to ti : TE) (t : qD) : TG := fun v σ H Q => to σ H fun o H1 => ti σ H1 fun i H2 => t o i v H2 fun H3 => Q σ H3
theorem v9 {o i : Expr} {to ti : TE} {t : qD} (ho : PE X o to) (hi : PE X i ti) (hs : vY X t)
  (ha : ∀ v, assign (.Subscript o i pos) X.env v = (do
   let ov <- holding [v] (eval o X.env)
   let iv <- holding [v, ov] (eval i X.env)
   standAt pos
   holding [v, ov, iv] (setItem ov iv v)
   release [v, ov, iv] []) := by intro _; rfl) : PG X (.Subscript o i pos) (xu to ti t) := by
 intro pins s σ H v u Q I r h
 rw [ha]
 refine wpAny_bind (wpAny_holding (thn (ho pins s σ H _ I h) fun ov s1 ⟨x, H1, I1, r1, q1⟩ => ?_))
 refine wpAny_bind (wpAny_holding (thn (hi pins s1 σ H1 _ I1 q1) fun iv s2 ⟨y, H2, I2, r2, q2⟩ => ?_))
 refine wpAny_bind (wpAny_standAt (wpAny_bind (wpAny_holding (thn (hs pins s2 σ H2 x y v ov iv u _ I2 r1 r2 r q2) fun _ s3 ⟨H3, I3, q3⟩ => ?_))))
 exact wpAny_release ⟨σ, H3, I3, q3⟩
def qO (te : TE) (g : TG) : TS := fun D σ H => te σ H fun x H1 => g x σ H1 D.nx
theorem nA {tg e : Expr} {te : TE} {g : TG} (he : PE X e te) (hg : PG X tg g) (hs : swapsWithSole [tg] e pos.line X.env = pure false := by rfl) (hw : swappedStores [tg] e X.env = pure none := by rfl)
  (h1 : (assignEach [tg] X.env).map (·.2) = [assign tg X.env] := by rfl) : PS X (.Assign [tg] e pos) (qO te g) := by
 intro pins s σ H D I h
 refine wpAny_Assign_stores (thn (he pins s σ H _ I h) fun v s1 ⟨x, H1, I1, r1, q1⟩ => ?_) hs hw
 rw [h1]
 exact thn (hg pins s1 σ H1 x v _ I1 r1 q1) fun _ s2 q => q
theorem bf {i : Nat} {x : Str} {e : Expr} {te : TE} {pos' : Pos} (hN : X.N.Nodup) (hi : X.N[i]? = some x) (hx : Loc X.env.scope x) (he : PE X e te) (hs : swapsWith e (some (.Name x pos')) pos.line X.env = pure false := by rfl) (hf : X.fn x = true \/ X.env.scope.names.lookup x = some .local := by first | exact .inl rfl | exact .inr rfl | assumption) :
  PS X (.Assign [.Name x pos'] e pos) (qO te (eO i)) := by
 intro pins s σ H D I h
 refine wpAny_Assign_Name (thn (he pins s σ H _ I h) fun v s1 ⟨y, H1, I1, r1, q1⟩ => ?_) hs
 exact jl I1 hN hi hx r1 (fun s2 I2 => ⟨_, H1, I2, q1⟩) hf
def zc (i j : Nat) (ta : TA) : TS := fun D σ H => ta σ H fun vs H1 => ∃ v w, vs = [v, w] /\ D.nx ((σ.set i (some v)).set j (some w)) H1
def zO (i : Nat) (te : TE) (ti : TIp) : TS := fun D σ H => ∃ x, σ[i]? = some (some x) /\ te σ H fun y H1 => ti x y H1 fun z H2 => D.nx (σ.set i (some z)) H2
def yU (to ti te : TE) (tget : V -> V -> Hp -> VK -> Prop) (tip : TIp) (tset : qD) : TS := fun D σ H => to σ H fun o H1 => ti σ H1 fun i H2 => tget o i H2 fun x H3 => te σ H3 fun y H4 => tip x y H4 fun z H5 => tset o i z H5 fun H6 => D.nx σ H6
def zy (X : Cx) (t : V -> V -> Hp -> VK -> Prop) : Prop :=
 ∀ (pins : List (Addr × Obj)) (s : Shared) (σ : St) (H : Hp) (o i : V) (ov iv : Value) (Q : VK), Inv X pins σ H s -> RelV o ov -> RelV i iv -> t o i H Q ->
  wpAny (model X.prog X.w) X.A (getItem ov iv) (EP X pins σ Q) X.xe s
def ipI (f : Int -> Int -> Int) : TIp := fun x y H Q => ∃ i j, x = .int i /\ y = .int j /\ Q (.int (f i j)) H
end
section
variable {X : Cx} {pos : Pos}
def yo (c : TT) (tb : TS) : TS := fun D σ H => ∃ W : Nat -> St -> Hp -> Prop, (∃ m, W m σ H) /\ ∀ m σ H, W m σ H ->
 c σ H fun b H1 => if b = true then ∃ N : St -> Hp -> Prop, (∀ σ' H', N σ' H' -> ∃ m', m' < m /\ W m' σ' H') /\ tb { D with nx := N, ct := N, bk := D.nx } σ H1 else D.nx σ H1
end
structure It where
 go : Nat -> Hp -> Prop
 yld : Nat -> Hp -> V -> Hp -> Prop
 stop : Nat -> Hp -> Prop
def bW (X : Cx) (pins : List (Addr × Obj)) (H : Hp) (b : Addr) : Prop :=
 H b = none /\ b ≠ X.env.locals /\ b ∉ X.fs /\ (b ∈ X.ex \/ X.s₀.heap.objs.size <= b) /\ (∀ x c, X.env.cells.lookup x = some c -> c ≠ b) /\ ∀ p ∈ X.pn ++ pins, p.1 ≠ b
theorem Inv.fpOk {X : Cx} {pins : List (Addr × Obj)} {σ : St} {H H' : Hp} {s : Shared} {b : Addr} (I : Inv X pins σ H s) (hb : s.heap.objs.size <= b) (hn : H' b = none) : bW X pins H' b := by
 refine ⟨hn, Nat.ne_of_gt (Nat.lt_of_lt_of_le I.lt hb), I.nofs hb, .inr (Nat.le_trans I.sz hb), fun x c e z => ?_, fun p hp z => ?_⟩
 ·obtain ⟨v, q⟩ := I.cell x c e
  exact absurd (Nat.lt_of_lt_of_le q.lt (by rw [z]; exact hb)) (Nat.lt_irrefl _)
 ·exact absurd (Nat.lt_of_lt_of_le (Heap.lt_size (I.pin p hp).1) (by rw [z]; exact hb)) (Nat.lt_irrefl _)
structure Turn (P : Program) (w : World) (K : PySem.W.Frag) (tg : Expr) (J : It) (fp : List Addr) (it : Addr) (tn : Nat -> Heap -> Prop) : Prop where
 mem : it ∈ fp
 obj : ∀ i h, tn i h -> ∀ b ∈ fp, ∃ o, h.get? b = some o /\ ∀ v, o.data ≠ .cell v
 keep : ∀ i h h', tn i h -> (∀ b ∈ fp, ∀ o, h.get? b = some o -> h'.get? b = some o) -> tn i h'
 item : ∀ (X : Cx), X.prog = P -> X.w = w -> X.K = K -> X.calm = true -> ∀ (i : Nat) (pins : List (Addr × Obj)) (s : Shared) (σ : St) (H : Hp) (E : Value -> Shared -> Prop), Inv X pins σ H s -> (∀ b ∈ fp, bW X pins H b) -> tn i s.heap -> J.go i H ->
  wpAny (model P w) X.A (pyNext (.ref it)) (fun r s1 => ∃ u, r = some u /\
   wpAny (model P w) X.A (letOwnedTupleGo tg (.ref it) u) (fun _ s2 => ∃ x H', Inv X pins σ H' s2 /\ RelV x u /\ J.yld i H x H' /\ tn (i + 1) s2.heap /\ ∀ b ∈ fp, H' b = none) E s1) E s
 done : ∀ (X : Cx), X.prog = P -> X.w = w -> X.K = K -> X.calm = true -> ∀ (i : Nat) (pins : List (Addr × Obj)) (s : Shared) (σ : St) (H : Hp) (E : Value -> Shared -> Prop), Inv X pins σ H s -> (∀ b ∈ fp, bW X pins H b) -> tn i s.heap -> J.stop i H ->
  wpAny (model P w) X.A (pyNext (.ref it)) (fun r s1 => r = none /\ Inv X pins σ H s1) E s
 self : ∀ (A : Around) (i : Nat) (s : Shared) (Q : Value -> Shared -> Prop) (E : Value -> Shared -> Prop), tn i s.heap -> Q (.ref it) s -> wpAny (model P w) A (pyIter (.ref it)) Q E s
abbrev TI := St -> Hp -> (It -> Hp -> Prop) -> Prop
def PIE (X : Cx) (pins : List (Addr × Obj)) (σ : St) (tg : Expr) (R : It -> Hp -> Prop) (itv : Value) (s2 : Shared) : Prop :=
 ∃ (it : Addr) (fp : List Addr) (tn : Nat -> Heap -> Prop) (J : It) (H' : Hp), itv = .ref it /\ Inv X pins σ H' s2 /\ Turn X.prog X.w X.K tg J fp it tn /\ tn 0 s2.heap /\ (∀ b ∈ fp, bW X pins H' b) /\ R J H'
def PI (X : Cx) (tg iter : Expr) (wi : TI) : Prop :=
 ∀ (pins : List (Addr × Obj)) (s : Shared) (σ : St) (H : Hp) (R : It -> Hp -> Prop), Inv X pins σ H s -> wi σ H R ->
  wpAny (model X.prog X.w) X.A (eval iter X.env) (fun v s1 => wpAny (model X.prog X.w) X.A (pyIter v) (PIE X pins σ tg R) X.xe s1) X.xe s
theorem qu {M : Model} {A : Around} {E : Value -> Shared -> Prop} {s : Shared} {tg : Expr} {it : Addr} {u : Value} {o : Obj} {n : String} {vs : Array Value} {Q : Unit -> Shared -> Prop} (ho : s.heap.get? it = some o) (hc : o.cls = .type n) (hd : o.data = .fields vs)
    (hn : ["enumerate", "zip", "dict_itemiterator", "dict_reverseitemiterator", "odict_iterator", "itertools.zip_longest", "itertools.pairwise"].contains n = false) (hQ : Q () s) : wpAny M A (letOwnedTupleGo tg (.ref it) u) Q E s := by
  unfold letOwnedTupleGo
  cases tg <;> first
    | exact wpAny_pure hQ
    | (cases u <;> first
        | exact wpAny_pure hQ
        | (refine wpAny_bind (wpAny_load ho ?_)
           rw [hc, hd]
           show wpAny M A (if (["enumerate", "zip", "dict_itemiterator", "dict_reverseitemiterator", "odict_iterator", "itertools.zip_longest", "itertools.pairwise"].contains n && vs[0]? == some (rawInt _)) = true then _ else _) Q E s
           rw [if_neg (by intro h; rw [hn, Bool.false_and] at h; cases h)]
           exact wpAny_pure hQ))
def Itl (K : PySem.W.Frag) (a : Addr) : It :=
 ⟨fun i H => ∃ xs x, SqL K H a xs /\ xs[i]? = some x, fun i H x H' => H' = H /\ ∀ xs, SqL K H a xs -> xs[i]? = some x, fun i H => ∃ xs, SqL K H a xs /\ xs.length <= i⟩
def Itt (K : PySem.W.Frag) (a : Addr) : It :=
 ⟨fun i H => ∃ xs x, SqT K H a xs /\ xs[i]? = some x, fun i H x H' => H' = H /\ ∀ xs, SqT K H a xs -> xs[i]? = some x, fun i H => ∃ xs, SqT K H a xs /\ xs.length <= i⟩
def Itr (lo : Int) (n : Nat) : It := ⟨fun i _ => i < n, fun i H x H' => H' = H /\ x = .int (lo + i), fun i _ => n <= i⟩
theorem rP {P : Program} {w : World} {K : PySem.W.Frag} {tg : Expr} (a it : Addr) : Turn P w K tg (Itl K a) [it] it (fun i h => h.IsListIter it a i) where
 mem := by simp
 obj := fun i h st b hb => by
  have e : b = it := by simpa using hb
  subst e
  obtain ⟨o, e, c, d⟩ := st
  exact ⟨o, e, fun v z => by rw [d] at z; cases z⟩
 keep := fun i h h' st k => st.at fun o e => k it (by simp) o e
 item := by
  intro X hP hw hK hc i pins s σ H E I hf st hg
  subst hP hw hK
  obtain ⟨xs, x, hq, hx⟩ := hg
  obtain ⟨its, rv, p, hz⟩ := I.list hq
  obtain ⟨u, hu, ru⟩ := rv.get hx
  obtain ⟨f0, f1, f2, f3, f4, f5⟩ := hf it (by simp)
  refine wpAny_pyNext_list_item st p.isList (x := u) (by simpa using hu) fun h' st' sb => ?_
  have I1 : Inv X pins σ H { s with heap := h' } := I.turned (t' := s.toks) (fun b o hb e => (sb.2 b hb).trans e) f0 f1 f3 f4 f5
  obtain ⟨o, e, c, d⟩ := id st'
  exact ⟨u, rfl, qu (s := { s with heap := h' }) e c d (by decide) ⟨x, H, I1, ru, ⟨rfl, fun ys hy => by rw [I.list_inj hy hq]; exact hx⟩, st', fun b hb => (hf b hb).1⟩⟩
 done := by
  intro X hP hw hK hc i pins s σ H E I hf st hg
  subst hP hw hK
  obtain ⟨xs, hq, hx⟩ := hg
  obtain ⟨its, rv, p, hz⟩ := I.list hq
  obtain ⟨f0, f1, f2, f3, f4, f5⟩ := hf it (by simp)
  have hl := rv.length
  exact wpAny_pyNext_list_end (I.ok.hd hc) st p.isList (by simp; omega) fun h' eb => ⟨rfl, I.turned (t' := s.toks) (fun b o hb e => eb b o hb e) f0 f1 f3 f4 f5⟩
 self := fun _ _ _ _ _ st h => wpAny_pyIter_listiter st h
theorem qP {P : Program} {w : World} {K : PySem.W.Frag} {tg : Expr} (it : Addr) (lo : Int) (n : Nat) : Turn P w K tg (Itr lo n) [it] it (fun i h => IsRangeIter h it (lo + (i : Nat) * 1) ((n : Int) - (i : Nat)) 1) where
 mem := by simp
 obj := fun i h st b hb => by
  have e : b = it := by simpa using hb
  subst e
  exact ⟨_, st, fun v z => by
   have z' : Data.fields _ = Data.cell v := z
   cases z'⟩
 keep := fun i h h' st k => k it (by simp) _ st
 item := by
  intro X hP hw hK hc i pins s σ H E I hf st hg
  subst hP hw hK
  obtain ⟨f0, f1, f2, f3, f4, f5⟩ := hf it (by simp)
  have W := Walks.range (prog := X.prog) (w := X.w) (I.ok.hd hc) it lo 1 n
  refine W.item i s _ _ hg st fun v h' tk hv st' kk => ?_
  obtain ⟨t, rfl⟩ := hv
  have I1 : Inv X pins σ H { s with heap := h', toks := tk } := I.turned (fun b o hb e => kk b o (by simpa using hb) e) f0 f1 f3 f4 f5
  refine ⟨_, rfl, qu (s := { s with heap := h', toks := tk }) (n := "range_iterator") st' rfl rfl (by decide) ⟨.int (lo + i), H, I1, ⟨t, ?_⟩, ⟨rfl, rfl⟩, st', fun b hb => (hf b hb).1⟩⟩
  rw [Int.mul_one]
 done := by
  intro X hP hw hK hc i pins s σ H E I hf st hg
  subst hP hw hK
  obtain ⟨f0, f1, f2, f3, f4, f5⟩ := hf it (by simp)
  exact wpAny_pyNext_range_end (I.ok.hd hc) st (by have : n <= i := hg; omega) fun h' eb => ⟨rfl, I.turned (t' := s.toks) (fun b o hb e => eb b o hb e) f0 f1 f3 f4 f5⟩
 self := fun _ _ _ _ _ st h => wpAny_pyIter_rangeiter st h
end L2
namespace L2
open PySem PySem.Spec PyProof.Rows
section
variable {X : Cx} {tg : Expr}
def um (K : PySem.W.Frag) (tl : TE) : TI := fun σ H R => tl σ H fun x H1 => ∃ a, x = .ref a /\ (∃ xs, SqL K H1 a xs) /\ R (Itl K a) H1
def za (K : PySem.W.Frag) (tl : TE) : TI := fun σ H R => tl σ H fun x H1 => ∃ a, x = .ref a /\ (∃ xs, SqT K H1 a xs) /\ R (Itt K a) H1
theorem uR {l : Expr} {tl : TE} (hl : PE X l tl) : PI X tg l (um X.K tl) := by
 intro pins s σ H R I h
 refine thn (hl pins s σ H _ I h) fun v s1 ⟨x, H1, I1, r1, q1⟩ => ?_
 obtain ⟨a, e, ⟨xs, hq⟩, q⟩ := q1
 subst e
 cases r1
 obtain ⟨its, rv, p, hz⟩ := I1.list hq
 refine wpAny_pyIter_list p.isList ?_
 refine ⟨s1.heap.objs.size, [s1.heap.objs.size], _, _, H1, rfl, I1.kept (t' := s1.toks) fun b o e => Heap.get?_push_of_some _ e, rP a _, ⟨_, Heap.get?_push_size _ rfl, rfl, rfl⟩, fun b hb => ?_, q⟩
 have e : b = s1.heap.objs.size := by simpa using hb
 subst e
 exact I1.fpOk (Nat.le_refl _) (I1.hok.fresh (Nat.le_refl _))
theorem oA {pins : List (Addr × Obj)} {σ : St} {H : Hp} {s : Shared} {R : It -> Hp -> Prop} {E : Value -> Shared -> Prop} {lo hi : Int} {t u v : Tok} {tk : Nat} (I : Inv X pins σ H s) (h1 : -(2 ^ 62) <= lo) (h2 : lo < 2 ^ 62) (h3 : -(2 ^ 62) <= hi) (h4 : hi < 2 ^ 62)
  (q : R (Itr lo (hi - lo).toNat) H) : wpAny (model X.prog X.w) X.A (pyIter (.ref s.heap.objs.size)) (PIE X pins σ tg R) E { s with heap := s.heap.push { cls := .type "range", data := .fields #[.int lo t, .int hi u, .int 1 v] }, toks := tk } := by
 refine wpAny_pyIter_range (IsRange.new ..) (small_one h1 h2 h3 h4) ?_
 have I1 : Inv X pins σ H { s with heap := s.heap.push { cls := .type "range", data := .fields #[.int lo t, .int hi u, .int 1 v] }, toks := tk } := I.kept fun b o e => Heap.get?_push_of_some _ e
 refine ⟨(s.heap.push { cls := .type "range", data := .fields #[.int lo t, .int hi u, .int 1 v] }).objs.size, [(s.heap.push { cls := .type "range", data := .fields #[.int lo t, .int hi u, .int 1 v] }).objs.size], _, _, H, rfl,
  I1.kept (t' := tk) fun b o e => Heap.get?_push_of_some _ e, qP _ lo (hi - lo).toNat, ?_, fun b hb => ?_, q⟩
 ·have e1 : lo + ((0 : Nat) : Int) * 1 = lo := by simp
  have e2 : (((hi - lo).toNat : Nat) : Int) - ((0 : Nat) : Int) = Builtin.Range.rangeSize lo hi 1 := by rw [rangeSize_one]; split <;> omega
  show IsRangeIter _ _ (lo + ((0 : Nat) : Int) * 1) ((((hi - lo).toNat : Nat) : Int) - ((0 : Nat) : Int)) 1
  rw [e1, e2]
  exact Heap.get?_push_size _ rfl
 ·have e : b = (s.heap.push { cls := .type "range", data := .fields #[.int lo t, .int hi u, .int 1 v] }).objs.size := by simpa using hb
  subst e
  exact I1.fpOk (Nat.le_refl _) (I1.hok.fresh (Nat.le_refl _))
def xg (ta : TA) : TI := fun σ H R => ta σ H fun vs H1 => ∃ j : Int, vs = [.int j] /\ -(2 ^ 62) <= j /\ j < 2 ^ 62 /\ R (Itr 0 j.toNat) H1
def wW (ta : TA) : TI := fun σ H R => ta σ H fun vs H1 => ∃ i j : Int, vs = [.int i, .int j] /\ (-(2 ^ 62) <= i /\ i < 2 ^ 62 /\ -(2 ^ 62) <= j /\ j < 2 ^ 62) /\ R (Itr i (j - i).toNat) H1
theorem fV {a : Expr} {ta : TA} {p pos : Pos} (hg : Gl X "range") (hm : X.mg "range" = none) (ha : PA X [a] ta) (hs : starEach [a] X.env = [(false, eval a X.env)] := by rfl) : PI X tg (.Call (.Name "range" p) [a] [] pos) (xg ta) := by
 intro pins s σ H R I h
 refine Call_ (gk I hg hm boot_range (PyProof.Rows.callWith_type1 (thn (ha pos pins s σ H _ I h) fun us s1 ⟨vs, H1, I1, r1, q1⟩ => ?_) hs rfl))
 obtain ⟨j, e, q1, q2, q⟩ := q1
 subst e
 cases r1 with
 | cons r rr =>
  cases rr
  obtain ⟨t, rfl⟩ := r
  exact call_range_1 (oA I1 (by omega) (by omega) q1 q2 (by simpa using q))
theorem rQ {a b : Expr} {ta : TA} {p pos : Pos} (hg : Gl X "range") (hm : X.mg "range" = none) (ha : PA X [a, b] ta) (hs : starEach [a, b] X.env = [(false, eval a X.env), (false, eval b X.env)] := by rfl) (hs2 : starEach [b] X.env = [(false, eval b X.env)] := by rfl) :
  PI X tg (.Call (.Name "range" p) [a, b] [] pos) (wW ta) := by
 intro pins s σ H R I h
 refine Call_ (gk I hg hm boot_range (PyProof.Rows.callWith_type1 (thn (ha pos pins s σ H _ I h) fun us s1 ⟨vs, H1, I1, r1, q1⟩ => ?_) (by rw [hs, hs2]) (by rw [hs2]; rfl)))
 obtain ⟨i, j, e, ⟨q1, q2, q3, q4⟩, q⟩ := q1
 subst e
 cases r1 with
 | cons r rr =>
  cases rr with
  | cons r' rr =>
   cases rr
   obtain ⟨t, rfl⟩ := r
   obtain ⟨t', rfl⟩ := r'
   exact call_range_2 (oA I1 q1 q2 q3 q4 q)
def xK (wi : TI) (g : TG) (tb : TS) : TS := fun D σ H => wi σ H fun J H1 => ∃ W : Nat -> Nat -> St -> Hp -> Prop, (∃ m, W 0 m σ H1) /\ ∀ i m σ H, W i m σ H ->
 (J.stop i H /\ D.nx σ H) \/ (J.go i H /\ ∃ N : St -> Hp -> Prop, (∀ σ' H', N σ' H' -> ∃ m', m' < m /\ W (i + 1) m' σ' H') /\ ∀ x H', J.yld i H x H' -> g x σ H' fun σ2 H2 => tb { D with nx := N, ct := N, bk := D.nx } σ2 H2)
def cU (fp : List Addr) (h : Heap) : List (Addr × Obj) := fp.filterMap fun b => (h.get? b).map fun o => (b, o)
theorem eN {fp : List Addr} {h : Heap} {b : Addr} {o : Obj} (hb : b ∈ fp) (e : h.get? b = some o) : (b, o) ∈ cU fp h := List.mem_filterMap.mpr ⟨b, hb, by rw [e]; rfl⟩
theorem h_ {fp : List Addr} {h : Heap} {p : Addr × Obj} (hp : p ∈ cU fp h) : p.1 ∈ fp /\ h.get? p.1 = some p.2 := by
 obtain ⟨b, hb, e⟩ := List.mem_filterMap.mp hp
 cases q : h.get? b with
 | none => rw [q] at e; cases e
 | some o =>
  rw [q] at e
  have e' : (b, o) = p := Option.some.inj e
  subst e'
  exact ⟨hb, q⟩
theorem Inv.pinned {pins : List (Addr × Obj)} {σ : St} {H : Hp} {s : Shared} {fp : List Addr} (I : Inv X pins σ H s) (hf : ∀ b ∈ fp, bW X pins H b) (ho : ∀ b ∈ fp, ∃ o, s.heap.get? b = some o /\ ∀ v, o.data ≠ .cell v) : Inv X (pins ++ cU fp s.heap) σ H s :=
 I.pins_of fun p hp => (List.mem_append.mp hp).elim (fun z => I.pin p (List.mem_append_right _ z)) fun z => by
  obtain ⟨hb, e⟩ := h_ z
  obtain ⟨f0, f1, f2, _⟩ := hf p.1 hb
  obtain ⟨o, e', d⟩ := ho p.1 hb
  rw [e] at e'; cases e'
  exact ⟨e, f0, f1, f2, d⟩
theorem Inv.unpinned {pins pl : List (Addr × Obj)} {σ : St} {H : Hp} {s : Shared} (I : Inv X (pins ++ pl) σ H s) : Inv X pins σ H s := I.pins_of fun p hp => I.pin p (List.mem_append_right _ (List.mem_append_left _ hp))
theorem iH {iter : Expr} {body : List Stmt} {wi : TI} {g : TG} {tb : TS} {pos : Pos} (hp : PassesOwn (model X.prog X.w) X.A X.env X.xe) (hc : X.calm = true) (hi : PI X tg iter wi) (hg : PG X tg g) (hb : PSs X body tb)
  (hs : ∀ x, foldedSetIterable iter X.env x = pure x := by intro _; rfl) : PS X (.For tg iter body [] pos) (xK wi g tb) := by
 intro pins s σ H D I h
 refine wpAny_For (thn (hi pins s σ H _ I h) fun v s1 h1 => thn h1 fun itv s2 h2 => ?_) hs
 obtain ⟨it, fp, tn, J, H2, e, I2, T, st2, f2, W, ⟨m0, w0⟩, turn⟩ := h2
 subst e
 have stat : ∀ {H' : Hp}, (∀ b ∈ fp, H' b = none) -> ∀ b ∈ fp, bW X pins H' b := fun hn b hb => ⟨hn b hb, (f2 b hb).2⟩
 refine codeAny_forLoop_any (fun n s' => ∃ i σ' H', Inv X pins σ' H' s' /\ tn i s'.heap /\ (∀ b ∈ fp, H' b = none) /\ W i n σ' H') ?_ m0 ⟨0, σ, H2, I2, st2, fun b hb => (f2 b hb).1, w0⟩
 rintro n s3 ⟨i, σ3, H3, I3, st3, fr3, w3⟩
 rcases turn i n σ3 H3 w3 with ⟨stop, qn⟩ | ⟨go, N, hN, step⟩
 ·refine wpAny_passesOwn hp (thn (T.done X rfl rfl rfl hc i pins s3 σ3 H3 X.xe I3 (stat fr3) st3 stop) fun r s4 ⟨hr, I4⟩ => ?_)
  subst hr
  exact wpAny_execs_nil ⟨σ3, H3, I4, qn⟩
 ·refine wpAny_passesOwn hp (thn (T.item X rfl rfl rfl hc i pins s3 σ3 H3 X.xe I3 (stat fr3) st3 go) fun r s4 ⟨u, hr, h4⟩ => ?_)
  subst hr
  refine wpAny_passesOwn hp (thn h4 fun _ s5 ⟨x, H5, I5, r5, y5, st5, fr5⟩ => ?_)
  have I5' := I5.pinned (stat fr5) (T.obj _ _ st5)
  refine wpAny_passesOwn hp (thn (hg _ s5 σ3 H5 x u _ I5' r5 (step x H5 y5)) fun _ s6 ⟨σ6, H6, I6, q6⟩ => ?_)
  refine wpAny_passesOwn hp (thn (hb _ s6 σ6 H6 _ I6 q6) fun f s7 q7 => ?_)
  have again : ∀ {σ7 : St} {H7 : Hp}, Inv X (pins ++ cU fp s5.heap) σ7 H7 s7 -> N σ7 H7 -> ∃ m, m < n /\ ∃ i σ' H', Inv X pins σ' H' s7 /\ tn i s7.heap /\ (∀ b ∈ fp, H' b = none) /\ W i m σ' H' := fun {σ7 H7} I7 n7 => by
   obtain ⟨m', hm, w7⟩ := hN σ7 H7 n7
   refine ⟨m', hm, i + 1, σ7, H7, I7.unpinned, T.keep _ _ _ st5 fun b hb o e => (I7.pin (b, o) (List.mem_append_right _ (List.mem_append_right _ (eN hb e)))).1, fun b hb => ?_, w7⟩
   obtain ⟨o, e, d⟩ := T.obj _ _ st5 b hb
   exact (I7.pin (b, o) (List.mem_append_right _ (List.mem_append_right _ (eN hb e)))).2.1
  cases f with
  | next => obtain ⟨σ7, H7, I7, n7⟩ := q7; exact again I7 n7
  | cont => obtain ⟨σ7, H7, I7, n7⟩ := q7; exact again I7 n7
  | brk => obtain ⟨σ7, H7, I7, q7⟩ := q7; exact ⟨σ7, H7, I7.unpinned, q7⟩
  | ret v => obtain ⟨x7, σ7, H7, I7, r7, q7⟩ := q7; exact ⟨x7, σ7, H7, I7.unpinned, r7, q7⟩
end
theorem mW {K : PySem.W.Frag} {a : Addr} {xs : List V} {g : TG} {tb : TS} {D : Ends} {σ : St} {H : Hp} (Pv : Nat -> St -> Hp -> Prop) (h0 : Pv 0 σ H) (hl : ∀ i σ H, i <= xs.length -> Pv i σ H -> SqL K H a xs)
  (hs : ∀ i x σ H, xs[i]? = some x -> Pv i σ H -> g x σ H fun σ2 H2 => tb { D with nx := Pv (i + 1), ct := Pv (i + 1), bk := D.nx } σ2 H2) (hd : ∀ σ H, Pv xs.length σ H -> D.nx σ H) :
  ∃ W : Nat -> Nat -> St -> Hp -> Prop, (∃ m, W 0 m σ H) /\ ∀ i m σ H, W i m σ H ->
   ((Itl K a).stop i H /\ D.nx σ H) \/ ((Itl K a).go i H /\ ∃ N : St -> Hp -> Prop, (∀ σ' H', N σ' H' -> ∃ m', m' < m /\ W (i + 1) m' σ' H') /\ ∀ x H', (Itl K a).yld i H x H' -> g x σ H' fun σ2 H2 => tb { D with nx := N, ct := N, bk := D.nx } σ2 H2) := by
 refine ⟨fun i m σ H => m = xs.length - i /\ i <= xs.length /\ Pv i σ H, ⟨xs.length, by simp, Nat.zero_le _, h0⟩, ?_⟩
 rintro i m σ H ⟨rfl, hi, p⟩
 have q := hl i σ H hi p
 by_cases hlt : i < xs.length
 ·refine .inr ⟨⟨xs, xs[i], q, by simp [hlt]⟩, Pv (i + 1), fun σ' H' p' => ⟨xs.length - (i + 1), by omega, rfl, hlt, p'⟩, fun x H' y => ?_⟩
  obtain ⟨e, y⟩ := y
  subst e
  exact hs i x σ _ (y xs q) p
 ·have e : i = xs.length := by omega
  subst e
  exact .inl ⟨⟨xs, q, Nat.le_refl _⟩, hd σ H p⟩
theorem iG {lo : Int} {n : Nat} {g : TG} {tb : TS} {D : Ends} {σ : St} {H : Hp} (Pv : Nat -> St -> Hp -> Prop) (h0 : Pv 0 σ H)
  (hs : ∀ i σ H, i < n -> Pv i σ H -> g (.int (lo + i)) σ H fun σ2 H2 => tb { D with nx := Pv (i + 1), ct := Pv (i + 1), bk := D.nx } σ2 H2) (hd : ∀ σ H, Pv n σ H -> D.nx σ H) :
  ∃ W : Nat -> Nat -> St -> Hp -> Prop, (∃ m, W 0 m σ H) /\ ∀ i m σ H, W i m σ H ->
   ((Itr lo n).stop i H /\ D.nx σ H) \/ ((Itr lo n).go i H /\ ∃ N : St -> Hp -> Prop, (∀ σ' H', N σ' H' -> ∃ m', m' < m /\ W (i + 1) m' σ' H') /\ ∀ x H', (Itr lo n).yld i H x H' -> g x σ H' fun σ2 H2 => tb { D with nx := N, ct := N, bk := D.nx } σ2 H2) := by
 refine ⟨fun i m σ H => m = n - i /\ i <= n /\ Pv i σ H, ⟨n, by simp, Nat.zero_le _, h0⟩, ?_⟩
 rintro i m σ H ⟨rfl, hi, p⟩
 by_cases hlt : i < n
 ·refine .inr ⟨hlt, Pv (i + 1), fun σ' H' p' => ⟨n - (i + 1), by omega, rfl, hlt, p'⟩, fun x H' y => ?_⟩
  obtain ⟨e, y⟩ := y
  subst e y
  exact hs i σ _ hlt p
 ·have e : i = n := by omega
  subst e
  exact .inl ⟨Nat.le_refl _, hd σ H p⟩
end L2
namespace L2
open PySem PySem.Spec PyProof.Rows
abbrev R2 := V -> V -> Hp -> VK -> Prop
def OpR (X : Cx) (f : Value -> Value -> Sem Value) (r : R2) : Prop :=
 ∀ (pins : List (Addr × Obj)) (s : Shared) (σ : St) (H : Hp) (x y : V) (v u : Value) (Q : VK), Inv X pins σ H s -> RelV x v -> RelV y u -> r x y H Q ->
  wpAny (model X.prog X.w) X.A (f v u) (EP X pins σ Q) X.xe s
def UnR (X : Cx) (f : Value -> Sem Value) (r : V -> Hp -> VK -> Prop) : Prop :=
 ∀ (pins : List (Addr × Obj)) (s : Shared) (σ : St) (H : Hp) (x : V) (v : Value) (Q : VK), Inv X pins σ H s -> RelV x v -> r x H Q ->
  wpAny (model X.prog X.w) X.A (f v) (EP X pins σ Q) X.xe s
def CallR (X : Cx) (f : Value) (r : List V -> Hp -> VK -> Prop) : Prop :=
 ∀ (pins : List (Addr × Obj)) (s : Shared) (σ : St) (H : Hp) (xs : List V) (us : List Value) (Q : VK), Inv X pins σ H s -> Vals xs us -> r xs H Q ->
  wpAny (model X.prog X.w) X.A (call f us) (EP X pins σ Q) X.xe s
def zJ (X : Cx) (r : V -> Hp -> (Bool -> Hp -> Prop) -> Prop) : Prop :=
 ∀ (pins : List (Addr × Obj)) (s : Shared) (σ : St) (H : Hp) (x : V) (v : Value) (Q : Bool -> Hp -> Prop), Inv X pins σ H s -> RelV x v -> r x H Q ->
  wpAny (model X.prog X.w) X.A (truthy v) (TP X pins σ Q) X.xe s
def tOp (r : R2) (ta tb : TE) : TE := fun σ H Q => ta σ H fun x H1 => tb σ H1 fun y H2 => r x y H2 Q
def tUn (r : V -> Hp -> VK -> Prop) (ta : TE) : TE := fun σ H Q => ta σ H fun x H1 => r x H1 Q
def rI (C : Int -> Int -> Prop) (g : Int -> Int -> V) : R2 := fun x y H Q => ∃ i j, x = .int i /\ y = .int j /\ C i j /\ Q (g i j) H
def rI0 (g : Int -> Int -> V) : R2 := fun x y H Q => ∃ i j, x = .int i /\ y = .int j /\ Q (g i j) H
def rU (g : Int -> V) : V -> Hp -> VK -> Prop := fun x H Q => ∃ i, x = .int i /\ Q (g i) H
section
variable {X : Cx} {a b c : Expr} {ta tb tc : TE} {pos : Pos}
theorem qQ (ha : PE X a ta) (hb : PE X b tb) {pins : List (Addr × Obj)} {s : Shared} {σ : St} {H : Hp} {R : V -> V -> Hp -> Prop} (I : Inv X pins σ H s)
  (h : ta σ H fun x H1 => tb σ H1 fun y H2 => R x y H2) {Q : Value -> Shared -> Prop} {f : Value -> Value -> Sem Value}
  (hf : ∀ v u s2 x y H2, Inv X pins σ H2 s2 -> RelV x v -> RelV y u -> R x y H2 -> wpAny (model X.prog X.w) X.A (f v u) Q X.xe s2) :
  wpAny (model X.prog X.w) X.A (eval a X.env) (fun v s₁ => wpAny (model X.prog X.w) X.A (eval b X.env) (fun u s₂ => wpAny (model X.prog X.w) X.A (f v u) Q X.xe s₂) X.xe s₁) X.xe s := by
 refine thn (ha pins s σ H _ I h) fun v s1 ⟨x, H1, I1, r1, q1⟩ => ?_
 refine thn (hb pins s1 σ H1 _ I1 q1) fun u s2 ⟨y, H2, I2, r2, q2⟩ => ?_
 exact hf v u s2 x y H2 I2 r1 r2 q2
theorem aM {op : Operator} {r : R2} (ho : OpR X (binaryOp op) r) (ha : PE X a ta) (hb : PE X b tb) : PE X (.BinOp a op b pos) (tOp r ta tb) := by
 intro pins s σ H Q I h
 exact wpAny_BinOp (qQ ha hb I h fun v u s2 x y H2 I2 rx ry q => ho pins s2 σ H2 x y v u Q I2 rx ry q)
theorem opI {f : Value -> Value -> Sem Value} {C : Int -> Int -> Prop} {g : Int -> Int -> Int}
  (rule : ∀ (i j : Int) (t u : Tok) (s : Shared) (Q : Value -> Shared -> Prop) (E : Value -> Shared -> Prop), C i j -> Q (.int (g i j) s.toks) { s with toks := s.toks + 1 } -> wpAny (model X.prog X.w) X.A (f (.int i t) (.int j u)) Q E s) :
  OpR X f (rI C fun i j => .int (g i j)) := by
 intro pins s σ H x y v u Q I rx ry h
 obtain ⟨i, j, rfl, rfl, hc, q⟩ := h
 obtain ⟨t, rfl⟩ := rx
 obtain ⟨t', rfl⟩ := ry
 exact rule i j t t' s _ _ hc ⟨.int (g i j), H, I.tok _, ⟨_, rfl⟩, q⟩
theorem vN {f : Value -> Value -> Sem Value} {g : Int -> Int -> Int}
  (rule : ∀ (i j : Int) (t u : Tok) (s : Shared) (Q : Value -> Shared -> Prop) (E : Value -> Shared -> Prop), Q (.int (g i j) s.toks) { s with toks := s.toks + 1 } -> wpAny (model X.prog X.w) X.A (f (.int i t) (.int j u)) Q E s) :
  OpR X f (rI0 fun i j => .int (g i j)) := by
 intro pins s σ H x y v u Q I rx ry h
 obtain ⟨i, j, rfl, rfl, q⟩ := h
 obtain ⟨t, rfl⟩ := rx
 obtain ⟨t', rfl⟩ := ry
 exact rule i j t t' s _ _ ⟨.int (g i j), H, I.tok _, ⟨_, rfl⟩, q⟩
theorem ud {f : Value -> Value -> Sem Value} {g : Int -> Int -> Bool}
  (rule : ∀ (i j : Int) (t u : Tok) (s : Shared) (Q : Value -> Shared -> Prop) (E : Value -> Shared -> Prop), Q (.bool (g i j)) s -> wpAny (model X.prog X.w) X.A (f (.int i t) (.int j u)) Q E s) :
  OpR X f (rI0 fun i j => .bl (g i j)) := by
 intro pins s σ H x y v u Q I rx ry h
 obtain ⟨i, j, rfl, rfl, q⟩ := h
 obtain ⟨t, rfl⟩ := rx
 obtain ⟨t', rfl⟩ := ry
 exact rule i j t t' s _ _ ⟨.bl (g i j), H, I, rfl, q⟩
def xO (i j : Int) : Prop := 0 < j /\ j < 1073741824
def yN (i j : Int) : Prop := j ≠ 0 /\ j.natAbs < 1073741824
def zF (i j : Int) : Prop := 0 <= j /\ j <= 1000000 /\ i.natAbs < 2 ^ 64
def CMul (i j : Int) : Prop := (-(2 ^ 64) < i /\ i < 2 ^ 64) \/ (-(2 ^ 64) < j /\ j < 2 ^ 64)
theorem CMul.ok {i j : Int} (h : CMul i j) : IntMulOk i j := by
 rcases h with ⟨h1, h2⟩ | ⟨h1, h2⟩
 ·exact .of_left (intBits_le_64 h1 h2)
 ·exact .of_right (intBits_le_64 h1 h2)
theorem cH : OpR X (binaryOp .Add) (rI0 fun i j => .int (i + j)) := vN fun _ _ _ _ _ _ _ q => add_int q
theorem jF : OpR X (binaryOp .Sub) (rI0 fun i j => .int (i - j)) := vN fun _ _ _ _ _ _ _ q => sub_int q
theorem fJ : OpR X (binaryOp .Mult) (rI CMul fun i j => .int (i * j)) := opI fun _ _ _ _ _ _ _ hc q => mul_int q hc.ok
theorem jW : OpR X (binaryOp .FloorDiv) (rI xO fun i j => .int (i / j)) := opI fun i j _ _ _ _ _ hc q => by
 have h1 : (0 : Int) < j := hc.1
 have h2 : j < 1073741824 := hc.2
 exact floordiv_int (by omega) (by rw [Int.fdiv_eq_ediv_of_nonneg i (by omega)]; exact q) (.inl (PyProof.noPylong_small (by omega)))
theorem dD : OpR X (binaryOp .Mod) (rI (fun _ j => 0 < j) fun i j => .int (i % j)) := opI fun i j _ _ _ _ _ hc q => by
 have h1 : (0 : Int) < j := hc
 exact mod_int' (by omega) (by rw [Int.fmod_eq_emod_of_nonneg i (by omega)]; exact q)
end
def wz : V -> V -> Bool
 | .non, .non => true | .non, .int _ => true | .int _, .non => true | .non, .bl _ => true | .bl _, .non => true | .non, .str _ => true | .str _, .non => true
 | .int _, .int _ => true | .bl _, .bl _ => true | .str _, .str _ => true | .byt _, .byt _ => true
 | .int _, .str _ => true | .str _, .int _ => true | .bl _, .str _ => true | .str _, .bl _ => true
 | _, _ => false
def rEq : R2 := fun x y H Q => wz x y = true /\ Q (.bl (decide (x = y))) H
def rNe : R2 := fun x y H Q => wz x y = true /\ Q (.bl (!decide (x = y))) H
theorem pJ {i j : Int} : decide (V.int i = V.int j) = (i == j) := by
 rw [Bool.eq_iff_iff]
 simp
theorem q_ {i j : Bool} : decide (V.bl i = V.bl j) = (i == j) := by
 rw [Bool.eq_iff_iff]
 simp
theorem qg {i j : Str} : decide (V.str i = V.str j) = (i == j) := by
 rw [Bool.eq_iff_iff]
 simp
theorem qe {i j : Array UInt8} : decide (V.byt i = V.byt j) = (i.toList == j.toList) := by
 rw [Bool.eq_iff_iff]
 cases i
 cases j
 simp
section
variable {X : Cx} {a b c : Expr} {ta tb tc : TE} {pos : Pos}
theorem aP {pins : List (Addr × Obj)} {σ : St} {H : Hp} {s : Shared} {Q : VK} {k k' : Bool} (I : Inv X pins σ H s) (q : Q (.bl k) H) (e : k = k') : EP X pins σ Q (.bool k') s := by
 subst e
 exact ⟨.bl k, H, I, rfl, q⟩
theorem fW : OpR X (compareOp .Eq) rEq := by
 intro pins s σ H x y v u Q I rx ry h
 obtain ⟨hs, q⟩ := h
 cases x with
 | non =>
  cases rx
  cases y with
  | non => cases ry; exact PySem.EqNone.eq_none_none (aP I q (by simp))
  | bl j => cases ry; exact PySem.EqNone.eq_none_bool (aP I q (by simp))
  | int j => obtain ⟨t', rfl⟩ := ry; exact PySem.EqNone.eq_none_int (aP I q (by simp))
  | str j => obtain ⟨t', rfl⟩ := ry; exact PySem.EqNone.eq_none_str (aP I q (by simp))
  | _ => exact absurd (show false = true from hs) Bool.false_ne_true
 | bl i =>
  cases rx
  cases y with
  | non => cases ry; exact PySem.EqNone.eq_bool_none (aP I q (by simp))
  | bl j => cases ry; exact eq_bool (aP I q q_)
  | str j => obtain ⟨t', rfl⟩ := ry; exact PySem.EqMixed.eq_bool_str (aP I q (by simp))
  | _ => exact absurd (show false = true from hs) Bool.false_ne_true
 | int i =>
  obtain ⟨t, rfl⟩ := rx
  cases y with
  | non => cases ry; exact PySem.EqNone.eq_int_none (aP I q (by simp))
  | int j => obtain ⟨t', rfl⟩ := ry; exact eq_int (aP I q pJ)
  | str j => obtain ⟨t', rfl⟩ := ry; exact PySem.EqMixed.eq_int_str (aP I q (by simp))
  | _ => exact absurd (show false = true from hs) Bool.false_ne_true
 | str i =>
  obtain ⟨t, rfl⟩ := rx
  cases y with
  | non => cases ry; exact PySem.EqNone.eq_str_none (aP I q (by simp))
  | bl j => cases ry; exact PySem.EqMixed.eq_str_bool (aP I q (by simp))
  | int j => obtain ⟨t', rfl⟩ := ry; exact PySem.EqMixed.eq_str_int (aP I q (by simp))
  | str j => obtain ⟨t', rfl⟩ := ry; exact eq_str (aP I q qg)
  | _ => exact absurd (show false = true from hs) Bool.false_ne_true
 | byt i =>
  obtain ⟨t, rfl⟩ := rx
  cases y with
  | byt j => obtain ⟨t', rfl⟩ := ry; exact PySem.W.eq_bytes (aP I q qe)
  | _ => exact absurd (show false = true from hs) Bool.false_ne_true
 | _ => cases y <;> exact absurd (show false = true from hs) Bool.false_ne_true
theorem jA : OpR X (compareOp .NotEq) rNe := by
 intro pins s σ H x y v u Q I rx ry h
 obtain ⟨hs, q⟩ := h
 cases x with
 | non =>
  cases rx
  cases y with
  | non => cases ry; exact PySem.EqNone.ne_none_none (aP I q (by simp))
  | bl j => cases ry; exact PySem.EqNone.ne_none_bool (aP I q (by simp))
  | int j => obtain ⟨t', rfl⟩ := ry; exact PySem.EqNone.ne_none_int (aP I q (by simp))
  | str j => obtain ⟨t', rfl⟩ := ry; exact PySem.EqNone.ne_none_str (aP I q (by simp))
  | _ => exact absurd (show false = true from hs) Bool.false_ne_true
 | bl i =>
  cases rx
  cases y with
  | non => cases ry; exact PySem.EqNone.ne_bool_none (aP I q (by simp))
  | bl j => cases ry; exact ne_bool (aP I q (congrArg not q_))
  | str j => obtain ⟨t', rfl⟩ := ry; exact PySem.EqMixed.ne_bool_str (aP I q (by simp))
  | _ => exact absurd (show false = true from hs) Bool.false_ne_true
 | int i =>
  obtain ⟨t, rfl⟩ := rx
  cases y with
  | non => cases ry; exact PySem.EqNone.ne_int_none (aP I q (by simp))
  | int j => obtain ⟨t', rfl⟩ := ry; exact ne_int (aP I q (congrArg not pJ))
  | str j => obtain ⟨t', rfl⟩ := ry; exact PySem.EqMixed.ne_int_str (aP I q (by simp))
  | _ => exact absurd (show false = true from hs) Bool.false_ne_true
 | str i =>
  obtain ⟨t, rfl⟩ := rx
  cases y with
  | non => cases ry; exact PySem.EqNone.ne_str_none (aP I q (by simp))
  | bl j => cases ry; exact PySem.EqMixed.ne_str_bool (aP I q (by simp))
  | int j => obtain ⟨t', rfl⟩ := ry; exact PySem.EqMixed.ne_str_int (aP I q (by simp))
  | str j => obtain ⟨t', rfl⟩ := ry; exact ne_str (aP I q (congrArg not qg))
  | _ => exact absurd (show false = true from hs) Bool.false_ne_true
 | byt i =>
  obtain ⟨t, rfl⟩ := rx
  cases y with
  | byt j => obtain ⟨t', rfl⟩ := ry; exact PySem.W.ne_bytes (aP I q (congrArg not qe))
  | _ => exact absurd (show false = true from hs) Bool.false_ne_true
 | _ => cases y <;> exact absurd (show false = true from hs) Bool.false_ne_true
theorem qw : OpR X (compareOp .Lt) (rI0 fun i j => .bl (decide (i < j))) := ud fun _ _ _ _ _ _ _ q => lt_int q
theorem cY : OpR X (compareOp .LtE) (rI0 fun i j => .bl (decide (i <= j))) := ud fun _ _ _ _ _ _ _ q => le_int q
theorem mQ : OpR X (compareOp .Gt) (rI0 fun i j => .bl (decide (j < i))) := ud fun _ _ _ _ _ _ _ q => gt_int q
theorem rN : OpR X (compareOp .In) (fun x y H Q => ∃ i j, x = .str i /\ y = .str j /\ Q (.bl (!(Builtin.Str.occurrences j i 0 j.length 1).isEmpty)) H) := by
 intro pins s σ H x y v u Q I rx ry h
 obtain ⟨i, j, rfl, rfl, q⟩ := h
 obtain ⟨t, rfl⟩ := rx
 obtain ⟨t', rfl⟩ := ry
 exact in_str (aP I q rfl)
theorem qT : OpR X (compareOp .Is) (fun x y H Q => y = .non /\ Q (.bl (decide (x = .non))) H) := by
 intro pins s σ H x y v u Q I rx ry h
 obtain ⟨rfl, q⟩ := h
 cases ry
 refine is_none_gen (aP I q ?_)
 cases x <;> first
  | (cases rx; rfl)
  | (obtain ⟨t, rfl⟩ := rx; rfl)
theorem pY : OpR X (compareOp .IsNot) (fun x y H Q => y = .non /\ Q (.bl (!decide (x = .non))) H) := by
 intro pins s σ H x y v u Q I rx ry h
 obtain ⟨rfl, q⟩ := h
 cases ry
 refine isnot_none_gen (aP I q ?_)
 cases x <;> first
  | (cases rx; rfl)
  | (obtain ⟨t, rfl⟩ := rx; rfl)
def isObj : HO -> Bool
 | .lst _ => true
 | .ins _ _ _ => true
 | _ => false
theorem OpR.or {f : Value -> Value -> Sem Value} {r r' : R2} (h : OpR X f r) (h' : OpR X f r') : OpR X f (fun x y H Q => r x y H Q \/ r' x y H Q) := by
 intro pins s σ H x y v u Q I rx ry q
 rcases q with q | q
 ·exact h pins s σ H x y v u Q I rx ry q
 ·exact h' pins s σ H x y v u Q I rx ry q
theorem aZ (b : Expr) {op : CmpOp} (h : op ≠ .In := by decide) (h2 : op ≠ .NotIn := by decide) : behindInMarks op b = false := by
 have e1 : (op == CmpOp.In) = false := by cases op <;> first | rfl | exact absurd rfl h
 have e2 : (op == CmpOp.NotIn) = false := by cases op <;> first | rfl | exact absurd rfl h2
 cases b <;> simp [behindInMarks, e1, e2]
theorem eZ {op : CmpOp} {r : R2} (ho : OpR X (compareOp op) r) (ha : PE X a ta) (hb : PE X b tb) (hm : behindInMarks op b = false) : PE X (.Compare a [op] [b] pos) (tOp r ta tb) := by
 intro pins s σ H Q I h
 exact wpAny_Compare1 (qQ ha hb I h fun v u s2 x y H2 I2 rx ry q => ho pins s2 σ H2 x y v u Q I2 rx ry q) hm
def uo (t : TE) : TT := fun σ H Q => t σ H fun x H' => ∃ k, x = .bl k /\ Q k H'
theorem bc {op : CmpOp} {r : R2} (ho : OpR X (compareOp op) r) (ha : PE X a ta) (hb : PE X b tb) (hm : behindInMarks op b = false) : PT X (.Compare a [op] [b] pos) (uo (tOp r ta tb)) := by
 intro pins s σ H Q I h
 refine wpAny_isTrue_Compare1 (thn (ha pins s σ H _ I h) fun v s1 ⟨x, H1, I1, r1, q1⟩ => thn (hb pins s1 σ H1 _ I1 q1) fun u s2 ⟨y, H2, I2, r2, q2⟩ =>
  thn (ho pins s2 σ H2 x y v u _ I2 r1 r2 q2) fun c s3 ⟨z, H3, I3, r3, k, e, q3⟩ => ?_) hm
 subst e
 cases r3
 exact wpAny_truthy_bool ⟨H3, I3, q3⟩
def rH (r r' : R2) (ta tb tc : TE) : TE := fun σ H Q => ta σ H fun x H1 => tb σ H1 fun y H2 => r x y H2 fun z H3 => ∃ k, z = .bl k /\
 (if k = true then tc σ H3 fun w' H4 => r' y w' H4 Q else Q (.bl false) H3)
theorem m_ {op op' : CmpOp} {r r' : R2} (ho : OpR X (compareOp op) r) (ho' : OpR X (compareOp op') r') (ha : PE X a ta) (hb : PE X b tb) (hc : PE X c tc)
  (hm : lastMarks [op, op'] [b, c] = false := by with_unfolding_all rfl) : PE X (.Compare a [op, op'] [b, c] pos) (rH r r' ta tb tc) := by
 intro pins s σ H Q I h
 refine Compare_chain (thn (ha pins s σ H _ I h) fun v s1 ⟨x, H1, I1, r1, q1⟩ => chain_link (thn (hb pins s1 σ H1 _ I1 q1) fun u s2 ⟨y, H2, I2, r2, q2⟩ =>
  thn (ho pins s2 σ H2 x y v u _ I2 r1 r2 q2) fun d s3 ⟨z, H3, I3, r3, k, e, q3⟩ => ?_)) hm
 subst e
 cases r3
 refine wpAny_truthy_bool ?_
 cases k with
 | false => exact ite_ff ⟨.bl false, H3, I3, rfl, q3⟩
 | true => exact ite_tt (chain_last (thn (hc pins s3 σ H3 _ I3 q3) fun w' s4 ⟨z', H4, I4, r4, q4⟩ => ho' pins s4 σ H4 y z' u w' Q I4 r2 r4 q4))
theorem e_ {op op' : CmpOp} {r r' : R2} (ho : OpR X (compareOp op) r) (ho' : OpR X (compareOp op') r') (ha : PE X a ta) (hb : PE X b tb) (hc : PE X c tc)
  (hm : lastMarks [op, op'] [b, c] = false := by with_unfolding_all rfl) : PT X (.Compare a [op, op'] [b, c] pos) (uo (rH r r' ta tb tc)) := by
 intro pins s σ H Q I h
 refine isTrue_chain (thn (ha pins s σ H _ I h) fun v s1 ⟨x, H1, I1, r1, q1⟩ => test_link (thn (hb pins s1 σ H1 _ I1 q1) fun u s2 ⟨y, H2, I2, r2, q2⟩ =>
  thn (ho pins s2 σ H2 x y v u _ I2 r1 r2 q2) fun d s3 ⟨z, H3, I3, r3, k, e, q3⟩ => ?_)) hm
 subst e
 cases r3
 refine wpAny_truthy_bool ?_
 cases k with
 | false =>
  obtain ⟨k', e', q'⟩ := q3
  cases e'
  exact ite_ff ⟨H3, I3, q'⟩
 | true =>
  refine ite_tt (test_last (thn (hc pins s3 σ H3 _ I3 q3) fun w' s4 ⟨z', H4, I4, r4, q4⟩ => thn (ho' pins s4 σ H4 y z' u w' _ I4 r2 r4 q4) fun d' s5 ⟨z2, H5, I5, r5, k2, e2, q5⟩ => ?_))
  subst e2
  cases r5
  exact wpAny_truthy_bool ⟨H5, I5, q5⟩
def zg (K : PySem.W.Frag) (x : V) (H : Hp) (k : Bool) : Prop :=
 match x with
 | .non => k = false
 | .bl b => k = b
 | .int i => k = (i != 0)
 | .str y => y.length <= sizeLine /\ k = ((y.length : Int) != 0)
 | .byt y => y.size <= sizeLine /\ k = ((y.size : Int) != 0)
 | .ref p => (∃ xs, SqL K H p xs /\ k = !xs.isEmpty) \/ (∃ xs, SqT K H p xs /\ k = !xs.isEmpty) \/ ∃ kvs, H p = some (.dK kvs) /\ k = !kvs.isEmpty
 | _ => False
theorem iR : (sizeLine : Nat) < 2 ^ 63 := by rw [sizeLine_eq]; decide
theorem cR : OpR X (binaryOp .Add) (fun x y H Q => ∃ i j, x = .str i /\ y = .str j /\ i.length + j.length <= sizeLine /\ Q (.str (i ++ j)) H) := by
 intro pins s σ H x y v u Q I rx ry h
 obtain ⟨i, j, rfl, rfl, hz, q⟩ := h
 obtain ⟨t, rfl⟩ := rx
 obtain ⟨t', rfl⟩ := ry
 exact add_str (fun t' tk => ⟨.str (i ++ j), H, I.tok _, ⟨_, rfl⟩, q⟩) hz
def t_ (b : Expr) : Prop := ∀ o i, subscripted b false o i = operate [o, i] (getItem o i)
theorem pB (ha : PE X a ta) (hb : PE X b tb) (hs : t_ b) :
  PE X (.Subscript a b pos) (tOp (fun x y H Q => ∃ z i c, x = .str z /\ y = .int i /\ 0 <= i /\ i < 2 ^ 63 /\ i < z.length /\ z.cps[i.toNat]? = some c /\ Q (.str ⟨#[c]⟩) H) ta tb) := by
 intro pins s σ H Q I h
 refine Subscript_ (qQ ha hb I h fun v u s2 x y H2 I2 rx ry q => ?_)
 obtain ⟨z, i, c, rfl, rfl, h0, h63, h1, hc, q⟩ := q
 obtain ⟨t, rfl⟩ := rx
 obtain ⟨t', rfl⟩ := ry
 have e : seqIndex? i z.length = some i.toNat := PySem.StrLaws.seqIndex_nonneg h0 h1
 exact tail_any (typeIs_str s2 z t) slot_str_getitem.lookup (getItem_str (c := c) (by
  have e1 : decide (i < -(2 ^ 63 : Int)) = false := decide_eq_false (by omega)
  have e2 : decide (i ≥ 2 ^ 63) = false := decide_eq_false (by omega)
  rw [e1, e2] <;> rfl) (by rw [e]; exact hc) ⟨.str ⟨#[c]⟩, H2, I2.tok _, ⟨_, rfl⟩, q⟩) (hs _ _)
theorem vals1 {x : V} {us : List Value} (r : Vals [x] us) : ∃ u, us = [u] /\ RelV x u := by
 cases r with
 | cons r1 r2 => cases r2; exact ⟨_, rfl, r1⟩
theorem qZ : CallR X (.type "int") (fun xs H Q => (∃ i, xs = [.int i] /\ Q (.int i) H) \/ ∃ k, xs = [.bl k] /\ Q (.int (if k then 1 else 0)) H) := by
 intro pins s σ H xs us Q I r h
 rcases h with ⟨i, rfl, q⟩ | ⟨k, rfl, q⟩
 ·obtain ⟨u, rfl, t, rfl⟩ := vals1 r
  exact call_int_int ⟨.int i, H, I, ⟨_, rfl⟩, q⟩
 ·obtain ⟨u, rfl, r1⟩ := vals1 r
  cases r1
  exact call_int_bool ⟨.int (if k then 1 else 0), H, I.tok _, ⟨_, rfl⟩, q⟩
theorem fG : CallR X (.type "str") (fun xs H Q => ∃ i, xs = [.int i] /\ i.natAbs.log2 < 1920 /\ Q (.str (toString i)) H) := by
 intro pins s σ H xs us Q I r h
 obtain ⟨i, rfl, hz, q⟩ := h
 obtain ⟨u, rfl, t, rfl⟩ := vals1 r
 exact PySem.P.str_of_int hz ⟨.str _, H, I.tok _, ⟨_, rfl⟩, q⟩
def zB (K : PySem.W.Frag) (x : V) (H : Hp) (n : Nat) : Prop :=
 match x with
 | .str y => y.length <= sizeLine /\ n = y.length
 | .byt y => y.size <= sizeLine /\ n = y.size
 | .ref p => (∃ xs, SqL K H p xs /\ n = xs.length) \/ ∃ xs, SqT K H p xs /\ n = xs.length
 | _ => False
end
end L2
namespace L2
open PySem PySem.Spec PyProof.Rows
structure ObjM (h : Heap) (x dx C : Addr) (mA : Str -> Option Value) : Prop where
 obj : h.get? x = some (PySem.W.instObj C dx)
 ns : h.Ns1 dx mA
 ne : dx ≠ x
theorem rn {h : Heap} {dx : Addr} {mA : Str -> Option Value} (n : h.Ns1 dx mA) : ∃ od, h.get? dx = some od /\ ∀ name, PySem.W.lookIn name od = some (mA name) := by
 obtain ⟨o, es, ep, ho, hd, hk, _, hm⟩ := n
 refine ⟨o, ho, fun name => ?_⟩
 have e := hm name
 unfold nsFind findBy at e
 rw [<- Array.find?_toList] at e
 unfold PySem.W.lookIn
 rw [hd]
 dsimp only
 split
 ·rename_i y q
  rw [q] at e
  exact congrArg some e
 ·rename_i q
  rw [q] at e
  have a : es.toList.any (·.refKey) = false := by
   rw [List.any_eq_false]
   intro y hy
   obtain ⟨z, t, hkey⟩ := hk y (Array.mem_toList_iff.mp hy)
   simp [DictEntry.refKey, hkey]
  have a' : ¬ es.toList.any (·.refKey) = true := by rw [a]; exact Bool.false_ne_true
  rw [if_neg a']
  exact congrArg some e
theorem ObjM.look {h : Heap} {x dx C : Addr} {mA : Str -> Option Value} (I : ObjM h x dx C mA) : ∃ od, PySem.W.InstAt h x (PySem.W.instObj C dx) C (some od) /\ ∀ name, PySem.W.lookIn name od = some (mA name) :=
 let ⟨od, ho, hl⟩ := rn I.ns
 ⟨od, ⟨I.obj, rfl, rfl, ho⟩, hl⟩
section
variable {prog : Program} {w : World} {A : Around} {E : Value -> Shared -> Prop} {s : Shared} {K : PySem.W.Frag} {x dx C f : Addr} {mA : Str -> Option Value} {name : Str} {v : Value}
end
def tO (f : Str) (v : V) : List (Str × V) -> List (Str × V)
 | [] => [(f, v)]
 | (g, x) :: r => if g = f then (g, v) :: r else (g, x) :: tO f v r
theorem RelO.some_of {v : V} {o : Option Value} (r : RelO (some v) o) : ∃ u, o = some u /\ RelV v u := by
 cases o with
 | none => exact (show False from r).elim
 | some u => exact ⟨u, rfl, r⟩
section
variable {P : Program} {w : World} {H H' : Hp} {h h' : Heap} {a C dx : Addr} {fs fs' : List (Str × V)}
theorem uG (hok : HOk P w H h) (e : H a = some (.ins C dx fs)) : ∃ mA, ObjM h a dx C mA /\ (∀ f, RelO (fs.lookup f) (mA f)) /\ PySem.Within mA (fs.map (·.1)) /\ fs.length <= 1000 /\ H dx = some (.own a) := by
 obtain ⟨d, z, ne, ob, mA, n, r, q⟩ := (show ObjOk P w H h a (.ins C dx fs) from hok a _ e)
 exact ⟨mA, ⟨ob, n, ne⟩, r, q, z, d⟩
end
structure Cls (K : PySem.W.Frag) (C : Addr) : Prop where
 pg : PySem.W.plainGet K C Str.empty = true
 hd : PySem.W.hasDictIn K C = true
 po : PySem.W.plainOver K C = true
 sa : PySem.W.findIn K (.ref C) "__setattr__" = some (some (.builtin "object.__setattr__"))
theorem Cls.get {K : PySem.W.Frag} {C : Addr} (c : Cls K C) (f : Str) : PySem.W.plainGet K C f = true := c.pg
def jQ (K : PySem.W.Frag) (C : Addr) (f : Str) : Prop := PySem.W.findIn K (.ref C) f = some none
structure Con (K : PySem.W.Frag) (C : Addr) (f : Str) (v : V) (u : Value) : Prop where
 at_ : PySem.W.findIn K (.ref C) f = some (some u)
 rel : RelV v u
 get : PySem.W.specialIn K u "__get__" = some none
 cp : PySem.W.copiedNames.contains f = false
structure Meth (K : PySem.W.Frag) (C : Addr) (m : Str) (f : Addr) : Prop where
 at_ : PySem.W.findIn K (.ref C) m = some (some (.ref f))
 fn : PySem.W.isFn K (.ref f) = true
 kp : PySem.W.keepIn K (.ref f) = true
section
variable {X : Cx} {pins : List (Addr × Obj)} {σ : St} {H : Hp} {s : Shared} {a C dx : Addr} {fs : List (Str × V)} {f : Str} {v : V} {A : Around} {E : Value -> Shared -> Prop}
theorem Inv.made (I : Inv X pins σ H s) : Inv X pins σ (upd (upd H s.heap.objs.size (.own (s.heap.objs.size + 1))) (s.heap.objs.size + 1) (.ins C s.heap.objs.size []))
  { s with heap := (s.heap.push PySem.W.emptyDict).push (PySem.W.instObj C s.heap.objs.size) } := by
 have e1 : (s.heap.push PySem.W.emptyDict).get? s.heap.objs.size = some PySem.W.emptyDict := Heap.get?_push_size s.heap rfl
 have e2 : ((s.heap.push PySem.W.emptyDict).push (PySem.W.instObj C s.heap.objs.size)).get? (s.heap.objs.size + 1) = some (PySem.W.instObj C s.heap.objs.size) := by
  have := Heap.get?_push_size (s.heap.push PySem.W.emptyDict) (o := PySem.W.instObj C s.heap.objs.size) rfl
  rwa [Heap.size_push] at this
 have e3 : (s.heap.push PySem.W.emptyDict).Ns s.heap.objs.size (fun _ => none) := ⟨PySem.W.emptyDict, #[], _, e1, rfl, (fun e he => absurd he (by simp)), fun _ => rfl⟩
 have I1 := I.laid (a := s.heap.objs.size) (o := .own (s.heap.objs.size + 1)) (h' := s.heap.push PySem.W.emptyDict) (t' := s.toks) (fun b u q => Heap.get?_push_of_some _ q) (Nat.le_refl _) ⟨_, e1⟩
 refine I1.laid (a := s.heap.objs.size + 1) (o := .ins C s.heap.objs.size []) (t' := s.toks) (fun b u q => Heap.get?_push_of_some _ q) (Nat.le_of_eq (Heap.size_push _ _)) ?_
 have ne : s.heap.objs.size ≠ s.heap.objs.size + 1 := Nat.ne_of_lt (Nat.lt_succ_self _)
 refine ⟨by rw [aH ne, au], Nat.zero_le _, ne, e2, fun _ => none, (Heap.Ns1.of_empty e3).at fun o q => Heap.get?_push_of_some _ q, fun _ => True.intro, fun y hy => absurd rfl hy⟩
end
def zu (K : PySem.W.Frag) (ta : TE) (f : Str) : TE := fun σ H Q => ta σ H fun x H1 => ∃ a C dx fs v, x = .ref a /\ H1 a = some (.ins C dx fs) /\ Cls K C /\ jQ K C f /\ fs.lookup f = some v /\ Q v H1
def zK (K : PySem.W.Frag) (ta : TE) (f : Str) : TE := fun σ H Q => ta σ H fun x H1 => ∃ a C dx fs v u, x = .ref a /\ H1 a = some (.ins C dx fs) /\ Cls K C /\ Con K C f v u /\ fs.lookup f = none /\ Q v H1
def zG (K : PySem.W.Frag) (ta tv : TE) (f : Str) : TS := fun D σ H => tv σ H fun y H1 => ta σ H1 fun x H2 => ∃ a C dx fs, x = .ref a /\ H2 a = some (.ins C dx fs) /\ Cls K C /\ jQ K C f /\ fs.length < 1000 /\
 D.nx σ (upd H2 a (.ins C dx (tO f y fs)))
def zE (X : Cx) (op : Operator) (rd : V -> V -> Hp -> VK -> Prop) : Prop :=
 ∀ (pins : List (Addr × Obj)) (s : Shared) (σ : St) (H : Hp) (x y : V) (u v : Value) (Q : VK), Inv X pins σ H s -> RelV x u -> RelV y v -> rd x y H Q -> wpAny (model X.prog X.w) X.A (inplaceOp op u v) (EP X pins σ Q) X.xe s
def yh (K : PySem.W.Frag) (ta tv : TE) (rd : V -> V -> Hp -> VK -> Prop) (f : Str) : TS := fun D σ H => ta σ H fun x H1 => ∃ a C dx fs v, x = .ref a /\ H1 a = some (.ins C dx fs) /\ Cls K C /\ jQ K C f /\ fs.lookup f = some v /\
 tv σ H1 fun y H2 => rd v y H2 fun z H3 => ∃ dx' fs', H3 a = some (.ins C dx' fs') /\ fs'.length < 1000 /\ D.nx σ (upd H3 a (.ins C dx' (tO f z fs')))
section
variable {X : Cx} {o e value : Expr} {f : Str} {pos pos' tpos : Pos} {ta tv : TE}
def zU : V -> V -> Hp -> VK -> Prop := fun x y H Q => ∃ i j, x = .int i /\ y = .int j /\ Q (.int (i + j)) H
def zV : V -> V -> Hp -> VK -> Prop := fun x y H Q => ∃ i j, x = .int i /\ y = .int j /\ Q (.int (i - j)) H
end
section
variable {X : Cx} {pins : List (Addr × Obj)} {σ : St} {H : Hp} {s : Shared} {A : Around} {E : Value -> Shared -> Prop} {Q : Value -> Shared -> Prop} {c : Value} {b : Bool}
inductive TyOf (K : PySem.W.Frag) (H : Hp) : V -> Value -> Prop where
 | non : TyOf K H .non (.type "NoneType")
 | bl (x : Bool) : TyOf K H (.bl x) (.type "bool")
 | int (i : Int) : TyOf K H (.int i) (.type "int")
 | str (x : Str) : TyOf K H (.str x) (.type "str")
 | flt (x : UInt64) : TyOf K H (.flt x) (.type "float")
 | lst {a : Addr} {xs : List V} (e : H a = some (.lst xs)) : TyOf K H (.ref a) (.type "list")
 | frz {a : Addr} {o : Obj} {xs : List V} (e : H a = some (.frz o (.lst xs))) : TyOf K H (.ref a) (.type "list")
 | tup {a : Addr} {xs : List V} (e : H a = some (.tup xs)) : TyOf K H (.ref a) (.type "tuple")
 | dK {a : Addr} {kvs : List (Key × V)} (e : H a = some (.dK kvs)) : TyOf K H (.ref a) (.type "dict")
 | dT {a : Addr} {kvs : List (List Key × V)} (e : H a = some (.dT kvs)) : TyOf K H (.ref a) (.type "dict")
 | ins {a C dx : Addr} {fs : List (Str × V)} (e : H a = some (.ins C dx fs)) (cl : Cls K C) (ha : PySem.W.findIn K (.ref C) "__class__" = some (some (.builtin "object.__class__")))
   (hn : PySem.W.specialIn K (.builtin "object.__class__") "__get__" = some (some (.builtin "getset_descriptor.__get__"))) (htk : PySem.W.takesIn K (.builtin "object.__class__") = some true)
   (hm : PySem.W.mroIn K C (.type "object") = some true) : TyOf K H (.ref a) (.ref C)
theorem rE {x : V} {u t : Value} (I : Inv X pins σ H s) (rx : RelV x u) (ty : TyOf X.K H x t) (e : PySem.W.kitOne X.K t c = some b) (h : ∀ tk, Q (.bool b) { s with toks := tk }) :
  wpAny (model X.prog X.w) A (call (.builtin "isinstance") [u, c]) Q E s := by
 cases ty with
 | non => cases (show u = Value.none from rx); exact PySem.W.kia_one PySem.W.kitx_none I.kIn True.intro e (fun z => nomatch z) h
 | bl y => cases (show u = Value.bool y from rx); exact PySem.W.kia_one PySem.W.kitx_bool I.kIn True.intro e (fun z => nomatch z) h
 | int i => obtain ⟨t, q⟩ := (show ∃ t, u = Value.int i t from rx); cases q; exact PySem.W.kia_one PySem.W.kitx_int I.kIn True.intro e (fun z => nomatch z) h
 | str y => obtain ⟨t, q⟩ := (show ∃ t, u = Value.str y t from rx); cases q; exact PySem.W.kia_one PySem.W.kitx_str I.kIn True.intro e (fun z => nomatch z) h
 | flt y => obtain ⟨t, q⟩ := (show ∃ t, u = Value.float y t from rx); cases q; exact PySem.W.kia_one PySem.W.kitx_float I.kIn True.intro e (fun z => nomatch z) h
 | @lst a xs ea =>
  cases (show u = Value.ref a from rx)
  obtain ⟨_, _, n, _, h1⟩ := (show ObjOk X.prog X.w H s.heap a (.lst xs) from I.hok a _ ea)
  exact PySem.W.kia_one PySem.W.kitx_list I.kIn ⟨_, h1, rfl⟩ e (fun z => nomatch z) h
 | @frz a ob xs ea =>
  cases (show u = Value.ref a from rx)
  obtain ⟨_, _, _, n, _, h1⟩ := (show ObjOk X.prog X.w H s.heap a (.frz ob (.lst xs)) from I.hok a _ ea)
  exact PySem.W.kia_one PySem.W.kitx_list I.kIn ⟨_, h1, rfl⟩ e (fun z => nomatch z) h
 | @tup a xs ea =>
  cases (show u = Value.ref a from rx)
  obtain ⟨_, _, _, p⟩ := (show ObjOk X.prog X.w H s.heap a (.tup xs) from I.hok a _ ea)
  obtain ⟨o, h1, h2, _⟩ := p
  exact PySem.W.kia_one PySem.W.kitx_tuple I.kIn ⟨o, h1, h2⟩ e (fun z => nomatch z) h
 | @dK a kvs ea =>
  cases (show u = Value.ref a from rx)
  obtain ⟨_, _, vs, _, p⟩ := (show ObjOk X.prog X.w H s.heap a (.dK kvs) from I.hok a _ ea)
  obtain ⟨o, es, ep, h1, h2, _⟩ := p
  exact PySem.W.kia_one PySem.W.kitx_dict I.kIn ⟨o, h1, h2.1⟩ e (fun z => nomatch z) h
 | @dT a kvs ea =>
  cases (show u = Value.ref a from rx)
  obtain ⟨_, _, xs, _, o, es, ep, h1, h2, _⟩ := (show ObjOk X.prog X.w H s.heap a (.dT kvs) from I.hok a _ ea)
  exact PySem.W.kia_one PySem.W.kitx_dict I.kIn ⟨o, h1, h2.1⟩ e (fun z => nomatch z) h
 | @ins a C dx fs ea cl ha hn htk hm =>
  cases (show u = Value.ref a from rx)
  obtain ⟨mA, O, _⟩ := uG I.hok ea
  obtain ⟨od, J, _⟩ := O.look
  exact PySem.W.kia_one (PySem.W.kitx_own (cl.get _) cl.hd ha hn htk hm) I.kIn J e (fun z => nomatch z) h
end
end L2
namespace L2
open PySem PySem.Spec PyProof.Rows
structure Room (k : Nat) (A : Around) : Prop where
 hd : A.handled = none
 dp : A.depth + 3 * k + 5 < recursionLimit
 un : A.units + 16 * k + 200 < cLine
theorem Room.mono {j k : Nat} {A : Around} (r : Room k A) (h : j <= k) : Room j A := ⟨r.hd, by have := r.dp; omega, by have := r.un; omega⟩
theorem Room.deeper {k : Nat} {A : Around} (r : Room (k + 1) A) (env : Env) : Room k (A.deeper env) :=
 ⟨r.hd, by have := r.dp; show A.depth + 1 + 3 * k + 5 < _; omega, by have := r.un; show A.units + 3 + 16 * k + 200 < _; omega⟩
theorem Room.in1 {k : Nat} {A : Around} (r : Room (k + 1) A) : Room k A.in1 :=
 ⟨r.hd, by have := r.dp; show A.depth + 3 * k + 5 < _; omega, by have := r.un; show A.units + 1 + 16 * k + 200 < _; omega⟩
theorem Room.depth {k : Nat} {A : Around} (r : Room k A) : A.depth < recursionLimit := by have := r.dp; omega
theorem Room.units {k : Nat} {A : Around} (r : Room k A) : A.units + 64 < cLine := by have := r.un; omega
def tH : TA := fun _ H Q => Q [] H
def wO (ta : TE) (tr : TA) : TA := fun σ H Q => ta σ H fun x H1 => tr σ H1 fun xs H2 => Q (x :: xs) H2
section
variable {X : Cx} {e : Expr} {es : List Expr} {te : TE} {t : TA} {pos : Pos}
theorem ao : PA X [] tH := fun _ _ _ _ H Q I h => Calls.spliced_nil ⟨[], H, I, .nil, h⟩
theorem aa (ha : PE X e te) (hr : PA X es t) (hs : starEach (e :: es) X.env = (false, eval e X.env) :: starEach es X.env := by rfl) : PA X (e :: es) (wO te t) := by
 intro pos pins s σ H Q I h
 rw [hs]
 show wpAny _ _ (spliced ((false, eval e X.env) :: backTo pos (starEach es X.env))) _ _ s
 refine Calls.spliced_cons (thn (ha pins s σ H _ I h) fun u s1 ⟨x, H1, I1, r1, q1⟩ => ?_)
 exact thn (hr pos pins s1 σ H1 _ I1 q1) fun us s2 ⟨xs, H2, I2, r2, q2⟩ => ⟨x :: xs, H2, I2, .cons r1 r2, q2⟩
def yd (t : TA) : TE := fun σ H Q => t σ H fun xs H1 => xs.length <= sizeLine /\ ∀ p, H1 p = none -> Q (.ref p) (upd H1 p (.tup xs))
def xY (t : TA) : TE := fun σ H Q => t σ H fun xs H1 => xs.length <= sizeLine /\ ∀ p, H1 p = none -> Q (.ref p) (upd H1 p (.lst xs))
theorem fH {x1} (h : PA X es t) : PE X (.Tuple es x1 pos) (yd t) := by
 intro pins s σ H Q I hq
 refine wpAny_Tuple_spliced (thn (h pos pins s σ H _ I hq) fun us s1 ⟨xs, H1, I1, r, z, q⟩ => ⟨by rw [<- r.length]; exact z, ?_⟩)
 have hf : H1 s1.heap.objs.size = none := I1.hok.fresh (Nat.le_refl _)
 refine ⟨.ref s1.heap.objs.size, upd H1 s1.heap.objs.size (.tup xs), I1.laid (t' := s1.toks) (fun b u e => Heap.get?_push_of_some _ e) (Nat.le_refl _) ?_, rfl, q _ hf⟩
 exact ⟨z, us, r, ⟨_, Heap.get?_push_size _ rfl, rfl, _, rfl⟩⟩
theorem cM (h : PA X es t) : PE X (.List es pos) (xY t) := by
 intro pins s σ H Q I hq
 refine wpAny_List_spliced (thn (h pos pins s σ H _ I hq) fun us s1 ⟨xs, H1, I1, r, z, q⟩ => ⟨by rw [<- r.length]; exact z, ?_⟩)
 have hf : H1 s1.heap.objs.size = none := I1.hok.fresh (Nat.le_refl _)
 refine ⟨.ref s1.heap.objs.size, upd H1 s1.heap.objs.size (.lst xs), I1.laid (t' := s1.toks) (fun b u e => Heap.get?_push_of_some _ e) (Nat.le_refl _) ?_, rfl, q _ hf⟩
 exact ⟨z, us, 0, r, Heap.get?_push_size _ rfl⟩
end
abbrev Sp := List V -> Hp -> VK -> XK -> Prop
abbrev CXT := List Env -> Hp -> Shared -> XK -> Value -> Shared -> Prop
structure Env0 (P : Program) (w : World) (K : PySem.W.Frag) (mg : Str -> Option Value) (base : Heap) (A : Around) (outer : List Env) (s : Shared) (H : Hp) : Prop where
 frames : A.frames = some outer
 mod : Mod K mg base
 bs : ∀ b o, base.get? b = some o -> s.heap.get? b = some o /\ H b = none
 bsz : base.objs.size <= s.heap.objs.size
 funs : s.heap.FunFrames base outer
 frf : ∀ b ∈ frs outer, H b = none
 hok : HOk P w H s.heap
 bare : AllBare s.gens
def CE (outer : List Env) (P : Program) (w : World) (H : Hp) (s : Shared) (Q : VK) (u : Value) (s' : Shared) : Prop :=
 ∃ v H', s'.os = s.os /\ AllBare s'.gens /\ Un (frs outer) [] H H' s.heap s'.heap /\ HOk P w H' s'.heap /\ RelV v u /\ Q v H'
def CR (CX : CXT) (outer : List Env) (P : Program) (w : World) (H : Hp) (s : Shared) (Q : VK) (E : XK) (r : Result) (s' : Shared) : Prop :=
 match r with
 | .ok (.ret u) => CE outer P w H s Q u s'
 | .ok _ => False
 | .error e => CX outer H s E e s'
structure FnOk (P : Program) (w : World) (K : PySem.W.Frag) (mg : Str -> Option Value) (base : Heap) (CX : CXT) (k : Nat) (f : Addr) (fd : FuncData) (ps : List Str) (sp : Sp) : Prop where
 len : ∀ vs H Q E, sp vs H Q E -> vs.length = ps.length
 run : ∀ (A : Around) (outer : List Env) (s : Shared) (H : Hp) (args : Args) (us : List Value) (vs : List V) (Q : VK) (E : XK), Room k A -> Env0 P w K mg base A outer s H -> BindsTo s fd args (ps.zip us) -> Vals vs us -> sp vs H Q E ->
  codeAny (model P w) A (.call (.ref f) args) (CR CX outer P w H s Q E) s
theorem FnOk.mono {P : Program} {w : World} {K : PySem.W.Frag} {mg : Str -> Option Value} {base : Heap} {CX : CXT} {j k : Nat} {f : Addr} {fd : FuncData} {ps : List Str} {sp : Sp} (F : FnOk P w K mg base CX j f fd ps sp) (h : j <= k) :
  FnOk P w K mg base CX k f fd ps sp := ⟨F.len, fun A outer s H args us vs Q E hr => F.run A outer s H args us vs Q E (hr.mono h)⟩
theorem Env0.in1 {P : Program} {w : World} {K : PySem.W.Frag} {mg : Str -> Option Value} {base : Heap} {A : Around} {outer : List Env} {s : Shared} {H : Hp} (e : Env0 P w K mg base A outer s H) :
  Env0 P w K mg base A.in1 outer s H := ⟨e.frames, e.mod, e.bs, e.bsz, e.funs, e.frf, e.hok, e.bare⟩
section
variable {X : Cx} {pins : List (Addr × Obj)} {σ : St} {H : Hp} {s s' : Shared}
theorem Inv.env0 (I : Inv X pins σ H s) : Env0 X.prog X.w X.K X.mg X.base X.A X.stack s H :=
 ⟨I.ok.frames, I.ok.mod, I.bs, Nat.le_trans I.ok.bsz I.sz, I.stack, I.stkFree, I.hok, I.bare⟩
theorem Inv.after {Q : VK} {u : Value} (I : Inv X pins σ H s) (h : CE X.stack X.prog X.w H s Q u s') : EP X pins σ Q u s' := by
 obtain ⟨v, H', os, bare, un, hok, r, q⟩ := h
 obtain ⟨hh, g, d, t, os'⟩ := s'
 obtain rfl : os' = s.os := os
 exact ⟨v, H', I.call (h' := hh) (g' := g) (d' := d) (t' := t) (ch := []) un hok bare (fun b z => absurd z (by simp)), r, q⟩
end
def jH (sp : Sp) (dvs : List V) (E : XK) (t : TA) : TE := fun σ H Q => t σ H fun vs H1 => sp (vs ++ dvs) H1 Q E
def yO (C : Addr) (m : Str) (sp : Sp) (dvs : List V) (E : XK) (ta : TE) (t : TA) : TE := fun σ H Q => ta σ H fun x H1 => ∃ a dx fs, x = .ref a /\ H1 a = some (.ins C dx fs) /\ fs.lookup m = none /\
 t σ H1 fun vs H2 => sp (x :: (vs ++ dvs)) H2 Q E
def yQ (C : Addr) (sp : Sp) (dvs : List V) (E : XK) (t : TA) : TE := fun σ H Q => t σ H fun vs H1 => ∀ x dx, H1 x = none -> H1 dx = none -> dx ≠ x ->
 sp (.ref x :: (vs ++ dvs)) (upd (upd H1 dx (.own x)) x (.ins C dx [])) (fun v H2 => v = .non /\ Q (.ref x) H2) E
def Binds (K : PySem.W.Frag) (fd : FuncData) (ps : List Str) (ds : List Value) : Prop :=
 ∀ (s : Shared) (us : List Value), K.In s.heap -> (us ++ ds).length = ps.length -> BindsTo s fd ⟨us, []⟩ (ps.zip (us ++ ds))
theorem Binds.all {K : PySem.W.Frag} {fd : FuncData} {ps : List Str} (h : ∀ us : List Value, us.length = ps.length -> bindArgs fd ⟨us, []⟩ = pure (ps.zip us)) : Binds K fd ps [] := fun s us _ hl => by
 rw [List.append_nil] at hl ⊢
 exact .of_eq (h us hl)
def cz (CX : CXT) (X : Cx) (E : XK) : Prop := ∀ (pins : List (Addr × Obj)) (σ : St) (H : Hp) (s : Shared) (e : Value) (s' : Shared), Inv X pins σ H s -> CX X.stack H s E e s' -> X.xe e s'
section
variable {X : Cx} {CX : CXT} {k : Nat} {f C : Addr} {fd : FuncData} {ps : List Str} {sp : Sp} {dvs : List V} {ds : List Value} {E : XK} {x m : Str} {p pos apos : Pos} {e o : Expr} {es : List Expr} {ta : TE} {t : TA}
theorem rz {pins : List (Addr × Obj)} {σ : St} {H : Hp} {s : Shared} {Q : VK} {us : List Value} {vs : List V} (F : FnOk X.prog X.w X.K X.mg X.base CX k f fd ps sp) (hr : Room k X.A) (hb : Binds X.K fd ps ds) (hd : Vals dvs ds) (hx : cz CX X E)
  (I : Inv X pins σ H s) (r : Vals vs us) (h : sp (vs ++ dvs) H Q E) : wpAny (model X.prog X.w) X.A (call (.ref f) us) (EP X pins σ Q) X.xe s := by
 have r2 : Vals (vs ++ dvs) (us ++ ds) := r.append hd
 have hl : (us ++ ds).length = ps.length := by rw [<- r2.length]; exact F.len _ _ _ _ h
 refine wpAny_call (codeAny_mono (F.run X.A X.stack s H ⟨us, []⟩ (us ++ ds) (vs ++ dvs) Q E hr I.env0 (hb s us I.kIn hl) r2 h) fun r s' hq => ?_)
 cases r with
 | error e => exact hx pins σ H s e s' I hq
 | ok fl =>
  cases fl with
  | ret u => exact I.after hq
  | next => exact False.elim hq
  | brk => exact False.elim hq
  | cont => exact False.elim hq
theorem qb (F : FnOk X.prog X.w X.K X.mg X.base CX k f fd ps sp) (hr : Room k X.A) (hg : Gl X x) (hm : X.mg x = some (.ref f)) (hk : PySem.W.keepIn X.K (.ref f) = true) (hb : Binds X.K fd ps ds) (hd : Vals dvs ds) (hx : cz CX X E)
  (ha : PA X (e :: es) t) (hdb : (x == ("__debug__" : Str)) = false := by decide) (he : starEach (e :: es) X.env = (false, eval e X.env) :: starEach es X.env := by rfl) (hpl : (backTo pos (starEach es X.env)).any (·.1) = false := by rfl) :
  PE X (.Call (.Name x p) (e :: es) [] pos) (jH sp dvs E t) := by
 intro pins s σ H Q I h
 refine wpAny_Call_Name_kw (gD I hg hm ?_ hdb)
 refine PySem.W.callWith_K (h₀ := X.base) I.ok.mod.kin hk (thn (ha pos pins s σ H _ I h) fun us s1 ⟨vs, H1, I1, r, q⟩ => ⟨I1.kIn, ?_⟩) he hpl
 exact rz F hr hb hd hx I1 r q
theorem tQ (F : FnOk X.prog X.w X.K X.mg X.base CX k f fd ps sp) (hr : Room k X.A) (hg : Gl X x) (hm : X.mg x = some (.ref f)) (hk : PySem.W.keepIn X.K (.ref f) = true) (hb : Binds X.K fd ps ds) (hd : Vals dvs ds) (hx : cz CX X E)
  (hdb : (x == ("__debug__" : Str)) = false := by decide) : PE X (.Call (.Name x p) [] [] pos) (jH sp dvs E tH) := by
 intro pins s σ H Q I h
 refine wpAny_Call_Name_kw (gD I hg hm ?_ hdb)
 exact PySem.W.callWith_K0 I.kIn hk (rz (us := []) F hr hb hd hx I .nil h)
structure Mk (K : PySem.W.Frag) (C f : Addr) : Prop where
 makes : PySem.W.makesIn K C = true
 init : PySem.W.findIn K (.ref C) "__init__" = some (some (.ref f))
 fn : PySem.W.isFn K (.ref f) = true
 kp : PySem.W.keepIn K (.ref C) = true
end
def PK (X : Cx) (kws : List Keyword) (t : TA) : Prop :=
 ∀ (pos : Pos) (pins : List (Addr × Obj)) (s : Shared) (σ : St) (H : Hp) (Q : List V -> Hp -> Prop), Inv X pins σ H s -> t σ H Q -> wpAny (model X.prog X.w) X.A (evalAll ((backToKw pos (keywordEach kws X.env)).map (·.2))) (AP X pins σ Q) X.xe s
section
variable {X : Cx} {CX : CXT} {k : Nat} {f C : Addr} {fd : FuncData} {ps ks : List Str} {sp : Sp} {E : XK} {x m : Str} {p pos apos kpos : Pos} {e o : Expr} {es : List Expr} {kws : List Keyword} {te ta : TE} {t tk : TA} {nm : Option Str}
structure KBinds (K : PySem.W.Frag) (fd : FuncData) (ps ks : List Str) (g : List Value -> List Value -> List Value) (gV : List V -> List V -> List V) : Prop where
 to : ∀ (s : Shared) (us ws : List Value), K.In s.heap -> (g us ws).length = ps.length -> BindsTo s fd ⟨us, ks.zip ws⟩ (ps.zip (g us ws))
 rel : ∀ {vs : List V} {us : List Value} {zs : List V} {ws : List Value}, Vals vs us -> Vals zs ws -> Vals (gV vs zs) (g us ws)
def yD (sp : Sp) (gV : List V -> List V -> List V) (E : XK) (t tk : TA) : TE := fun σ H Q => t σ H fun vs H1 => tk σ H1 fun zs H2 => sp (gV vs zs) H2 Q E
variable {g : List Value -> List Value -> List Value} {gV : List V -> List V -> List V}
end
structure FnScope (N P : List Str) (sc : Scope) : Prop where
 kind : sc.kind = .function
 co : sc.isCoroutine = false
 gen : sc.isGenerator = false
 nd : N.Nodup
 pre : N.take P.length = P
 par : ∀ x ∈ P, sc.names.lookup x = some .local \/ sc.names.lookup x = some .cell
 nofree : ∀ y ∈ sc.names, y.2 ≠ .free
theorem lE {kindOf : Str -> Option NameKind} {x : Str} : ∀ {binds : List (Str × Value)} {m : Str -> Option Value}, (∀ v, (x, v) ∉ binds) -> bindL kindOf binds m x = m x
 | [], _, _ => rfl
 | (n, v) :: r, m, h => by
  unfold bindL
  rw [lE fun w hw => h w (List.mem_cons_of_mem _ hw)]
  split
  ·have : x ≠ n := by rintro rfl; exact h v List.mem_cons_self
   simp [this]
  ·rfl
theorem lU {kindOf : Str -> Option NameKind} {x : Str} : ∀ {binds : List (Str × Value)} {m : Str -> Option Value}, (∀ v, (x, v) ∉ binds) -> bindC kindOf binds m x = m x
 | [], _, _ => rfl
 | (n, v) :: r, m, h => by
  unfold bindC
  rw [lU fun w hw => h w (List.mem_cons_of_mem _ hw)]
  split
  ·rfl
  ·have : x ≠ n := by rintro rfl; exact h v List.mem_cons_self
   simp [this]
theorem lF {kindOf : Str -> Option NameKind} {x : Str} {v : Value} : ∀ {P : List Str} {vs : List Value} {i : Nat} {m : Str -> Option Value}, P.Nodup -> P[i]? = some x -> vs[i]? = some v -> kindOf x = some .local ->
  bindL kindOf (P.zip vs) m x = some v
 | [], _, _, _, _, h, _, _ => by simp at h
 | _ :: _, [], _, _, _, _, h, _ => by simp at h
 | p :: P, w :: vs, 0, m, nd, h1, h2, hk => by
  simp at h1 h2; subst h1; subst h2
  show bindL kindOf ((p, w) :: P.zip vs) m p = _
  unfold bindL
  rw [lE fun v hv => (List.nodup_cons.mp nd).1 (List.of_mem_zip hv).1, if_pos hk]
  simp
 | p :: P, w :: vs, i + 1, m, nd, h1, h2, hk => by
  show bindL kindOf ((p, w) :: P.zip vs) m x = _
  unfold bindL
  exact lF (i := i) (List.nodup_cons.mp nd).2 (by simpa using h1) (by simpa using h2) hk
theorem lJ {kindOf : Str -> Option NameKind} {x : Str} {v : Value} : ∀ {P : List Str} {vs : List Value} {i : Nat} {m : Str -> Option Value}, P.Nodup -> P[i]? = some x -> vs[i]? = some v -> kindOf x ≠ some .local ->
  bindC kindOf (P.zip vs) m x = some v
 | [], _, _, _, _, h, _, _ => by simp at h
 | _ :: _, [], _, _, _, _, h, _ => by simp at h
 | p :: P, w :: vs, 0, m, nd, h1, h2, hk => by
  simp at h1 h2; subst h1; subst h2
  show bindC kindOf ((p, w) :: P.zip vs) m p = _
  unfold bindC
  rw [lU fun v hv => (List.nodup_cons.mp nd).1 (List.of_mem_zip hv).1, if_neg hk]
  simp
 | p :: P, w :: vs, i + 1, m, nd, h1, h2, hk => by
  show bindC kindOf ((p, w) :: P.zip vs) m x = _
  unfold bindC
  exact lJ (i := i) (List.nodup_cons.mp nd).2 (by simpa using h1) (by simpa using h2) hk
def start (N : List Str) (vs : List V) : St := vs.map some ++ List.replicate (N.length - vs.length) none
def bD (CX : CXT) (P : Program) (w : World) (K : PySem.W.Frag) (mg : Str -> Option Value) (base : Heap) (N : List Str) (qual : Str) (scope : Scope) (f : Addr) (cd : Value) (A : Around) (outer : List Env) (s : Shared) (H : Hp) (E : XK) : Cx where
 prog := P
 w := w
 K := K
 mg := mg
 base := base
 A := A.deeper (envOfC qual scope s.heap.objs.size f cd)
 N := N
 s₀ := s
 H₀ := H
 env := envOfC qual scope s.heap.objs.size f cd
 outer := outer
 stack := envOfC qual scope s.heap.objs.size f cd :: outer
 ex := []
 calm := true
 fn := fun _ => true
 pn := []
 xe := fun e s' => wpAny (model P w) (A.deeper (envOfC qual scope s.heap.objs.size f cd)) (leaving (envOfC qual scope s.heap.objs.size f cd) e) (fun _ s'' => CX outer H s E e s'') (fun e' s'' => CX outer H s E e' s'') s'
theorem ou {sc : Scope} {n : Nat} {x : Str} (h : sc.names.lookup x = some .cell) : ∃ c, (cellsFrom n sc.names []).lookup x = some c := by
 have q := PySem.W.cellsFrom_some sc.names n [] (.inl h)
 exact Option.isSome_iff_exists.mp q
theorem rF {CX : CXT} {P : Program} {w : World} {K : PySem.W.Frag} {mg : Str -> Option Value} {base : Heap} {N ps : List Str} {qual : Str} {scope : Scope} {f : Addr} {cd : Value} {A : Around} {outer : List Env} {s s1 : Shared} {H : Hp} {E : XK} {us : List Value} {vs : List V}
  (S : FnScope N ps scope) (hd : A.handled = none) (e0 : Env0 P w K mg base A outer s H) (hl : vs.length = ps.length) (r : Vals vs us)
  (x : InCallC s s.heap.objs.size (bindL (envOfC qual scope s.heap.objs.size f cd).kindOf (ps.zip us) fun _ => none) (cellsFrom (s.heap.objs.size + 1) scope.names []) (bindC (envOfC qual scope s.heap.objs.size f cd).kindOf (ps.zip us) fun _ => none) s1) :
  Inv (bD CX P w K mg base N qual scope f cd A outer s H E) [] (start N vs) H s1 := by
 have hpl : ps.length <= N.length := by have := congrArg List.length S.pre; rw [List.length_take] at this; omega
 obtain ⟨h1, tk, rfl, hk⟩ := x.done
 have noA : ∀ b : Addr, b ∉ (bD CX P w K mg base N qual scope f cd A outer s H E).ex := fun b z => absurd (show b ∈ ([] : List Addr) from z) (by simp)
 refine ⟨⟨e0.mod, S.kind, rfl, rfl, Nat.le_refl _, fun y z c h1 h2 => ?_, fun y hy => ?_, fun y c _ h => ?_, fun _ => hd, Around.frames_deeper e0.frames, .inr ⟨rfl, rfl⟩, fun b z => absurd z (noA b), e0.bs, e0.bsz, fun b _ _ => noA b, fun b z => absurd z (noA b), e0.funs, e0.frf⟩,
  rfl, e0.bare, Un.kept hk, ⟨_, x.toInCall.ns, fun i y v h1 h2 h3 => ?_⟩, fun y c h => ⟨_, x.cell y c h⟩, e0.hok.fresh (Nat.le_refl _), fun y c h => ?_, fun p hp => absurd (show p ∈ ([] : List (Addr × Obj)) from hp) (by simp), e0.hok.kept hk, ?_⟩
 ·exact name_of_addr x.apart (PySem.mem_of_lookup h1) (PySem.mem_of_lookup h2)
 ·have hy : scope.names.lookup y = some .cell \/ scope.names.lookup y = some .free := hy
  rcases hy with hy | hy
  ·exact ou hy
  ·exact absurd rfl (S.nofree _ (PySem.mem_of_lookup hy))
 ·exact Nat.le_of_lt (x.above y c (PySem.mem_of_lookup h))
 ·have hi : i < vs.length := by
   unfold start at h2
   by_cases hi : i < vs.length
   ·exact hi
   ·rw [List.getElem?_append_right (by simpa using hi)] at h2
    rw [List.getElem?_replicate] at h2
    split at h2 <;> cases h2
  have ha : vs[i]? = some v := by
   unfold start at h2
   rw [List.getElem?_append_left (by simpa using hi), List.getElem?_map] at h2
   cases e : vs[i]? with
   | none => rw [e] at h2; cases h2
   | some a => rw [e] at h2; cases h2; rfl
  obtain ⟨u, hu, rv⟩ := r.get ha
  have hp : ps[i]? = some y := by
   rw [<- S.pre, List.getElem?_take_of_lt (by omega)]; exact h1
  have ndP : ps.Nodup := by rw [<- S.pre]; exact S.nd.sublist (List.take_sublist _ _)
  refine ⟨u, rv, ?_⟩
  rcases S.par y (List.mem_of_getElem? hp) with k | k
  ·exact .inl ⟨k, lF ndP hp hu k⟩
  ·obtain ⟨c, e⟩ := ou (n := s.heap.objs.size + 1) k
   refine .inr ⟨.inl k, c, e, ?_⟩
   have q := x.cell y c e
   rw [lJ ndP hp hu (by show scope.names.lookup y ≠ _; rw [k]; decide)] at q
   exact q
 ·exact e0.hok.fresh (Nat.le_of_lt (x.above y c (PySem.mem_of_lookup h)))
 ·unfold start
  show _ = N.length
  rw [List.length_append, List.length_map, List.length_replicate]
  omega
theorem ul {CX : CXT} {P : Program} {w : World} {K : PySem.W.Frag} {mg : Str -> Option Value} {base : Heap} {k : Nat} {f : Addr} {name qual : Str} {params : Arguments} {body : List Stmt} {scope : Scope} {dV kV doc pm cdv ct oc : Value} {an od : Option Addr}
  {osl : Array (Option Value)} {N ps : List Str} {sp : Sp} (lk : K.lookup f = some ⟨oc, od, .func (PySem.W.fnOf name qual params body scope dV kV doc pm an cdv ct), osl⟩) (hcd : PySem.W.codeIn K cdv qual = true) (S : FnScope N ps scope)
  (len : ∀ vs H Q E, sp vs H Q E -> vs.length = ps.length)
  (hbody : ∀ (A : Around) (outer : List Env) (s : Shared) (H : Hp) (vs : List V) (Q : VK) (E : XK), Room k (A.deeper (envOfC qual scope s.heap.objs.size f cdv)) -> sp vs H Q E ->
   ∃ t, PSs (bD CX P w K mg base N qual scope f cdv A outer s H E) body t /\ t { nx := fun _ H' => Q .non H', rt := Q } (start N vs) H) :
  FnOk P w K mg base CX (k + 1) f (PySem.W.fnOf name qual params body scope dV kV doc pm an cdv ct) ps sp := by
 refine ⟨len, fun A outer s H args us vs Q E hr e0 hb r hsp => ?_⟩
 have hl := len _ _ _ _ hsp
 have KX : K.In s.heap := e0.mod.kin.keeps fun b o e => (e0.bs b o e).1
 have lim : s.heap.NoLimit := e0.mod.nolimit.keeps fun b o e => (e0.bs b o e).1
 have hkind : ∀ y ∈ ps.zip us, scope.names.lookup y.1 = some .local \/ (scope.names.lookup y.1 = some .cell /\ ((cellsFrom (s.heap.objs.size + 1) scope.names []).lookup y.1).isSome = true) := fun ⟨n, v⟩ hy => by
  rcases S.par n (List.of_mem_zip hy).1 with q | q
  ·exact .inl q
  ·exact .inr ⟨q, PySem.W.cellsFrom_some _ _ _ (.inl q)⟩
 refine codeAny_call_function hr.depth (KX _ _ lk) rfl S.co S.gen rfl (PySem.W.codeRec_of KX hcd) (hb _ _ _ _ ?_)
 refine wpAny_newFunctionEnv_cells S.kind hkind fun env he s1 x => ?_
 subst he
 refine ⟨lim.keeps x.toInCall.keep, codeAny_func ?_⟩
 obtain ⟨t, ht, hq⟩ := hbody A outer s H vs Q E (hr.deeper _) hsp
 have I : Inv (bD CX P w K mg base N qual scope f cdv A outer s H E) [] (start N vs) H s1 := rF S hr.hd e0 hl r x
 refine wpAny_mono (ht [] s1 (start N vs) H _ I hq) (fun fl s' hs => ?_) fun e s' hs => hs
 have fin : ∀ {σ' : St} {H' : Hp} {v : V} {u : Value}, Inv (bD CX P w K mg base N qual scope f cdv A outer s H E) [] σ' H' s' -> RelV v u -> Q v H' -> CE outer P w H s Q u s' :=
  fun {σ' H' v u} J rv q => ⟨v, H', J.os, J.bare, J.base, J.hok, rv, q⟩
 cases fl with
 | ret u =>
  obtain ⟨v, σ', H', J, rv, q⟩ := hs
  exact fin J rv q
 | next =>
  obtain ⟨σ', H', J, q⟩ := hs
  exact fin (v := V.non) (u := Value.none) J rfl q
 | brk =>
  obtain ⟨_, _, _, q⟩ := hs
  exact False.elim q
 | cont =>
  obtain ⟨_, _, _, q⟩ := hs
  exact False.elim q
end L2
namespace L2
open PySem PySem.Spec PyProof.Rows
section
variable {X : Cx} {x : Str} {p pos : Pos} {e : Expr} {es : List Expr} {t : TA} {id T : String} {r : List V -> Hp -> VK -> Prop}
def tCB (r : List V -> Hp -> VK -> Prop) (t : TA) : TE := fun σ H Q => t σ H fun vs H1 => r vs H1 Q
theorem aF (hc : CallR X (.builtin id) r) (hg : Gl X x) (hm : X.mg x = none) (hv : bootBuiltins x = some (.builtin id)) (ha : PA X (e :: es) t) (hn : x ≠ "__name__" := by decide) (hdb : (x == ("__debug__" : Str)) = false := by decide)
  (he : starEach (e :: es) X.env = (false, eval e X.env) :: starEach es X.env := by rfl) (hpl : (backTo pos (starEach es X.env)).any (·.1) = false := by rfl) : PE X (.Call (.Name x p) (e :: es) [] pos) (tCB r t) := by
 intro pins s σ H Q I h
 refine wpAny_Call_Name_kw (gk I hg hm hv ?_ hn hdb)
 exact PyProof.Rows.callWith_builtin1 (thn (ha pos pins s σ H _ I h) fun us s1 ⟨vs, H1, I1, r1, q1⟩ => hc pins s1 σ H1 vs us Q I1 r1 q1) he hpl
theorem cN (hc : CallR X (.type T) r) (hg : Gl X x) (hm : X.mg x = none) (hv : bootBuiltins x = some (.type T)) (ha : PA X (e :: es) t) (hn : x ≠ "__name__" := by decide) (hdb : (x == ("__debug__" : Str)) = false := by decide)
  (he : starEach (e :: es) X.env = (false, eval e X.env) :: starEach es X.env := by rfl) (hpl : (backTo pos (starEach es X.env)).any (·.1) = false := by rfl) : PE X (.Call (.Name x p) (e :: es) [] pos) (tCB r t) := by
 intro pins s σ H Q I h
 refine wpAny_Call_Name_kw (gk I hg hm hv ?_ hn hdb)
 exact PyProof.Rows.callWith_type1 (thn (ha pos pins s σ H _ I h) fun us s1 ⟨vs, H1, I1, r1, q1⟩ => hc pins s1 σ H1 vs us Q I1 r1 q1) he hpl
end
end L2
namespace HT
open PySem PyProof.Rows
def lexLt : List Int -> List Int -> Bool
 | [], [] => false
 | [], _ :: _ => true
 | _ :: _, [] => false
 | x :: xs, y :: ys => if x = y then lexLt xs ys else decide (x < y)
section
open PySem.SeqAt
open PySem.AutoSeq1 (wpAny_loadPart')
open PySem.MeetsSeq PySem.MeetsSeq2 PySem.MeetsSeq3
end
section
variable {prog : Program} {w : World} {A : Around} {E : Value -> Shared -> Prop} {s : Shared}
def sIx (n d : Nat) : Option Int -> Nat
 | none => d
 | some v => if v < 0 then (v + (n : Int)).toNat else min v.toNat n
end
end HT
namespace L2
open PySem PySem.Spec PyProof.Rows
abbrev TO := St -> Hp -> (Option Int -> Hp -> Prop) -> Prop
def PO (X : Cx) (e : Option Expr) (t : TO) : Prop :=
 ∀ (pins : List (Addr × Obj)) (s : Shared) (σ : St) (H : Hp) (Q : Option Int -> Hp -> Prop), Inv X pins σ H s -> t σ H Q ->
  wpAny (model X.prog X.w) X.A (evalPart e X.env) (fun u s' => ∃ o H', Inv X pins σ H' s' /\ IsPart u o /\ Q o H') X.xe s
def uz : TO := fun _ H Q => Q none H
def wD (t : TE) : TO := fun σ H Q => t σ H fun x H1 => ∃ i, x = .int i /\ Q (some i) H1
section
variable {X : Cx} {e : Expr} {te : TE} {lo hi : Option Expr} {tl th : TO} {pos p2 : Pos}
theorem dm : PO X none uz := by
 intro pins s σ H Q I h
 rw [evalPart_none]
 exact wpAny_pure ⟨none, H, I, .none, h⟩
theorem di (h : PE X e te) : PO X (some e) (wD te) := by
 intro pins s σ H Q I hw
 rw [evalPart_some]
 refine thn (h pins s σ H _ I hw) fun u s1 ⟨x, H1, I1, r1, q1⟩ => ?_
 obtain ⟨i, rfl, q⟩ := q1
 obtain ⟨t, rfl⟩ := r1
 exact ⟨some i, H1, I1, .int i t, q⟩
def SlR (X : Cx) (r : V -> Option Int -> Option Int -> Hp -> VK -> Prop) : Prop :=
 ∀ (pins : List (Addr × Obj)) (s : Shared) (σ : St) (H : Hp) (x : V) (v vl vu : Value) (lo hi : Option Int) (sl : Addr) (Q : VK), Inv X pins σ H s -> RelV x v -> s.heap.IsSliceOf sl vl vu .none -> IsPart vl lo -> IsPart vu hi -> r x lo hi H Q ->
  ∃ T id, typeLookup (.type T) "__getitem__" = pure (some (.builtin id)) /\ s.TypeIs v T /\ wpAny (model X.prog X.w) X.A (getItem v (.ref sl)) (EP X pins σ Q) X.xe s
theorem SlR.or {r r' : V -> Option Int -> Option Int -> Hp -> VK -> Prop} (h : SlR X r) (h' : SlR X r') : SlR X (fun x lo hi H Q => r x lo hi H Q \/ r' x lo hi H Q) := by
 intro pins s σ H x v vl vu lo hi sl Q I rx hs pl pu q
 rcases q with q | q
 ·exact h pins s σ H x v vl vu lo hi sl Q I rx hs pl pu q
 ·exact h' pins s σ H x v vl vu lo hi sl Q I rx hs pl pu q
def tSl (r : V -> Option Int -> Option Int -> Hp -> VK -> Prop) (te : TE) (tl th : TO) : TE := fun σ H Q => te σ H fun x H1 => tl σ H1 fun l H2 => th σ H2 fun u H3 => r x l u H3 Q
theorem cF {r : V -> Option Int -> Option Int -> Hp -> VK -> Prop} (hr : SlR X r) (he : PE X e te) (hl : PO X lo tl) (hu : PO X hi th) : PE X (.Subscript e (.Slice lo hi none p2) pos) (tSl r te tl th) := by
 intro pins s σ H Q I h
 refine Subscript_ (thn (he pins s σ H _ I h) fun v s1 ⟨x, H1, I1, r1, q1⟩ => ?_)
 refine wpAny_Slice (thn (hl pins s1 σ H1 _ I1 q1) fun vl s2 ⟨l, H2, I2, pl, q2⟩ => thn (hu pins s2 σ H2 _ I2 q2) fun vu s3 ⟨u, H3, I3, pu, q3⟩ => ?_)
 rw [evalPart_none]
 refine wpAny_pure ?_
 have I4 : Inv X pins σ H3 { s3 with heap := s3.heap.push { cls := .type "slice", data := .fields #[vl, vu, .none] } } := I3.kept (t' := s3.toks) fun b ob q => Heap.get?_push_of_some _ q
 obtain ⟨T, id, hT, ht, hg⟩ := hr pins { s3 with heap := s3.heap.push { cls := .type "slice", data := .fields #[vl, vu, .none] } } σ H3 x v vl vu l u s3.heap.objs.size Q I4 r1 (Heap.IsSliceOf.new ..) pl pu q3
 show wpAny (model X.prog X.w) X.A (subscriptTail e (.Slice lo hi none p2) v (.ref s3.heap.objs.size)) (EP X pins σ Q) X.xe { s3 with heap := s3.heap.push { cls := .type "slice", data := .fields #[vl, vu, .none] } }
 exact tail_any (ops := [.ref s3.heap.objs.size, v]) ht hT hg (by with_unfolding_all rfl)
def cJ (xs : List V) (lo hi : Option Int) : List V := (xs.drop (HT.sIx xs.length 0 lo)).take (HT.sIx xs.length xs.length hi - HT.sIx xs.length 0 lo)
theorem pC (xs : List V) (lo hi : Option Int) : (cJ xs lo hi).length <= xs.length := by
 unfold cJ
 rw [List.length_take, List.length_drop]
 omega
def zm (K : PySem.W.Frag) : V -> Option Int -> Option Int -> Hp -> VK -> Prop := fun x lo hi H Q => ∃ a xs, x = .ref a /\ SqT K H a xs /\
 ¬ (HT.sIx xs.length 0 lo = 0 /\ HT.sIx xs.length xs.length hi = xs.length) /\ ∀ p, H p = none -> Q (.ref p) (upd H p (.tup (cJ xs lo hi)))
def zH (K : PySem.W.Frag) : R2 := fun x y H Q => ∃ a b ns ms, x = .ref a /\ y = .ref b /\ SqT K H a (ns.map V.int) /\ SqT K H b (ms.map V.int) /\ Q (.bl (HT.lexLt ns ms)) H
def yP (K : PySem.W.Frag) : R2 := fun x y H Q => ∃ a b xs ys, x = .ref a /\ y = .ref b /\ SqT K H a xs /\ SqT K H b ys /\ xs ≠ [] /\ xs.length + ys.length <= sizeLine /\
 (ys = [] -> Q (.ref a) H) /\ (ys ≠ [] -> ∀ p, H p = none -> Q (.ref p) (upd H p (.tup (xs ++ ys))))
end
end L2
namespace L2
open PySem PySem.Spec PyProof.Rows
def ixN (n : Nat) (i : Int) : Option Nat := if 0 <= i then (if i < n then some i.toNat else none) else if -(n : Int) <= i then some (i + n).toNat else none
def atI {α : Type} (xs : List α) (i : Int) : Option α := (ixN xs.length i).bind fun j => xs[j]?
theorem pX {n : Nat} {i : Int} {j : Nat} (h : ixN n i = some j) : seqIndex? i n = some j /\ j < n /\ -(n : Int) <= i /\ i < n := by
 unfold ixN at h
 by_cases h0 : 0 <= i
 ·rw [if_pos h0] at h
  by_cases h1 : i < n
  ·rw [if_pos h1] at h
   have e : i.toNat = j := Option.some.inj h
   exact ⟨by rw [seqIndex_of h0 h1, e], by omega, by omega, h1⟩
  ·rw [if_neg h1] at h; cases h
 ·rw [if_neg h0] at h
  by_cases h1 : -(n : Int) <= i
  ·rw [if_pos h1] at h
   have e : (i + n).toNat = j := Option.some.inj h
   exact ⟨by rw [seqIndex_neg (by omega) h1, e], by omega, h1, by omega⟩
  ·rw [if_neg h1] at h; cases h
theorem pZ {α : Type} {xs : List α} {i : Int} {v : α} (h : atI xs i = some v) : ∃ j, seqIndex? i xs.length = some j /\ xs[j]? = some v /\ j < xs.length /\ -(xs.length : Int) <= i /\ i < xs.length := by
 unfold atI at h
 cases e : ixN xs.length i with
 | none => rw [e] at h; cases h
 | some j =>
  rw [e] at h
  obtain ⟨h1, h2, h3, h4⟩ := pX e
  exact ⟨j, h1, h, h2, h3, h4⟩
theorem kJ {α : Type} {xs : List α} {j : Nat} {v : α} (h : xs[j]? = some v) : atI xs (j : Int) = some v := by
 have hj : j < xs.length := (List.getElem?_eq_some_iff.mp h).1
 have e : ixN xs.length (j : Int) = some j := by
  unfold ixN
  rw [if_pos (by omega), if_pos (by omega)]; simp
 unfold atI; rw [e]; exact h
def uI (b : Expr) : Prop := ∀ o i, subscripted b false o i = operate [o, i] (getItem o i)
def IxR (X : Cx) (r : R2) : Prop :=
 ∀ (value slice : Expr) (pins : List (Addr × Obj)) (s : Shared) (σ : St) (H : Hp) (x y : V) (v u : Value) (Q : VK), Inv X pins σ H s -> RelV x v -> RelV y u -> r x y H Q ->
  subscripted slice false v u = operate [v, u] (getItem v u) -> wpAny (model X.prog X.w) X.A (subscriptTail value slice v u) (EP X pins σ Q) X.xe s
def MtR (X : Cx) (id : String) (r : V -> List V -> Hp -> VK -> Prop) : Prop :=
 ∀ (pins : List (Addr × Obj)) (s : Shared) (σ : St) (H : Hp) (x : V) (xs : List V) (v : Value) (us : List Value) (Q : VK), Inv X pins σ H s -> RelV x v -> Vals xs us -> r x xs H Q ->
  wpAny (model X.prog X.w) X.A (call (.builtin id) (v :: us)) (EP X pins σ Q) X.xe s
section
variable {X : Cx} {a b : Expr} {ta tb : TE} {pos : Pos}
theorem IxR.or {r r' : R2} (h : IxR X r) (h' : IxR X r') : IxR X (fun x y H Q => r x y H Q \/ r' x y H Q) := by
 intro value slice pins s σ H x y v u Q I rx ry q hs
 rcases q with q | q
 ·exact h value slice pins s σ H x y v u Q I rx ry q hs
 ·exact h' value slice pins s σ H x y v u Q I rx ry q hs
theorem MtR.or {id : String} {r r' : V -> List V -> Hp -> VK -> Prop} (h : MtR X id r) (h' : MtR X id r') : MtR X id (fun x xs H Q => r x xs H Q \/ r' x xs H Q) := by
 intro pins s σ H x xs v us Q I rx rs q
 rcases q with q | q
 ·exact h pins s σ H x xs v us Q I rx rs q
 ·exact h' pins s σ H x xs v us Q I rx rs q
theorem bR {r : R2} (hr : IxR X r) (ha : PE X a ta) (hb : PE X b tb) (hs : uI b) : PE X (.Subscript a b pos) (tOp r ta tb) := by
 intro pins s σ H Q I h
 exact Subscript_ (qQ ha hb I h fun v u s2 x y H2 I2 rx ry q => hr a b pins s2 σ H2 x y v u Q I2 rx ry q (hs _ _))
def sU (K : PySem.W.Frag) : R2 := fun x y H Q => ∃ p xs i v, x = .ref p /\ y = .int i /\ SqL K H p xs /\ atI xs i = some v /\ Q v H
def t6 (K : PySem.W.Frag) : R2 := fun x y H Q => ∃ p xs i v, x = .ref p /\ y = .int i /\ SqT K H p xs /\ atI xs i = some v /\ Q v H
def xV : R2 := fun x y H Q => ∃ z i c, x = .str z /\ y = .int i /\ z.length <= sizeLine /\ atI z.cps.toList i = some c /\ Q (.str ⟨#[c]⟩) H
theorem uB : IxR X (sU X.K) := by
 intro value slice pins s σ H x y v u Q I rx ry h hs
 obtain ⟨p, xs, i, z, rfl, rfl, hq, he, q⟩ := h
 cases rx
 obtain ⟨t, rfl⟩ := ry
 obtain ⟨its, r, pl, hz⟩ := I.list hq
 obtain ⟨j, h1, h2, h3, h4, h5⟩ := pZ he
 obtain ⟨w, ew, rw'⟩ := r.get h2
 have hl := r.length
 have hn := iR
 have fin : EP X pins σ Q w s := ⟨z, H, I, rw', q⟩
 by_cases h0 : 0 <= i
 ·have hj : i.toNat = j := by
   rw [seqIndex_of h0 h5] at h1
   exact Option.some.inj h1
  exact item_listR pl.isList h0 (by omega) (by rw [hj]; simpa using ew) fin hs
 ·have hj : (i + (its.toArray.size : Int)).toNat = j := by
   rw [seqIndex_neg (by omega) h4] at h1
   rw [List.size_toArray, <- hl]
   exact Option.some.inj h1
  exact subscriptTail_builtinR (x := w) pl.isList.typeIs slot_list_getitem.lookup
   (wpAny_getItem_list_neg (Q := fun r s' => r = w /\ EP X pins σ Q r s') pl.isList (by omega) (by rw [List.size_toArray] <;> omega) (by omega) (by rw [hj]; simpa using ew) ⟨rfl, fin⟩) hs
theorem vM : IxR X (t6 X.K) := by
 intro value slice pins s σ H x y v u Q I rx ry h hs
 obtain ⟨p, xs, i, z, rfl, rfl, hq, he, q⟩ := h
 cases rx
 obtain ⟨t, rfl⟩ := ry
 obtain ⟨its, r, pl, hz⟩ := I.tuple hq
 obtain ⟨j, h1, h2, h3, h4, h5⟩ := pZ he
 obtain ⟨w, ew, rw'⟩ := r.get h2
 have hl := r.length
 have hn := iR
 have fin : EP X pins σ Q w s := ⟨z, H, I, rw', q⟩
 exact subscriptTail_builtinR (x := w) pl.typeIs slot_tuple_getitem.lookup
  (getItem_tuple (j := j) (Q := fun r s' => r = w /\ EP X pins σ Q r s') pl (by omega) (by omega) (by rw [List.size_toArray, <- hl]; exact h1) (by simpa using ew) ⟨rfl, fin⟩) hs
def rIx (K : PySem.W.Frag) : R2 := fun x y H Q => sU K x y H Q \/ t6 K x y H Q \/ xV x y H Q
theorem qN (its : List Value) (n j : Nat) (u : Value) : Obj.mapSeq (·.setIfInBounds j u) { cls := .type "list", data := .seq its.toArray n } = { cls := .type "list", data := .seq (its.set j u).toArray n } := by
 simp [Obj.mapSeq]
theorem Inv.lst {pins : List (Addr × Obj)} {σ : St} {H : Hp} {s : Shared} {p : Addr} {xs : List V} (I : Inv X pins σ H s) (h : H p = some (.lst xs)) :
  ∃ (its : List Value) (n : Nat), Vals xs its /\ s.heap.get? p = some { cls := .type "list", data := .seq its.toArray n } /\ xs.length <= sizeLine := by
 obtain ⟨z, its, n, r, e⟩ := I.hok p _ h
 exact ⟨its, n, r, e, z⟩
theorem Inv.lstUpd {pins : List (Addr × Obj)} {σ : St} {H : Hp} {s : Shared} {p : Addr} {xs ys : List V} {its its' : List Value} {n n' : Nat} {f : Obj -> Obj} (I : Inv X pins σ H s) (h : H p = some (.lst xs))
  (ho : s.heap.get? p = some { cls := .type "list", data := .seq its.toArray n }) (hf : f { cls := .type "list", data := .seq its.toArray n } = { cls := .type "list", data := .seq its'.toArray n' }) (r : Vals ys its') (hz : ys.length <= sizeLine) (t : Nat) :
  Inv X pins σ (upd H p (.lst ys)) { s with heap := s.heap.update p f, toks := t } := by
 have e : (s.heap.update p f).get? p = some { cls := .type "list", data := .seq its'.toArray n' } := by
  rw [Heap.get?_update_self f ho (by rw [hf] <;> rfl), hf]
 refine I.write (x := p) (e := p) (by rw [h]; trivial) (.inl rfl) (fun b u hb q => (Heap.get?_update_other _ _ (Ne.symm hb)).trans q) ⟨_, e⟩ ?_
 exact ⟨hz, its', n', r, e⟩
def wM : V -> V -> V -> Hp -> (Hp -> Prop) -> Prop := fun o i v H Q => ∃ p xs k j, o = .ref p /\ i = .int k /\ H p = some (.lst xs) /\ ixN xs.length k = some j /\ Q (upd H p (.lst (xs.set j v)))
theorem set_list : vY X wM := by
 intro pins s σ H o i v ov iv u Q I ro ri rv h
 obtain ⟨p, xs, k, j, rfl, rfl, hp, hj, q⟩ := h
 cases ro
 obtain ⟨t, rfl⟩ := ri
 obtain ⟨its, n, r, ho, hz⟩ := I.lst hp
 obtain ⟨h1, h2, h3, h4⟩ := pX hj
 have hl := r.length
 have hn := iR
 have I' : Inv X pins σ (upd H p (.lst (xs.set j v))) { s with heap := s.heap.update p (Obj.mapSeq (·.setIfInBounds j u)) } :=
  I.lstUpd hp ho (qN its n j u) (r.set rv j) (by rw [List.length_set]; exact hz) s.toks
 by_cases h0 : 0 <= k
 ·have hk : k.toNat = j := by
   rw [seqIndex_of h0 h4] at h1
   exact Option.some.inj h1
  exact PySem.W.ki_setAt ho h0 (by omega) (by rw [List.size_toArray, <- hl]; exact h4) (by rw [hk]; exact ⟨_, I', q⟩)
 ·have hk : (k + (its.toArray.size : Int)).toNat = j := by
   rw [seqIndex_neg (by omega) h3] at h1
   rw [List.size_toArray, <- hl]
   exact Option.some.inj h1
  exact PySem.W.ki_setBack ho (by omega) (by rw [List.size_toArray, <- hl]; exact h3) (by omega) (by rw [hk]; exact ⟨_, I', q⟩)
theorem nq (lo hi : Option Int) (n : Nat) : (sliceBounds lo hi none n).1 = ((HT.sIx n 0 lo : Nat) : Int) /\ (sliceBounds lo hi none n).2.1 = ((HT.sIx n n hi : Nat) : Int) /\ (sliceBounds lo hi none n).2.2 = 1 := by
 refine ⟨?_, ?_, rfl⟩
 ·cases lo with
  | none => simp [sliceBounds, HT.sIx]
  | some i =>
   simp only [sliceBounds, HT.sIx, Option.getD_none, show (1 : Int) > 0 by decide, if_true]
   by_cases h : i < 0
   ·simp only [h, if_true] <;> omega
   ·simp only [h, if_false] <;> omega
 ·cases hi with
  | none => simp [sliceBounds, HT.sIx]
  | some i =>
   simp only [sliceBounds, HT.sIx, Option.getD_none, show (1 : Int) > 0 by decide, if_true]
   by_cases h : i < 0
   ·simp only [h, if_true] <;> omega
   ·simp only [h, if_false] <;> omega
theorem my (its : List Value) (lo hi : Option Int) : slicePick its.toArray lo hi none = ((its.drop (HT.sIx its.length 0 lo)).take (HT.sIx its.length its.length hi - HT.sIx its.length 0 lo)).toArray := by
 obtain ⟨h1, h2, h3⟩ := nq lo hi its.toArray.size
 unfold slicePick
 rw [h1, h2, h3]
 simp only [sliceRange_one, pick_run, List.size_toArray] <;> rfl
def vU (K : PySem.W.Frag) : V -> Option Int -> Option Int -> Hp -> VK -> Prop := fun x lo hi H Q => ∃ a xs, x = .ref a /\ SqL K H a xs /\ ∀ p, H p = none -> Q (.ref p) (upd H p (.lst (cJ xs lo hi)))
theorem u5 : SlR X (vU X.K) := by
 intro pins s σ H x v vl vu lo hi sl Q I rx hs pl pu h
 obtain ⟨a, xs, rfl, hx, q⟩ := h
 cases rx
 obtain ⟨its, r, ht, hz⟩ := I.list hx
 have hlen := r.length
 refine ⟨"list", _, slot_list_getitem.lookup, ht.isList.typeIs, ?_⟩
 refine wpAny_getItem_list_slice ht.isList hs pl pu .none (by simp) ?_ (by rw [List.size_toArray] <;> omega)
 rw [my, <- hlen]
 refine ⟨.ref s.heap.objs.size, _, I.laid (t' := s.toks) (o := .lst (cJ xs lo hi)) (fun b ob q => Heap.get?_push_of_some _ q) (Nat.le_refl _) ?_, rfl, q _ (I.hok.fresh (Nat.le_refl _))⟩
 exact ⟨Nat.le_trans (pC xs lo hi) hz, _, 0, (r.drop (HT.sIx xs.length 0 lo)).take (HT.sIx xs.length xs.length hi - HT.sIx xs.length 0 lo), Heap.get?_push_size _ rfl⟩
def uh : V -> Bool
 | .non => true
 | .bl _ => true
 | .int _ => true
 | .str _ => true
 | _ => false
def eqV : V -> V -> Bool
 | .non, .non => true
 | .bl a, .bl b => a == b
 | .bl a, .int b => (if a then 1 else 0) == b
 | .int a, .bl b => a == (if b then 1 else 0)
 | .int a, .int b => a == b
 | .str a, .str b => a == b
 | _, _ => false
def eqU (x : V) (u : Value) : Bool := match u with
 | .none => eqV .non x
 | .bool b => eqV (.bl b) x
 | .int i _ => eqV (.int i) x
 | .str z _ => eqV (.str z) x
 | _ => false
def inV (x : V) (xs : List V) : Bool := xs.any fun y => eqV y x
def rIn (K : PySem.W.Frag) (neg : Bool) : R2 := fun x y H Q => ∃ p xs, y = .ref p /\ (SqL K H p xs \/ SqT K H p xs) /\ uh x = true /\ xs.all uh = true /\ Q (.bl (if neg then !inV x xs else inV x xs)) H
theorem oN : CallR X (.builtin "len") (fun xs H Q => ∃ p ys, xs = [.ref p] /\ (SqL X.K H p ys \/ SqT X.K H p ys) /\ Q (.int ys.length) H) := by
 intro pins s σ H xs us Q I r h
 obtain ⟨p, ys, rfl, hq, q⟩ := h
 obtain ⟨u, rfl, rx⟩ := vals1 r
 cases rx
 have hn := iR
 rcases hq with hq | hq
 ·obtain ⟨its, r', pl, hz⟩ := I.list hq
  have hlen := r'.length
  exact Calls.call_len_list pl.isList (by simp only [List.size_toArray] <;> omega) ⟨.int ys.length, H, I.tok _, ⟨s.toks + 1, by rw [List.size_toArray, hlen]⟩, q⟩
 ·obtain ⟨its, r', pl, hz⟩ := I.tuple hq
  have hlen := r'.length
  exact len_tuple pl (by simp only [List.size_toArray] <;> omega) ⟨.int ys.length, H, I.tok _, ⟨s.toks + 1, by rw [List.size_toArray, hlen]⟩, q⟩
theorem iy : CallR X (.builtin "len") (fun xs H Q => ∃ z, xs = [.str z] /\ z.length <= sizeLine /\ Q (.int z.length) H) := by
 intro pins s σ H xs us Q I r h
 obtain ⟨z, rfl, hz, q⟩ := h
 obtain ⟨u, rfl, t, rfl⟩ := vals1 r
 have hn := iR
 exact len_str (by omega) ⟨.int z.length, H, I.tok _, ⟨_, rfl⟩, q⟩
theorem CallR.or {f : Value} {r r' : List V -> Hp -> VK -> Prop} (h : CallR X f r) (h' : CallR X f r') : CallR X f (fun xs H Q => r xs H Q \/ r' xs H Q) := by
 intro pins s σ H xs us Q I rs q
 rcases q with q | q
 ·exact h pins s σ H xs us Q I rs q
 ·exact h' pins s σ H xs us Q I rs q
theorem mX : CallR X (.type "list") (fun xs H Q => ∃ p ys, xs = [.ref p] /\ (SqL X.K H p ys \/ SqT X.K H p ys) /\ ∀ l, H l = none -> Q (.ref l) (upd H l (.lst ys))) := by
 intro pins s σ H xs us Q I r h
 obtain ⟨p, ys, rfl, hq, q⟩ := h
 obtain ⟨u, rfl, rx⟩ := vals1 r
 cases rx
 have fin : ∀ (its : List Value), Vals ys its -> ys.length <= sizeLine -> ∀ (h' : Heap) (c' : Nat), (∀ b o', s.heap.get? b = some o' -> h'.get? b = some o') ->
   h'.get? s.heap.objs.size = some { cls := .type "list", dict := none, data := .seq its.toArray c', slots := #[] } -> EP X pins σ Q (.ref s.heap.objs.size) { s with heap := h' } := fun its r' hz h' c' kp e =>
  ⟨.ref s.heap.objs.size, _, I.laid (t' := s.toks) kp (Nat.le_refl _) (show ObjOk X.prog X.w _ h' _ (.lst ys) from ⟨hz, its, c', r', e⟩), rfl, q _ (I.hok.fresh (Nat.le_refl _))⟩
 rcases hq with hq | hq
 ·obtain ⟨its, r', pl, hz⟩ := I.list hq
  have hlen := r'.length
  obtain ⟨o, ho, hc, n, hd⟩ := pl.isList
  exact call_list_seq p (.inl rfl) ho hc hd (fun h' c' kp e => fin its r' hz h' c' kp e) (by simp only [List.size_toArray] <;> omega)
 ·obtain ⟨its, r', pl, hz⟩ := I.tuple hq
  have hlen := r'.length
  obtain ⟨o, ho, hc, n, hd⟩ := pl
  exact call_list_seq p (.inr rfl) ho hc hd (fun h' c' kp e => fin its r' hz h' c' kp e) (by simp only [List.size_toArray] <;> omega)
def tyV (K : PySem.W.Frag) (T : String) (x : V) (H : Hp) : Prop := match x with
 | .str _ => T = "str"
 | .int _ => T = "int"
 | .ref p => (T = "list" /\ ∃ xs, SqL K H p xs) \/ (T = "tuple" /\ ∃ o, K.lookup p = some o /\ o.cls = .type "tuple" /\ o.dict = none) \/
   (T = "dict" /\ ((∃ kvs, H p = some (.dK kvs)) \/ ∃ kvs, H p = some (.dT kvs))) \/ (T = "set" /\ ∃ S n, H p = some (.set S n))
 | _ => False
theorem v7 {pins : List (Addr × Obj)} {σ : St} {H : Hp} {s : Shared} {T : String} {x : V} {v : Value} (I : Inv X pins σ H s) (r : RelV x v) (ty : tyV X.K T x H) :
  s.TypeIs v T /\ ∀ a, v = .ref a -> ∃ ob, s.heap.get? a = some ob /\ ob.dict = none := by
 cases x with
 | str z =>
  obtain ⟨t, rfl⟩ := r
  cases (show T = "str" from ty)
  exact ⟨typeIs_str s z t, fun _ e => nomatch e⟩
 | int i =>
  obtain ⟨t, rfl⟩ := r
  cases (show T = "int" from ty)
  exact ⟨typeIs_int s i t, fun _ e => nomatch e⟩
 | ref p =>
  cases r
  rcases ty with ⟨rfl, xs, hq⟩ | ⟨rfl, o, hk, hc, hd⟩ | ⟨rfl, hk⟩ | ⟨rfl, S, n, hk⟩
  ·obtain ⟨its, _, pl, _⟩ := I.list hq
   refine ⟨pl.isList.typeIs, fun a e => ?_⟩
   cases e
   obtain ⟨o, n, e, c, hd, _⟩ := pl
   exact ⟨o, e, hd⟩
  ·refine ⟨⟨o, I.kIn p o hk, hc⟩, fun a e => ?_⟩
   cases e
   exact ⟨o, I.kIn _ o hk, hd⟩
  ·have z : ∃ o, s.heap.get? p = some o /\ o.ExactDict := by
    rcases hk with ⟨kvs, hk⟩ | ⟨kvs, hk⟩
    ·obtain ⟨_, _, _, _, o, _, _, e, ex, _⟩ := I.hok p _ hk
     exact ⟨o, e, ex⟩
    ·obtain ⟨_, _, _, _, o, _, _, e, ex, _⟩ := I.hok p _ hk
     exact ⟨o, e, ex⟩
   obtain ⟨o, e, ex⟩ := z
   refine ⟨⟨o, e, ex.1⟩, fun a e2 => ?_⟩
   cases e2
   exact ⟨o, e, ex.2.1⟩
  ·obtain ⟨o, _, _, _, e, ex, _⟩ := I.hok p _ hk
   refine ⟨⟨o, e, ex.1⟩, fun a e2 => ?_⟩
   cases e2
   exact ⟨o, e, ex.2.1⟩
 | _ => exact False.elim ty
def zx (K : PySem.W.Frag) (T : String) (r : V -> List V -> Hp -> VK -> Prop) (to : TE) : TE := fun σ H Q => to σ H fun x H1 => tyV K T x H1 /\ r x [] H1 Q
def tBM (K : PySem.W.Frag) (T : String) (r : V -> List V -> Hp -> VK -> Prop) (to : TE) (t : TA) : TE := fun σ H Q => to σ H fun x H1 => tyV K T x H1 /\ t σ H1 fun xs H2 => r x xs H2 Q
variable {o e : Expr} {es : List Expr} {to : TE} {t : TA} {name : Str} {apos cpos : Pos} {T id : String} {r : V -> List V -> Hp -> VK -> Prop}
theorem mJ (pa : PlainAttrs T) (slot : Slot T name id) (hty : typeOf (.builtin id) = pure (.type "method_descriptor")) (hm : MtR X id r) (ho : PE X o to) (ha : PA X (e :: es) t)
  (hbase : attributeBase o name X.env (eval o X.env) = eval o X.env := by rfl)
  (hfew : ((backTo cpos (starEach (e :: es) X.env)).all (fun x => !x.1) && (backToKw cpos (keywordEach [] X.env)).all (fun x => x.1.isSome)
   && decide ((e :: es).length + ([] : List Keyword).length + (if ([] : List Keyword).isEmpty then 0 else 1) < 30)) = true := by rfl)
  (hline : (apos.endLine == cpos.line) = true := by rfl) (hs : starEach (e :: es) X.env = (false, eval e X.env) :: starEach es X.env := by rfl) (hplain : (backTo cpos (starEach es X.env)).any (·.1) = false := by rfl) :
  PE X (.Call (.Attribute o name apos) (e :: es) [] cpos) (tBM X.K T r to t) := by
 intro pins s σ H Q I h
 refine wpAny_Call_method_late hbase hfew hline rfl (thn (ho pins s σ H _ I h) fun v s1 ⟨x, H1, I1, r1, ty, q1⟩ => ?_)
 obtain ⟨h1, h2⟩ := v7 I1 r1 ty
 refine ⟨T, id, pa, slot, hty, h1, h2, ?_⟩
 have hA := ha cpos pins s1 σ H1 _ I1 q1
 rw [hs] at hA ⊢
 refine Calls.callWith_builtin (by show (false || (backTo cpos (starEach es X.env)).any (·.1)) = false; rw [hplain] <;> rfl) (Calls.evalArgs_plain ?_)
 exact thn hA fun us s2 ⟨vs, H2, I2, r2, q2⟩ => hm pins s2 σ H2 x vs v us Q I2 r1 r2 q2
end
end L2
namespace L2
open PySem PySem.Spec PyProof.Rows
def MtM (X : Cx) (id : String) (r : V -> List V -> Hp -> VK -> Prop) : Prop :=
 ∀ (pins : List (Addr × Obj)) (s : Shared) (σ : St) (H : Hp) (x : V) (xs : List V) (v : Value) (us : List Value) (Q : VK), Inv X pins σ H s -> RelV x v -> Vals xs us -> r x xs H Q ->
  wpAny (model X.prog X.w) X.A (call (.builtin id) (v :: us)) (EP X pins σ Q) X.xe s
theorem Vals.one : ∀ {x : V} {us : List Value}, Vals [x] us -> ∃ u, us = [u] /\ RelV x u
 | _, _, .cons r .nil => ⟨_, rfl, r⟩
theorem Vals.two : ∀ {x y : V} {us : List Value}, Vals [x, y] us -> ∃ u v, us = [u, v] /\ RelV x u /\ RelV y v
 | _, _, _, .cons r (.cons q .nil) => ⟨_, _, rfl, r, q⟩
theorem Vals.zero : ∀ {us : List Value}, Vals [] us -> us = []
 | _, .nil => rfl
theorem Vals.dropLast {xs : List V} {us : List Value} (h : Vals xs us) : Vals xs.dropLast us.dropLast := by
 induction h with
 | nil => exact .nil
 | cons r t ih =>
  cases t with
  | nil => exact .nil
  | cons q t' => exact .cons r ih
theorem Vals.eraseIdx : ∀ {xs : List V} {us : List Value} (i : Nat), Vals xs us -> Vals (xs.eraseIdx i) (us.eraseIdx i)
 | _, _, _, .nil => .nil
 | _, _, 0, .cons _ t => t
 | _, _, i + 1, .cons r t => .cons r (Vals.eraseIdx i t)
theorem Vals.reverse {xs : List V} {us : List Value} (h : Vals xs us) : Vals xs.reverse us.reverse := by
 induction h with
 | nil => exact .nil
 | cons r t ih => rw [List.reverse_cons, List.reverse_cons]; exact Vals.append ih (.cons r .nil)
theorem Vals.rep {xs : List V} {us : List Value} (h : Vals xs us) : ∀ k : Nat, Vals (List.replicate k xs).flatten (List.replicate k us).flatten
 | 0 => .nil
 | k + 1 => by
  rw [List.replicate_succ, List.replicate_succ, List.flatten_cons, List.flatten_cons]
  exact Vals.append h (Vals.rep h k)
section
variable {X : Cx} {pins : List (Addr × Obj)} {σ : St} {H : Hp} {s : Shared} {l b : Addr} {xs ys zs : List V}
theorem Inv.lset {its its' : List Value} {n : Nat} {f : Array Value -> Array Value} {t' : Nat} (I : Inv X pins σ H s) (hH : H l = some (.lst xs))
  (e : s.heap.get? l = some { cls := .type "list", data := .seq its.toArray n }) (hf : f its.toArray = its'.toArray) (hv : Vals ys its') (hz : ys.length <= sizeLine) :
  Inv X pins σ (upd H l (.lst ys)) { s with heap := s.heap.update l (Obj.mapSeq f), toks := t' } := by
 have q := PySem.IsL.update e f
 rw [hf] at q
 refine I.write (x := l) (e := l) (by rw [hH]; exact trivial) (.inl rfl) (fun b' u hb hu => (Heap.get?_update_other s.heap (Obj.mapSeq f) (Ne.symm hb)).trans hu) ⟨_, q⟩ ?_
 exact ⟨hz, its', _, hv, q⟩
theorem Inv.lnew {its : List Value} {t' : Nat} (I : Inv X pins σ H s) (hv : Vals ys its) (hz : ys.length <= sizeLine) :
  Inv X pins σ (upd H s.heap.objs.size (.lst ys)) { s with heap := s.heap.push { cls := .type "list", data := .seq its.toArray }, toks := t' } :=
 I.laid (fun _ _ q => Heap.get?_push_of_some _ q) (Nat.le_refl _) ⟨hz, its, 0, hv, Heap.get?_push_size _ rfl⟩
theorem Inv.fresh (I : Inv X pins σ H s) : H s.heap.objs.size = none := I.hok.fresh (Nat.le_refl _)
theorem Inv.lstM (I : Inv X pins σ H s) (hH : H l = some (.lst xs)) : xs.length <= sizeLine /\ ∃ (its : List Value) (n : Nat), Vals xs its /\ xs.length = its.length /\ s.heap.get? l = some { cls := .type "list", data := .seq its.toArray n } := by
 obtain ⟨z, its, n, r, e⟩ := I.hok l _ hH
 exact ⟨z, its, n, r, r.length, e⟩
end
section
variable {X : Cx}
def uK : V -> List V -> Hp -> VK -> Prop := fun x vs H Q => ∃ l xs y, x = .ref l /\ vs = [y] /\ H l = some (.lst xs) /\ xs.length < sizeLine /\ Q .non (upd H l (.lst (xs ++ [y])))
theorem iu : MtM X "list.append" uK := by
 intro pins s σ H x vs v us Q I rx rv h
 obtain ⟨l, xs, y, rfl, rfl, hH, hz, q⟩ := h
 cases rx
 obtain ⟨u, rfl, ru⟩ := rv.one
 obtain ⟨z, its, n, r, hl, e⟩ := I.lstM hH
 refine call_meets F.slot_list_append ⟨_, e, rfl⟩ F.entry_list_append (F.args_list_append_2 _ _) (PySem.list_append l its.toArray n u (by rw [List.size_toArray]; omega)) ⟨e, ?_⟩
 refine ⟨.non, _, I.lset (its' := its ++ [u]) hH e (by simp) (r.append (.cons ru .nil)) ?_, rfl, q⟩
 rw [List.length_append, List.length_singleton]
 omega
def yj : V -> List V -> Hp -> VK -> Prop := fun x vs H Q => ∃ l b xs zs, x = .ref l /\ vs = [.ref b] /\ H l = some (.lst xs) /\ H b = some (.lst zs) /\ xs.length + zs.length <= sizeLine /\ Q .non (upd H l (.lst (xs ++ zs)))
def zP : V -> List V -> Hp -> VK -> Prop := fun x vs H Q => ∃ l xs y, x = .ref l /\ vs = [] /\ H l = some (.lst xs) /\ xs[xs.length - 1]? = some y /\ Q y (upd H l (.lst xs.dropLast))
def yq : V -> List V -> Hp -> VK -> Prop := fun x vs H Q => ∃ l xs i k y, x = .ref l /\ vs = [.int i] /\ H l = some (.lst xs) /\ -(2 ^ 63) <= i /\ i < 2 ^ 63 /\ seqIndex? i xs.length = some k /\ xs[k]? = some y /\ Q y (upd H l (.lst (xs.eraseIdx k)))
def xP : V -> List V -> Hp -> VK -> Prop := fun x vs H Q => ∃ l xs, x = .ref l /\ vs = [] /\ H l = some (.lst xs) /\ Q .non (upd H l (.lst xs.reverse))
def yu : V -> List V -> Hp -> VK -> Prop := fun x vs H Q => ∃ l xs, x = .ref l /\ vs = [] /\ H l = some (.lst xs) /\ Q .non (upd H l (.lst []))
def xR : R2 := fun x y H Q => ∃ l b xs zs, x = .ref l /\ y = .ref b /\ H l = some (.lst xs) /\ H b = some (.lst zs) /\ xs.length + zs.length <= sizeLine /\ ∀ p, H p = none -> Q (.ref p) (upd H p (.lst (xs ++ zs)))
theorem mU : OpR X (binaryOp .Add) xR := by
 intro pins s σ H x y v u Q I rx ry h
 obtain ⟨l, b, xs, zs, rfl, rfl, hH, hB, hz, q⟩ := h
 cases rx
 cases ry
 obtain ⟨z, its, n, r, hl, e⟩ := I.lstM hH
 obtain ⟨z2, its2, n2, r2, hl2, e2⟩ := I.lstM hB
 refine PySem.P.add_list e e2 ?_ (by rw [List.size_toArray, List.size_toArray]; omega)
 have ea : its.toArray ++ its2.toArray = (its ++ its2).toArray := by simp
 rw [ea]
 exact ⟨.ref _, _, I.lnew (t' := s.toks) (r.append r2) (by rw [List.length_append]; omega), rfl, q _ I.fresh⟩
def zb : R2 := fun x y H Q => ∃ l k xs, x = .ref l /\ y = .int k /\ H l = some (.lst xs) /\ -(2 ^ 63) <= k /\ k < 2 ^ 63 /\ xs.length * k.toNat <= sizeLine /\
 ∀ p, H p = none -> Q (.ref p) (upd H p (.lst (List.replicate k.toNat xs).flatten))
end
section
variable {prog : Program} {w : World} {A : Around} {E : Value -> Shared -> Prop} {s : Shared}
end
section
variable {X : Cx}
end
end L2
namespace Att
open PySem PySem.W PySem.Calls PyProof.Rows
theorem jR {P : Params} {h : Heap} : ∀ (ns : List Int) (vs : List Value), WellAll P h vs (ns.map WData.int) -> IntsAre vs ns := by
 intro ns
 induction ns with
 | nil =>
  intro vs w
  rw [List.map_nil] at w
  cases w
  exact .nil
 | cons n ns ih =>
  intro vs w
  rw [List.map_cons] at w
  cases w with
  | cons a b =>
   cases a
   exact .cons _ _ (ih _ b)
theorem qU {l : OpenLaw} {n : Nat} (hn : l.most = some n) {P : Params} {h : Heap} {args : List WData} {vals : List Value}
  (hpre : l.row.toRowW.claim.pre args = true) (hwl : WellAll P h vals args) :
  ∃ a vs ns, vals = [Value.ref a] /\ args = [WData.list (ns.map WData.int)] /\ h.get? a = some { cls := .type "list", data := .seq vs.toArray } /\ IntsAre vs ns /\ ns.length <= n := by
 have hsh : WShape.hasAll [] args [.list .int] = true := (pre_splitW hpre).1
 have hc : l.pre.holds [] { args := args } = true := (pre_splitW hpre).2
 obtain ⟨d, r, rfl, h1, h2⟩ := hasAllW_cons hsh
 obtain rfl := hasAllW_nil h2
 obtain ⟨xs, rfl, h3⟩ := hasW_list h1
 obtain ⟨ns, rfl⟩ := items_int h3
 have hlen : ns.length <= n := by
  unfold OpenLaw.pre at hc
  have h4 : (WTm.not (.lt (.lit (.int (n : Int))) (.len (.arg 0)))).holds [] { args := [.list (ns.map .int)] } = true := by
   have h4 := (holds_andW hc).1
   rw [hn] at h4
   exact h4
  have h5 := condW_of h4 (w_not (w_lt w_lit (w_len_list (w_arg rfl))))
  rw [List.length_map] at h5
  refine Nat.le_of_not_lt fun q => ?_
  have q' : (n : Int) < ((ns.length : Nat) : Int) := by omega
  first
   | (rw [decide_eq_true q'] at h5; exact absurd h5 (by decide))
   | (simp at h5; omega)
 cases hwl with
 | cons w1 w2 =>
  cases w2
  cases w1 with
  | list ho hall => exact ⟨_, _, ns, rfl, rfl, ho, jR ns _ hall, hlen⟩
theorem rZ (l : OpenLaw) (args : List WData) : l.row.toRowW.claim.post args (.bool true) args = true :=
 postW_of (r := l.row.toRowW) (X := (true == true))
  (show WShape.has [] (.bool true) .bool = true by first | rfl | decide | simp [WShape.has, WShape.arms, WShape.armsAll])
  (show (WTm.eq .res (.lit (.bool true))).value [] { args := args, res := some (.bool true), after := args } = some (.bool (true == true)) from w_eq_bool (w_res rfl) w_lit) rfl
theorem attach_call {l : OpenLaw} {n : Nat} {q : Program} {loose : List Str} {XP : (Str -> Option Value) -> Heap -> Prop} {YP : World -> Heap -> Prop} {d : DefRec}
  (hn : l.most = some n) (hdf : d.params.defaults = [])
  (call : ∀ (w : World) (s₀ s₁ : Shared) (mg mb : Str -> Option Value) (fa : Addr) (o : Obj) (pm cd doc : Value) (a : Addr) (vs : List Value) (ns : List Int),
   Ground q loose [] XP w s₀ mg mb s₁.heap -> YP w s₁.heap ->
   s₁.heap.get? fa = some o -> o.data = .func (docDef d.name d.params d.body d.scope pm cd doc) -> s₁.heap.CodeRec cd d.name -> mg d.name = some (.ref fa) ->
   s₁.heap.get? a = some { cls := .type "list", data := .seq vs.toArray } -> IntsAre vs ns -> ns.length <= n -> s₁.gens = #[] ->
   codeAny (model l.prog w) callerA (.call (.ref fa) ⟨[.ref a], []⟩) (fun r s' => r = .ok (.ret (.bool true)) /\ OldK s₁.heap s'.heap /\ s'.os = s₁.os /\ AllBare s'.gens) s₁) :
  WalkO q loose XP YP l.row.toRowW d [] (fun f vs => PySem.call f vs) := by
 intro w s₀ s₁ mg mb G Y fa o pm cd doc dV kV ho hd hcd hD hmg hg args vals as hpre hlay hrd hwl hlo
 obtain rfl : dV = .none := Dflts.none hD hdf
 obtain rfl : kV = .none := Dflts.noKw hD
 obtain ⟨a, vs, ns, rfl, rfl, hobj, hints, hlen⟩ := qU hn hpre hwl
 refine enter_call (codeAny_mono (call w s₀ s₁ mg mb fa o pm cd doc a vs ns G Y ho (fd_plain hd) hcd hmg hobj hints hlen hg) fun r s' hq => ?_)
 obtain ⟨rfl, h2, h3, h4⟩ := hq
 exact ⟨.inl ⟨.bool true, .bool true, [], rfl, fun _ => rfl, .bool true, rZ l _, fun _ => ⟨List.Pairwise.nil, fun _ hm => (nomatch hm)⟩⟩, h2, h3, h4⟩
section
variable {prog : Program} {w : World} {A : Around} {E : Value -> Shared -> Prop} {s : Shared} {K : Frag}
def yz (h : Heap) : Heap := { h with objs := #[] }
def ledger (h : Heap) (L d : Addr) : List (Addr × Obj) := (List.range h.objs.size).filterMap fun a => if a = L \/ a = d then none else (h.get? a).map fun o => (a, o)
end
end Att
namespace L2
open PySem PySem.Spec PyProof.Rows
theorem lw : ∀ {vs : List Value} {ns : List Int}, IntsAre vs ns -> Vals (ns.map V.int) vs
 | _, _, .nil => .nil
 | _, _, .cons n t h => .cons ⟨t, rfl⟩ (lw h)
def Only (H : Hp) : Prop := ∀ b, H b = none \/ ∃ o xs, H b = some (.frz o (.lst xs))
theorem ue {P : Program} {w : World} {K : PySem.W.Frag} {mg mb : Str -> Option Value} {CX : CXT} {k : Nat} {fa a : Addr} {fd : FuncData} {x : Str} {sp : Sp} {s₁ : Shared} {vs : List Value} {ns : List Int}
  (KX : K.In s₁.heap) (hns : s₁.heap.Ns mainGlobals mg) (hb : s₁.heap.Ns builtinsNs mb) (hbb : ∀ x : Str, x ≠ "__name__" -> mb x = bootBuiltins x) (hlim : s₁.heap.NoLimit) (hg : s₁.gens = #[])
  (ha : s₁.heap.get? a = some { cls := .type "list", data := .seq vs.toArray }) (hi : IntsAre vs ns) (hl : ns.length <= sizeLine) (hr : Room k callerA)
  (F : ∀ base : Heap, K.In base -> base.Ns mainGlobals mg -> FnOk P w K mg base CX k fa fd [x] sp) (hbind : ∀ (s : Shared) (u : Value), BindsTo s fd ⟨[u], []⟩ [(x, u)])
  (hsp : ∀ H : Hp, Only H -> SqL K H a (ns.map V.int) -> sp [.ref a] H (fun v _ => v = .bl true) fun _ _ _ => False)
  (hCX : ∀ H e s', CX [] H s₁ (fun _ _ _ => False) e s' -> False) :
  codeAny (model P w) callerA (.call (.ref fa) ⟨[.ref a], []⟩) (fun r s' => r = .ok (.ret (.bool true)) /\ OldK s₁.heap s'.heap /\ s'.os = s₁.os /\ AllBare s'.gens) s₁ := by
 have rv := lw hi
 have lenV := hi.length
 have core : ∀ H : Hp, Only H -> SqL K H a (ns.map V.int) -> HOk P w H s₁.heap -> (∀ b, H b ≠ none -> b = a) -> (H a ≠ none -> K.lookup a = none) ->
   codeAny (model P w) callerA (.call (.ref fa) ⟨[.ref a], []⟩) (fun r s' => r = .ok (.ret (.bool true)) /\ OldK s₁.heap s'.heap /\ s'.os = s₁.os /\ AllBare s'.gens) s₁ := by
  intro H hO hS hok hA hK
  have base_of : ∀ {b : Addr} {o : Obj}, s₁.heap.get? b = some o -> H b = none -> (gZ s₁.heap H).get? b = some o := fun e n => tK e n
  have noA : ∀ {b : Addr} {o : Obj} {es : Array DictEntry} {ep : Nat}, s₁.heap.get? b = some o -> o.data = .dict es ep -> H b = none := fun {b o es ep} e d => by
   cases q : H b with
   | none => rfl
   | some u =>
    have e' : b = a := hA b (by rw [q]; simp)
    subst e'
    rw [ha] at e; cases e
    have d' : Data.seq vs.toArray _ = Data.dict es ep := d
    cases d'
  have nsK : ∀ {b : Addr} {m : Str -> Option Value}, s₁.heap.Ns b m -> (gZ s₁.heap H).Ns b m := fun {b m} ⟨o, es, ep, e, d, r⟩ => ⟨o, es, ep, base_of e (noA e d), d, r⟩
  have hKb : K.In (gZ s₁.heap H) := fun b o e => base_of (KX b o e) (by
   cases q : H b with
   | none => rfl
   | some u =>
    have e' : b = a := hA b (by rw [q]; simp)
    subst e'
    rw [hK (by rw [q]; simp)] at e; cases e)
  have hM : Mod K mg (gZ s₁.heap H) := ⟨hKb, nsK hns, ⟨mb, nsK hb, hbb⟩, let ⟨mc, h1, h2⟩ := hlim; ⟨mc, nsK h1, h2⟩⟩
  have e0 : Env0 P w K mg (gZ s₁.heap H) callerA [] s₁ H := ⟨rfl, hM, fun b o e => uZ e, Nat.le_of_eq (rG _ _), trivial, fun b hb => absurd (show b ∈ ([] : List Addr) from hb) (by simp), hok, .of_eq hg⟩
  refine codeAny_mono ((F _ hKb (nsK hns)).run callerA [] s₁ H ⟨[.ref a], []⟩ [.ref a] [.ref a] _ _ hr e0 (hbind s₁ (.ref a)) (.cons rfl .nil) (hsp H hO hS)) fun r s' h => ?_
  cases r with
  | error e => exact (hCX H e s' h).elim
  | ok fl =>
   cases fl with
   | next => exact False.elim h
   | brk => exact False.elim h
   | cont => exact False.elim h
   | ret u =>
    obtain ⟨v, H', os, bare, un, hok', r', q⟩ := h
    have q' : v = .bl true := q
    subst q'
    obtain rfl : u = Value.bool true := r'
    refine ⟨rfl, OldK.of_keep fun b o e => ?_, os, bare⟩
    cases q : H b with
    | none => exact un.keep b o e q (by intro z; exact absurd (show b ∈ ([] : List Addr) from z) (by simp)) (by simp)
    | some u =>
     rcases hO b with z | ⟨ob, xs, z⟩
     ·rw [q] at z; cases z
     ·have z2 := un.frzs b ob _ z
      obtain ⟨e1, _⟩ := hok b _ z
      obtain ⟨e2, _⟩ := hok' b _ z2
      rw [e] at e1; cases e1
      exact e2
 cases hk : K.lookup a with
 | some o =>
  have e := KX a o hk
  rw [ha] at e
  cases e
  refine core (fun _ => none) (fun _ => .inl rfl) (.inr ⟨_, vs.toArray, _, hk, rfl, rfl, rfl, by rw [List.size_toArray, lenV]; exact hl, by simpa using rv⟩) (fun b u z => by have z' : (none : Option HO) = some u := z; cases z') (fun b z => absurd rfl z) fun z => absurd rfl z
 | none =>
  refine core (fun b => if b = a then some (.frz { cls := .type "list", data := .seq vs.toArray } (.lst (ns.map V.int))) else none) (fun b => ?_) (.inl (.inr ⟨{ cls := .type "list", data := .seq vs.toArray }, if_pos rfl⟩)) (fun b u z => ?_) (fun b z => ?_) fun _ => hk
  ·by_cases hb : b = a
   ·exact .inr ⟨_, _, if_pos hb⟩
   ·exact .inl (if_neg hb)
  ·by_cases hb : b = a
   ·have z' := (if_pos hb).symm.trans z
    cases z'
    subst hb
    exact ⟨ha, by rw [List.length_map]; exact hl, vs, _, rv, ha⟩
   ·have z' := (if_neg hb).symm.trans z
    cases z'
  ·by_cases hb : b = a
   ·exact hb
   ·exact absurd (if_neg hb) z
end L2
namespace L2
open PySem PySem.Spec PyProof.Rows
abbrev KOf {K : PySem.W.Frag} {h : Heap} (_ : K.In h) : PySem.W.Frag := K
theorem walk_of {l : PySem.W.OpenLaw} {n k : Nat} {q : Program} {loose : List Str} {XP : (Str -> Option Value) -> Heap -> Prop} {YP : World -> Heap -> Prop} {d : DefRec} {K : Params -> PySem.W.Frag} {CX : World -> CXT} {sp : World -> Sp} {x : Str}
  (hn : l.most = some n) (hn2 : n <= sizeLine) (hdf : d.params.defaults = []) (hr : Room k callerA)
  (hY : ∀ (w : World) (h : Heap), YP w h -> (K w.params).In h)
  (F : ∀ (w : World) (mg : Str -> Option Value) (fa : Addr) (h : Heap), (K w.params).In h -> h.Ns mainGlobals mg -> mg d.name = some (.ref fa) ->
   ∃ fd : FuncData, (∀ (s : Shared) (u : Value), BindsTo s fd ⟨[u], []⟩ [(x, u)]) /\
    ∀ base : Heap, (K w.params).In base -> base.Ns mainGlobals mg -> FnOk l.prog w (K w.params) mg base (CX w) k fa fd [x] (sp w))
  (hsp : ∀ (w : World) (H : Hp) (a : Addr) (ns : List Int), ns.length <= n -> Only H -> SqL (K w.params) H a (ns.map V.int) -> sp w [.ref a] H (fun v _ => v = .bl true) fun _ _ _ => False)
  (hCX : ∀ (w : World) (H : Hp) (s : Shared) (e : Value) (s' : Shared), CX w [] H s (fun _ _ _ => False) e s' -> False) :
  PySem.W.WalkO q loose XP YP l.row.toRowW d [] (fun f vs => PySem.call f vs) := by
 refine Att.attach_call hn hdf fun w s₀ s₁ mg mb fa o pm cd doc a vs ns G Y ho hd hcd hmg hobj hints hlen hg => ?_
 have KX := hY w _ Y
 obtain ⟨fd, hb, hF⟩ := F w mg fa _ KX G.T.g hmg
 exact ue KX G.T.g G.T.b G.T.builtins G.T.nolimit hg hobj hints (Nat.le_trans hlen hn2) hr hF hb (fun H hO hS => hsp w H a ns hlen hO hS) fun H e s' => hCX w H s₁ e s'
end L2
namespace L2
open PySem PySem.Spec PyProof.Rows
def inClass (s : Stmt) (j : Nat) : Stmt := match s with
 | .ClassDef _ _ _ body _ _ _ _ _ _ _ => body.getD j (.Pass ⟨0, 0, 0, 0⟩)
 | _ => .Pass ⟨0, 0, 0, 0⟩
def dj (s : Stmt) : Arguments := match s with
 | .FunctionDef _ a _ _ _ _ _ _ _ _ => a
 | _ => { posonlyargs := [], args := [], vararg := none, kwonlyargs := [], kw_defaults := [], kwarg := none, defaults := [] }
def bJ (s : Stmt) : List Stmt := match s with
 | .FunctionDef _ _ b _ _ _ _ _ _ _ => b
 | _ => []
def aG (s : Stmt) : Scope := match s with
 | .FunctionDef _ _ _ _ _ _ sc _ _ _ => sc
 | _ => { kind := .function, names := [], isGenerator := false, isCoroutine := false }
abbrev CX0 : CXT := fun _ _ _ _ _ _ => False
abbrev E0 : XK := fun _ _ _ => False
theorem uv {X : Cx} : cz CX0 X E0 := fun _ _ _ _ _ _ _ h => h.elim
structure Fun (K : PySem.W.Frag) (x qual : Str) (st : Stmt) (f : Addr) (fd : FuncData) : Prop where
 ex : ∃ (oc : Value) (od : Option Addr) (kV doc pm : Value) (an : Option Addr) (cdv ct : Value) (osl : Array (Option Value)),
  fd = PySem.W.fnOf x qual (dj st) (bJ st) (aG st) .none kV doc pm an cdv ct /\ K.lookup f = some ⟨oc, od, .func fd, osl⟩ /\ PySem.W.codeIn K cdv qual = true
 kp : PySem.W.keepIn K (.ref f) = true
section
variable {P : Program} {w : World} {K : PySem.W.Frag} {mg : Str -> Option Value} {base : Heap}
theorem Fun.ok {x qual : Str} {st : Stmt} {f : Addr} {fd : FuncData} {N ps : List Str} {k : Nat} {sp : Sp} (F : Fun K x qual st f fd) (S : FnScope N ps (aG st)) (len : ∀ vs H Q E, sp vs H Q E -> vs.length = ps.length)
  (hbody : ∀ (cdv : Value) (A : Around) (outer : List Env) (s : Shared) (H : Hp) (vs : List V) (Q : VK) (E : XK), Room k (A.deeper (envOfC qual (aG st) s.heap.objs.size f cdv)) -> sp vs H Q E ->
   ∃ t, PSs (bD CX0 P w K mg base N qual (aG st) f cdv A outer s H E).nox (bJ st) t /\ t { nx := fun _ H' => Q .non H', rt := Q } (start N vs) H) : FnOk P w K mg base CX0 (k + 1) f fd ps sp := by
 obtain ⟨oc, od, kV, doc, pm, an, cdv, ct, osl, rfl, lk, hcd⟩ := F.ex
 refine ul lk hcd S len fun A outer s H vs Q E hr hsp => ?_
 obtain ⟨t, h, q⟩ := hbody cdv A outer s H vs Q E hr hsp
 exact ⟨t, h.nox, q⟩
theorem Fun.binds {x qual : Str} {st : Stmt} {f : Addr} {fd : FuncData} {ps : List Str} (F : Fun K x qual st f fd)
  (h : ∀ (kV doc pm : Value) (an : Option Addr) (cdv ct : Value) (us : List Value), us.length = ps.length -> bindArgs (PySem.W.fnOf x qual (dj st) (bJ st) (aG st) .none kV doc pm an cdv ct) ⟨us, []⟩ = pure (ps.zip us)) : Binds K fd ps [] := by
 obtain ⟨oc, od, kV, doc, pm, an, cdv, ct, osl, rfl, lk, hcd⟩ := F.ex
 exact .all (h kV doc pm an cdv ct)
theorem rB {x qual : Str} {st : Stmt} {f : Addr} {oc : Value} {od an : Option Addr} {osl : Array (Option Value)} {kV doc pm cdv ct : Value} (l : K.lookup f = some ⟨oc, od, .func (PySem.W.fnOf x qual (dj st) (bJ st) (aG st) .none kV doc pm an cdv ct), osl⟩)
  (c : PySem.W.codeIn K cdv qual = true) (k : PySem.W.keepIn K (.ref f) = true) : Fun K x qual st f (PySem.W.fnOf x qual (dj st) (bJ st) (aG st) .none kV doc pm an cdv ct) := ⟨⟨oc, od, kV, doc, pm, an, cdv, ct, osl, rfl, l, c⟩, k⟩
end
theorem aU {n : Nat} (h : n <= 1000) : n < sizeLine := Nat.lt_of_le_of_lt h (by decide)
section
variable {X : Cx}
theorem pv (i : Nat) {x : Str} {pos : Pos} (hN : X.N[i]? = some x := by rfl) (hv : Vis X.env.scope x := by first | exact Or.inl rfl | exact Or.inr (Or.inl rfl) | exact Or.inr (Or.inr rfl)) (hd : (x == ("__debug__" : Str)) = false := by decide)
  (hcd : (x == ("__classdict__" : Str)) = false := by decide) : PE X (.Name x pos) (vI i) := vm hN hv hd hcd
end
theorem bA {A B : Prop} (h : B) : if false = true then A else B := by
 rw [if_neg Bool.false_ne_true]
 exact h
theorem bx {A B : Prop} (h : A) : if true = true then A else B := by
 rw [if_pos rfl]
 exact h
theorem qG {c A B : Prop} [Decidable c] (h1 : c -> A) (h2 : ¬ c -> B) : if c then A else B := by
 by_cases h : c
 ·rw [if_pos h]
  exact h1 h
 ·rw [if_neg h]
  exact h2 h
theorem jP {c A B : Prop} [Decidable c] (hc : c) (h : B) : if (!decide c) = true then A else B := by
 rw [decide_eq_true hc]
 exact bA h
def Same (H H' : Hp) : Prop := ∀ b o, H b = some o -> H' b = some o
theorem Same.refl (H : Hp) : Same H H := fun _ _ h => h
theorem Same.trans {H H1 H2 : Hp} (a : Same H H1) (b : Same H1 H2) : Same H H2 := fun c o h => b c o (a c o h)
theorem Same.free {H H' : Hp} (e : Same H H') {l : Addr} (h : H' l = Option.none) : H l = Option.none := by
 cases q : H l with
 | none => rfl
 | some o =>
  rw [e l o q] at h
  cases h
theorem Same.seq {K : PySem.W.Frag} {H H' : Hp} {a : Addr} {xs : List V} (e : Same H H') (h : SqL K H a xs) : SqL K H' a xs := by
 rcases h with (h | ⟨o, h⟩) | h
 ·exact .inl (.inl (e _ _ h))
 ·exact .inl (.inr ⟨o, e _ _ h⟩)
 ·exact .inr h
end L2
set_option Elab.async false
set_option linter.all false
set_option maxRecDepth 100000
namespace L2
open PySem PySem.Spec PyProof.Rows
theorem Inv.track {X : Cx} {pins : List (Addr × Obj)} {σ : St} {H : Hp} {s : Shared} {D : Addr} {o : HO} (I : Inv X pins σ H s) (f : bW X pins H D) (new : ObjOk X.prog X.w (upd H D o) s.heap D o) : Inv X pins σ (upd H D o) s := by
 obtain ⟨f0, f1, f2, f3, f4, f5⟩ := f
 refine I.step (h' := s.heap) (g' := s.gens) (d' := s.drawn) (t' := s.toks) (ch := [D]) (fun b hb => ?_) (fun b u _ _ _ e _ => e) (fun b u _ _ _ e _ => ⟨u.slots, e⟩) (fun b u hc _ n => ?_) (fun b u _ e => ⟨u, e⟩)
  (fun b xs q => ?_) (fun b u xs q => ?_) (fun b ps q => ⟨#[], ?_⟩) (fun m hm => hm) (fun b u e => ?_) I.bare
 ·have e : b = D := by simpa using hb
  subst e
  exact ⟨f3, f1, f4, f5⟩
 ·rw [aH (by simpa using hc)]
  exact n
 ·rw [aH (aQ q f0)]
  exact q
 ·rw [aH (aQ q f0)]
  exact q
 ·rw [aH (aQ q f0), q]
  simp
 ·by_cases hb : b = D
  ·subst hb
   rw [au] at e
   cases e
   exact new
  ·rw [aH hb] at e
   exact (I.hok b u e).stay (fun c v _ q => q) (fun c q => by rw [aH (aQ q f0)]; exact q) fun c xs q => by rw [aH (aQ q f0)]; exact q
def cX (scope : Scope) (env : Env) : List (Str × Addr) :=
 scope.names.foldl (fun acc x => if x.2 == .free then (match env.cells.lookup x.1 with | some a => (x.1, a) :: acc | none => acc) else acc) []
theorem oh {env : Env} : ∀ (names : List (Str × NameKind)) (acc : List (Str × Addr)), (∀ x c, acc.lookup x = some c -> env.cells.lookup x = some c) ->
  ∀ x c, (names.foldl (fun acc x => if x.2 == .free then (match env.cells.lookup x.1 with | some a => (x.1, a) :: acc | none => acc) else acc) acc).lookup x = some c -> env.cells.lookup x = some c
 | [], acc, h, x, c, e => h x c e
 | (n, k) :: r, acc, h, x, c, e => by
  rw [List.foldl_cons] at e
  refine oh r _ (fun y d q => ?_) x c e
  by_cases hk : (k == NameKind.free) = true
  ·simp only [hk, if_true] at q
   cases hc : env.cells.lookup n with
   | none => rw [hc] at q; exact h y d q
   | some a =>
    rw [hc] at q
    simp only [List.lookup_cons] at q
    cases hy : y == n with
    | true =>
     rw [hy] at q
     have : y = n := by simpa using hy
     subst this
     rw [hc]
     exact q
    | false =>
     rw [hy] at q
     exact h y d q
  ·rw [if_neg hk] at q
   exact h y d q
theorem fX {scope : Scope} {env : Env} {x : Str} {c : Addr} (e : (cX scope env).lookup x = some c) : env.cells.lookup x = some c :=
 oh scope.names [] (fun _ _ q => by simp at q) x c e
theorem i_ {env : Env} {x : Str} : ∀ (names : List (Str × NameKind)) (acc : List (Str × Addr)), (acc.lookup x).isSome = true ->
  ((names.foldl (fun acc x => if x.2 == .free then (match env.cells.lookup x.1 with | some a => (x.1, a) :: acc | none => acc) else acc) acc).lookup x).isSome = true
 | [], _, h => h
 | (n, k) :: r, acc, h => by
  rw [List.foldl_cons]
  refine i_ r _ ?_
  by_cases hk : (k == NameKind.free) = true
  ·simp only [hk, if_true]
   cases hc : env.cells.lookup n with
   | none => exact h
   | some a =>
    simp only [List.lookup_cons]
    cases hy : x == n with
    | true => rfl
    | false => exact h
  ·rw [if_neg hk]
   exact h
theorem jT {env : Env} {x : Str} {c : Addr} (hc : env.cells.lookup x = some c) : ∀ (names : List (Str × NameKind)) (acc : List (Str × Addr)), (x, NameKind.free) ∈ names ->
  ((names.foldl (fun acc x => if x.2 == .free then (match env.cells.lookup x.1 with | some a => (x.1, a) :: acc | none => acc) else acc) acc).lookup x).isSome = true
 | [], _, h => nomatch h
 | (n, k) :: r, acc, h => by
  rw [List.foldl_cons]
  rcases List.mem_cons.mp h with e | h
  ·cases e
   refine i_ r _ ?_
   simp [hc, List.lookup_cons]
  ·exact jT hc r _ h
theorem lA {scope : Scope} {env : Env} {x : Str} {c : Addr} (hc : env.cells.lookup x = some c) (hm : (x, NameKind.free) ∈ scope.names) : (cX scope env).lookup x = some c := by
 have h := jT (env := env) hc scope.names [] hm
 obtain ⟨d, e⟩ := Option.isSome_iff_exists.mp h
 have e' : (cX scope env).lookup x = some d := e
 have := fX e'
 rw [hc] at this
 cases this
 exact e'
theorem eE {env : Env} : ∀ (names : List (Str × NameKind)) (acc : List (Str × Addr)), (∀ n, (n, NameKind.free) ∈ names -> ∃ c, env.cells.lookup n = some c) ->
  (forIn names acc fun x r => (if x.2 == .free then do let c <- cellOf env x.1; pure (ForInStep.yield ((x.1, c) :: r)) else pure (ForInStep.yield r) : Sem _)) =
   pure (names.foldl (fun acc x => if x.2 == .free then (match env.cells.lookup x.1 with | some a => (x.1, a) :: acc | none => acc) else acc) acc)
 | [], _, _ => rfl
 | (n, k) :: r, acc, h => by
  rw [List.forIn_cons, List.foldl_cons]
  by_cases hk : (k == NameKind.free) = true
  ·have hk' : k = .free := by simpa using hk
   obtain ⟨c, hc⟩ := h n (by rw [hk']; exact List.mem_cons_self)
   simp only [hk, if_true, cellOf, hc]
   exact eE r _ fun y hy => h y (List.mem_cons_of_mem _ hy)
  ·simp only [hk, if_false, Bool.false_eq_true]
   exact eE r _ fun y hy => h y (List.mem_cons_of_mem _ hy)
theorem mj {scope : Scope} {env : Env} (h : ∀ n, (n, NameKind.free) ∈ scope.names -> ∃ c, env.cells.lookup n = some c) : closureFor scope env = pure (cX scope env) := by
 have e := eE (env := env) scope.names [] h
 unfold cX
 show (forIn scope.names [] (fun x r => (if x.2 == .free then do let c <- cellOf env x.1; pure (ForInStep.yield ((x.1, c) :: r)) else pure (ForInStep.yield r) : Sem _)) >>= fun cs => pure cs) = _
 rw [e]
 rfl
theorem mZ {scope : Scope} {env : Env} {x : Str} (h : (relabel scope env).names.lookup x = some .cell \/ (relabel scope env).names.lookup x = some .free) : scope.names.lookup x = some .free \/ scope.names.lookup x = some .cell := by
  have go : ∀ names : List (Str × NameKind),
      ((names.map fun (n, k) => if (k == NameKind.free && env.scope.kind == .function && env.kindOf n == some .cell) then (n, NameKind.cell) else (n, k)).lookup x = some .cell \/
       (names.map fun (n, k) => if (k == NameKind.free && env.scope.kind == .function && env.kindOf n == some .cell) then (n, NameKind.cell) else (n, k)).lookup x = some .free) -> names.lookup x = some .free \/ names.lookup x = some .cell := by
    intro names
    induction names with
    | nil => intro h; simp at h
    | cons y r ih =>
      obtain ⟨n, k⟩ := y
      intro h
      rw [List.map_cons] at h
      cases hx : x == n with
      | true =>
        rw [List.lookup_cons, hx]
        by_cases hf : (k == NameKind.free && env.scope.kind == .function && env.kindOf n == some .cell) = true
        · have : (k == NameKind.free) = true := by
            cases q : (k == NameKind.free) with
            | true => rfl
            | false => rw [q] at hf; simp at hf
          have e : k = .free := by simpa using this
          rw [e]
          exact .inl rfl
        · simp only [hf, Bool.false_eq_true, if_false, List.lookup_cons, hx] at h
          rcases h with h | h
          · exact .inr h
          · exact .inl h
      | false =>
        rw [List.lookup_cons, hx]
        refine ih ?_
        by_cases hf : (k == NameKind.free && env.scope.kind == .function && env.kindOf n == some .cell) = true
        · simpa only [hf, if_true, List.lookup_cons, hx] using h
        · simpa only [hf, Bool.false_eq_true, if_false, List.lookup_cons, hx] using h
  exact go scope.names h
theorem ph {scope : Scope} {env : Env} {x : Str} (h : scope.names.lookup x = some .free) : (relabel scope env).names.lookup x = some .cell \/ (relabel scope env).names.lookup x = some .free := by
  have go : ∀ names : List (Str × NameKind), names.lookup x = some .free ->
      ((names.map fun (n, k) => if (k == NameKind.free && env.scope.kind == .function && env.kindOf n == some .cell) then (n, NameKind.cell) else (n, k)).lookup x = some .cell \/
       (names.map fun (n, k) => if (k == NameKind.free && env.scope.kind == .function && env.kindOf n == some .cell) then (n, NameKind.cell) else (n, k)).lookup x = some .free) := by
    intro names
    induction names with
    | nil => intro h; simp at h
    | cons y r ih =>
      obtain ⟨n, k⟩ := y
      intro h
      rw [List.map_cons]
      cases hx : x == n with
      | true =>
        rw [List.lookup_cons, hx] at h
        have e : k = .free := Option.some.inj h
        subst e
        by_cases hf : ((NameKind.free == NameKind.free) && env.scope.kind == .function && env.kindOf n == some .cell) = true
        · left; simp only [hf, if_true, List.lookup_cons, hx]
        · right; simp only [hf, Bool.false_eq_true, if_false, List.lookup_cons, hx]
      | false =>
        rw [List.lookup_cons, hx] at h
        by_cases hf : (k == NameKind.free && env.scope.kind == .function && env.kindOf n == some .cell) = true
        · simpa only [hf, if_true, List.lookup_cons, hx] using ih h
        · simpa only [hf, Bool.false_eq_true, if_false, List.lookup_cons, hx] using ih h
  exact go scope.names h
theorem dW : ∀ {names : List (Str × NameKind)} {x : Str}, names.lookup x = some .free -> (x, NameKind.free) ∈ names := fun h => PySem.mem_of_lookup h
theorem bU : ∀ (names : List (Str × NameKind)) (n : Nat) (acc : List (Str × Addr)), cellsFrom n names acc = cellsFrom n names [] ++ acc
 | [], _, _ => rfl
 | (x, k) :: r, n, acc => by
  unfold cellsFrom
  split
  ·rw [bU r (n + 1) ((x, n) :: acc), bU r (n + 1) [(x, n)], List.append_assoc]
   rfl
  ·exact bU r n acc
theorem eG : ∀ {names : List (Str × NameKind)} {n : Nat} {acc : List (Str × Addr)} {x : Str} {c : Addr}, (x, c) ∈ cellsFrom n names acc -> (x, NameKind.cell) ∈ names \/ (x, c) ∈ acc
 | [], _, _, _, _, h => .inr h
 | (y, k) :: r, n, acc, x, c, h => by
  unfold cellsFrom at h
  split at h
  ·rename_i hk
   have hk' : k = .cell := by simpa using hk
   rcases eG h with q | q
   ·exact .inl (List.mem_cons_of_mem _ q)
   ·rcases List.mem_cons.mp q with e | q
    ·cases e
     rw [hk']
     exact .inl List.mem_cons_self
    ·exact .inr q
  ·rcases eG h with q | q
   ·exact .inl (List.mem_cons_of_mem _ q)
   ·exact .inr q
def bQ (scope : Scope) (env : Env) (C : Addr) : List (Str × Addr) := cellsFrom (C + 1) scope.names (cX scope env)
theorem bz {scope : Scope} {env : Env} {C : Addr} {x : Str} {c : Addr} (e : (bQ scope env C).lookup x = some c) : (x, c) ∈ cellsFrom (C + 1) scope.names [] \/ ((cellsFrom (C + 1) scope.names []).lookup x = none /\ (cX scope env).lookup x = some c) := by
 unfold bQ at e
 rw [bU, List.lookup_append] at e
 cases q : (cellsFrom (C + 1) scope.names []).lookup x with
 | some d =>
  rw [q] at e
  have e' : d = c := by simpa using e
  subst e'
  exact .inl (PySem.mem_of_lookup q)
 | none =>
  rw [q] at e
  exact .inr ⟨rfl, by simpa using e⟩
theorem iZ {M : Model} {A : Around} {E : Value -> Shared -> Prop} {s : Shared} {scope : Scope} {globals : Addr} {cl : List (Str × Addr)} {qual : Str} {env : Env} {Q : Env -> Shared -> Prop}
  (hQ : ∀ h', h'.Ns s.heap.objs.size (fun _ => none) -> (∀ b o, s.heap.get? b = some o -> h'.get? b = some o) -> CellsOk h' (s.heap.objs.size + 1) (cellsFrom (s.heap.objs.size + 1) scope.names []) ->
   Q (newEnv scope s.heap.objs.size globals (cellsFrom (s.heap.objs.size + 1) scope.names cl) qual none .none (some env) builtinsNs) { s with heap := h' }) :
  wpAny M A (newFunctionEnv scope globals cl [] qual none .none (some env)) Q E s := by
 simp only [newFunctionEnv, Option.isSome_some, if_true]
 refine wpAny_bind (wpAny_alloc ?_)
 refine wpAny_bind (wpAny_layCells _ (fun name kind cells => by cases hkc : kind == NameKind.cell <;> simp [hkc]) _ _ _ _ ?_)
 have ok := cellsFrom_ok scope.names (s.heap.push { cls := .type "dict", data := .dict #[] }) (s.heap.objs.size + 1) [] ⟨fun _ _ hm => (nomatch hm), List.Pairwise.nil⟩ (by rw [Heap.size_push]; exact Nat.le_refl _)
 rw [Heap.size_push] at ok
 rw [show ({ s with heap := s.heap.push { cls := .type "dict", data := .dict #[] } } : Shared).heap.objs.size = s.heap.objs.size + 1 from Heap.size_push ..]
 refine wpAny_bind (wpAny_pure (wpAny_pure ?_))
 exact hQ _ ((Heap.Ns.new s.heap (.type "dict")).keeps (pushCells_keeps _ _)) (fun b o e => pushCells_keeps _ _ b o (Heap.get?_push_of_some _ e)) ok
def aW (X : Cx) (pins : List (Addr × Obj)) (scope : Scope) (N' : List Str) (fp : List Addr) (s2 : Shared) (C : Addr) (H : Hp) : Cx where
 prog := X.prog
 w := X.w
 K := X.K
 mg := X.mg
 base := X.base
 A := X.A
 N := N'
 s₀ := s2
 H₀ := H
 env := compEnvC scope (bQ scope X.env C) C X.env
 outer := X.stack
 stack := X.stack
 ex := fp
 fn := fun x => scope.names.lookup x == some .cell
 calm := X.calm
 pn := X.pn ++ pins
 xe := fun _ _ => False
def bG (src : List (Option Nat)) (σ : St) : St := src.map fun o => match o with | none => none | some j => (σ[j]?).getD none
def ie (scope around : Scope) (N N' : List Str) (src : List (Option Nat)) : Bool :=
 scope.kind == .function && scope.names.all (fun x => (x.2 != .cell || scope.names.lookup x.1 == some .cell) && (x.2 != .local || scope.names.lookup x.1 == some .local) && (x.2 != .free || around.names.lookup x.1 == some .cell || around.names.lookup x.1 == some .free)) &&
 N'.length == src.length && (N'.zip src).all fun x => match x.2 with | none => true | some j => N[j]? == some x.1 && scope.names.lookup x.1 == some .free
structure CompOk (scope around : Scope) (N N' : List Str) (src : List (Option Nat)) : Prop where
 kind : scope.kind = .function
 cellk : ∀ y ∈ scope.names, y.2 = .cell -> scope.names.lookup y.1 = some .cell
 loc : ∀ y ∈ scope.names, y.2 = .local -> scope.names.lookup y.1 = some .local
 free : ∀ y, (y, NameKind.free) ∈ scope.names -> around.names.lookup y = some .cell \/ around.names.lookup y = some .free
 len : N'.length = src.length
 src : ∀ (i j : Nat) (x : Str), N'[i]? = some x -> src[i]? = some (some j) -> N[j]? = some x /\ scope.names.lookup x = some .free
theorem CompOk.of {scope around : Scope} {N N' : List Str} {src : List (Option Nat)} (h : ie scope around N N' src = true) : CompOk scope around N N' src := by
 unfold ie at h
 simp only [Bool.and_eq_true, List.all_eq_true] at h
 obtain ⟨⟨⟨h1, h2⟩, h3⟩, h4⟩ := h
 refine ⟨by simpa using h1, fun y hy e => ?_, fun y hy e => ?_, fun y hy => ?_, by simpa using h3, fun i j x e1 e2 => ?_⟩
 ·have := (h2 y hy).1.1
  rw [e] at this
  simpa using this
 ·have := (h2 y hy).1.2
  rw [e] at this
  simpa using this
 ·have := (h2 _ hy).2
  simpa using this
 ·have hm : (x, some j) ∈ N'.zip src := by
   refine List.mem_of_getElem? (i := i) ?_
   rw [List.getElem?_zip_eq_some]
   exact ⟨e1, e2⟩
  have := h4 _ hm
  simpa using this
theorem rO {src : List (Option Nat)} {σ : St} {i : Nat} {v : V} (e : (bG src σ)[i]? = some (some v)) : ∃ j, src[i]? = some (some j) /\ σ[j]? = some (some v) := by
 unfold bG at e
 rw [List.getElem?_map] at e
 cases q : src[i]? with
 | none => rw [q] at e; cases e
 | some o =>
  rw [q] at e
  cases o with
  | none => simp at e
  | some j =>
   refine ⟨j, rfl, ?_⟩
   have e' : (σ[j]?).getD none = some v := by simpa using e
   cases r : σ[j]? with
   | none => rw [r] at e'; cases e'
   | some y => rw [r] at e'; simpa using e'
section
variable {X : Cx} {pins : List (Addr × Obj)} {σ : St} {H : Hp} {s2 : Shared} {scope : Scope} {N' : List Str} {src : List (Option Nat)} {fp : List Addr} {C : Addr}
theorem oZ (k : CompOk scope X.env.scope X.N N' src) (I : Inv X pins σ H s2) (m : Str -> Option Value) (i : Nat) (x : Str) (v : V) (e1 : N'[i]? = some x) (e2 : (bG src σ)[i]? = some (some v)) :
  ∃ u, RelV v u /\ Look (compEnvC scope (bQ scope X.env C) C X.env) s2.heap m x u := by
 obtain ⟨j, ej, ev⟩ := rO e2
 obtain ⟨hN, hf⟩ := k.src i j x e1 ej
 have hm := dW hf
 have hk : X.env.scope.names.lookup x = some .cell \/ X.env.scope.names.lookup x = some .free := k.free x hm
 obtain ⟨m0, _, hl⟩ := I.loc
 obtain ⟨u, r, lk⟩ := hl j x v hN ev (.inr hk)
 refine ⟨u, r, .inr ⟨ph hf, ?_⟩⟩
 rcases lk with ⟨q, _⟩ | ⟨_, c, hc, z⟩
 ·have q' : X.env.scope.names.lookup x = some .local := q
  rcases hk with w | w
  ·rw [w] at q'; cases q'
  ·rw [w] at q'; cases q'
 ·refine ⟨c, ?_, z⟩
  have q : (cellsFrom (C + 1) scope.names []).lookup x = none := by
   cases q : (cellsFrom (C + 1) scope.names []).lookup x with
   | none => rfl
   | some d =>
    rcases eG (PySem.mem_of_lookup q) with y | y
    ·have := k.cellk _ y rfl
     rw [hf] at this
     cases this
    ·exact nomatch y
  show (bQ scope X.env C).lookup x = some c
  unfold bQ
  rw [bU, List.lookup_append, q, lA hc hm]
  rfl
theorem je (k : CompOk scope X.env.scope X.N N' src) {s0 : Shared} {H0 : Hp} {pl : List (Addr × Obj)} {σ' : St} (I : Inv X pins σ H s2) (I' : Inv (aW X pins scope N' fp s0 C H0) pl σ' H s2) : Inv (aW X pins scope N' fp s0 C H0) pl (bG src σ) H s2 := by
 obtain ⟨m, hns, _⟩ := I'.loc
 refine ⟨I'.ok, I'.os, I'.bare, I'.base, ⟨m, hns, fun i x v e1 e2 _ => oZ (C := C) k I m i x v e1 e2⟩, I'.cell, I'.free, I'.freeC, I'.pin, I'.hok, ?_⟩
 unfold bG
 rw [List.length_map]
 exact k.len.symm
theorem nO (k : CompOk scope X.env.scope X.N N' src) (I : Inv X pins σ H s2) (f : ∀ b ∈ fp, bW X pins H b) (fo : ∀ b ∈ fp, ∃ o, s2.heap.get? b = some o) (hC : s2.heap.objs.size <= C) {h1 : Heap} {tk : Nat} {m : Str -> Option Value} (hns : h1.Ns C m)
  (old : ∀ b o, s2.heap.get? b = some o -> h1.get? b = some o) (own : CellsOk h1 (C + 1) (cellsFrom (C + 1) scope.names [])) : Inv (aW X pins scope N' fp s2 C H) [] (bG src σ) H { s2 with heap := h1, toks := tk } := by
 have sub : ∀ x c, (cX scope X.env).lookup x = some c -> X.env.cells.lookup x = some c := fun x c e => fX e
 have oldc : ∀ x c, (cX scope X.env).lookup x = some c -> c < s2.heap.objs.size := fun x c e => by
  obtain ⟨v, q⟩ := I.cell x c (sub x c e)
  exact q.lt
 have ltC : ∀ b o, s2.heap.get? b = some o -> b ≠ C := fun b o e => Nat.ne_of_lt (Nat.lt_of_lt_of_le (Heap.lt_size e) hC)
 have nst : ∀ b, b ≠ X.env.locals -> b ∉ X.fs -> b ∉ frs X.stack := fun b h1 h2 hb => by
  rcases List.mem_cons.mp (I.stkSub b hb) with z | z
  ·exact h1 z
  ·exact h2 z
 refine ⟨⟨I.ok.mod, k.kind, I.ok.glob, I.ok.blt, hC, fun x y c e1 e2 => ?_, fun x hx => ?_, fun x c z e => ?_, I.ok.hd, I.ok.frames, .inl rfl, fun b hb => ⟨?_, fun x c e => ?_⟩,
   I.bs, Nat.le_trans I.ok.bsz I.sz, fun b o e hb => ?_, fun b hb => nst b (f b hb).2.1 (f b hb).2.2.1, I.stack, I.stkFree⟩,
  rfl, I.bare, Un.kept old, ⟨m, hns, fun i x v e1 e2 _ => ?_⟩, fun x c e => ?_, I.hok.fresh hC, fun x c e => ?_, fun p hp => ?_, I.hok.kept old, ?_⟩
 ·rcases bz e1 with q | ⟨_, q⟩
  ·rcases bz e2 with r | ⟨_, r⟩
   ·exact name_of_addr own.apart q r
   ·have h1 := (own.empty _ _ q).2
    have h2 := oldc _ _ r
    exact absurd (Nat.lt_of_lt_of_le h2 hC) (by omega)
  ·rcases bz e2 with r | ⟨_, r⟩
   ·have h1 := (own.empty _ _ r).2
    have h2 := oldc _ _ q
    exact absurd (Nat.lt_of_lt_of_le h2 hC) (by omega)
   ·exact I.ok.inj x y c (sub x c q) (sub y c r)
 ·show ∃ c, (bQ scope X.env C).lookup x = some c
  unfold bQ
  rw [bU, List.lookup_append]
  cases q : (cellsFrom (C + 1) scope.names []).lookup x with
  | some d => exact ⟨d, by simp⟩
  | none =>
   rcases mZ hx with hf | hf
   ·have hm := dW hf
    have hk : X.env.kindOf x = some .cell \/ X.env.kindOf x = some .free := k.free x hm
    obtain ⟨c, hc⟩ := I.ok.has x hk
    exact ⟨c, by rw [lA hc hm]; rfl⟩
   ·have := PySem.W.cellsFrom_some scope.names (C + 1) [] (.inl hf)
    rw [q] at this
    cases this
 ·have z1 : (scope.names.lookup x == some NameKind.cell) = true := z
  have z' : scope.names.lookup x = some .cell := by simpa using z1
  rcases bz e with q | ⟨q, _⟩
  ·exact Nat.le_trans hC (by have := (own.empty _ _ q).2; omega)
  ·have := PySem.W.cellsFrom_some scope.names (C + 1) [] (.inl z')
   rw [q] at this
   cases this
 ·obtain ⟨o, e⟩ := fo b hb
  exact ltC b o e
 ·rcases bz e with q | ⟨_, q⟩
  ·obtain ⟨o, eb⟩ := fo b hb
   have h1 := (own.empty _ _ q).2
   have h2 := Nat.lt_of_lt_of_le (Heap.lt_size eb) hC
   exact Nat.ne_of_gt (Nat.lt_of_lt_of_le h2 (Nat.le_trans (Nat.le_succ C) h1))
  ·exact (f b hb).2.2.2.2.1 x c (sub x c q)
 ·rcases (f b hb).2.2.2.1 with z | z
  ·exact I.ok.noex b o e z
  ·exact absurd (Nat.lt_of_lt_of_le (Heap.lt_size e) (Nat.le_trans I.ok.bsz z)) (Nat.lt_irrefl _)
 ·exact oZ (C := C) k (I.kept (t' := tk) old) m i x v e1 e2
 ·rcases bz e with q | ⟨_, q⟩
  ·exact ⟨_, (own.empty _ _ q).1⟩
  ·obtain ⟨v, o, ho, hd⟩ := I.cell x c (sub x c q)
   exact ⟨v, o, old c o ho, hd⟩
 ·rcases bz e with q | ⟨_, q⟩
  ·exact I.hok.fresh (by have := (own.empty _ _ q).2; omega)
  ·exact I.freeC x c (sub x c q)
 ·have hp' : p ∈ X.pn ++ pins := by
   have : p ∈ (X.pn ++ pins) ++ [] := hp
   simpa using this
  obtain ⟨e, n, ne, nf, d⟩ := I.pin p hp'
  exact ⟨old _ _ e, n, ltC _ _ e, nst _ ne nf, d⟩
 ·unfold bG
  rw [List.length_map]
  exact k.len.symm
end
def PTs (X : Cx) (ifs : List Expr) (t : TT) : Prop :=
 ∀ (pins : List (Addr × Obj)) (s : Shared) (σ : St) (H : Hp) (Q : Bool -> Hp -> Prop), Inv X pins σ H s -> t σ H Q ->
  wpAny (model X.prog X.w) X.A (forIn ifs true fun c r => if r = true then do let ok <- isTrue c X.env (eval c X.env); pure (ForInStep.yield ok) else pure (ForInStep.yield r)) (TP X pins σ Q) X.xe s
def kj : TT := fun _ H Q => Q true H
theorem a_ {X : Cx} : PTs X [] kj := fun _ _ _ H _ I h => wpAny_tests_nil ⟨H, I, h⟩
theorem nW {prog : Program} {w : World} {A : Around} {R : Result -> Shared -> Prop} {s : Shared} {elt target iter : Expr} {ifs : List Expr} {scope : Scope} {pos : Pos} {it acc : Value} {env : Env} (I : Nat -> Shared -> Prop)
  (turn : ∀ n s, I n s -> wpAny (model prog w) A (pyNext it) (fun r s₁ => match r with
   | none => R (.ok .next) s₁
   | some v => wpAny (model prog w) A (letOwnedTupleGo target it v) (fun _ s₀ => wpAny (model prog w) A (assign target env v) (fun _ s₂ =>
     wpAny (model prog w) A (forIn ifs true fun c r => if r = true then do let ok <- isTrue c env (eval c env); pure (ForInStep.yield ok) else pure (ForInStep.yield r)) (fun ok s₃ =>
      if ok = true then wpAny (model prog w) A (eval elt env) (fun x s₄ =>
       wpAny (model prog w) A (call (.builtin "list.append") [acc, x]) (fun _ s₅ => ∃ m, m < n /\ I m s₅) (fun _ _ => False) s₄) (fun _ _ => False) s₃
      else ∃ m, m < n /\ I m s₃) (fun _ _ => False) s₂) (fun _ _ => False) s₀) (fun _ _ => False) s₁) (fun _ _ => False) s)
  (n : Nat) (h : I n s) : codeAny (model prog w) A (.compLoop (.ListComp elt [⟨target, iter, ifs, 0⟩] scope pos) 0 it acc env) R s := by
 refine codeAny_loop rfl I (fun n s hI => ?_) n h
 show wpAny _ A ((compTurn (.ListComp elt [⟨target, iter, ifs, 0⟩] scope pos) 0 it acc env).onRaise (fun x => do noteFrame x env; theTreesLotGoes x)) _ _ s
 refine wpAny_noted ?_
 rw [compTurn_list]
 refine wpAny_mono (E := fun _ _ => False) ?_ (fun _ _ q => q) (fun _ _ z => z.elim)
 refine wpAny_bind (wpAny_standAt (wpAny_bind (wpAny_mono (turn n s hI) (fun r s₁ h₁ => ?_) fun _ _ h' => h')))
 cases r with
 | none => exact wpAny_pure h₁
 | some v =>
  refine wpAny_bind (wpAny_mono h₁ (fun _ s₀ h₀ => ?_) fun _ _ h' => h')
  refine wpAny_bind (wpAny_mono h₀ (fun _ s₂ h₂ => wpAny_bind (wpAny_mono h₂ (fun ok s₃ h₃ => ?_) fun _ _ h' => h')) fun _ _ h' => h')
  cases ok with
  | false => exact wpAny_pure ⟨rfl, h₃⟩
  | true =>
   exact wpAny_bind (wpAny_bind (wpAny_mono h₃ (fun x s₄ h₄ => wpAny_bind (wpAny_mono h₄ (fun _ s₅ h₅ => wpAny_pure (wpAny_pure ⟨rfl, h₅⟩)) fun _ _ h' => h')) fun _ _ h' => h'))
def cV (J : It) (g : TG) (tt : TT) (te : TE) (σc : St) (H1 : Hp) (Fin : List V -> Hp -> Prop) : Prop :=
 ∃ W : Nat -> Nat -> List V -> Hp -> Prop, (∃ m, W 0 m [] H1) /\ ∀ i m ys H, W i m ys H ->
  (J.stop i H /\ Fin ys H) \/ (J.go i H /\ ys.length < sizeLine /\ ∃ N : List V -> Hp -> Prop, (∀ ys' H', N ys' H' -> ∃ m', m' < m /\ W (i + 1) m' ys' H') /\
   ∀ x H', J.yld i H x H' -> g x σc H' fun σ2 H2 => tt σ2 H2 fun b H3 => if b = true then te σ2 H3 fun y H4 => N (ys ++ [y]) H4 else N ys H3)
def qJ (wi : TI) (src : List (Option Nat)) (g : TG) (tt : TT) (te : TE) : TE := fun σ H Q => wi σ H fun J H1 => cV J g tt te (bG src σ) H1 fun ys H2 => ∀ p, H2 p = none -> Q (.ref p) (upd H2 p (.lst ys))
abbrev lobj (its : List Value) (k : Nat) : Obj := { cls := .type "list", data := .seq its.toArray k }
theorem oE {X : Cx} {pins : List (Addr × Obj)} {σ : St} {H : Hp} {s2 : Shared} {E : Value -> Shared -> Prop} {scope : Scope} {N' : List Str} {src : List (Option Nat)} {fp : List Addr} {it : Addr} {tn : Nat -> Heap -> Prop} {J : It} {tg elt iter : Expr} {ifs : List Expr} {pos : Pos} {g : TG} {tt : TT} {te : TE}
  {Fin : List V -> Hp -> Prop} {RR : Value -> Addr -> Result -> Shared -> Prop} (hc : X.calm = true) (k : CompOk scope X.env.scope X.N N' src) (I : Inv X pins σ H s2) (T : Turn X.prog X.w X.K tg J fp it tn) (st0 : tn 0 s2.heap) (f : ∀ b ∈ fp, bW X pins H b)
  (hg : ∀ C, PG (aW X pins scope N' fp s2 C H) tg g) (ht : ∀ C, PTs (aW X pins scope N' fp s2 C H) ifs tt) (he : ∀ C, PE (aW X pins scope N' fp s2 C H) elt te)
  (h : cV J g tt te (bG src σ) H Fin)
  (hRR : ∀ D C s' H' ys its n, Inv X pins σ H' s' -> bW X pins H' D -> bW X pins H' C -> C ≠ D -> (∃ m, s'.heap.Ns C m) -> s'.heap.get? D = some (lobj its n) -> Vals ys its -> ys.length <= sizeLine -> Fin ys H' -> RR (.ref D) C (.ok .next) s') :
  wpAny (model X.prog X.w) X.A (newList []) (fun acc s₃ => wpAny (model X.prog X.w) X.A (newFunctionEnv scope X.env.globals (cX scope X.env) [] X.env.qual none .none (some X.env)) (fun cenv s₄ =>
   codeAny (model X.prog X.w) X.A (.compStart (.ListComp elt [⟨tg, iter, ifs, 0⟩] scope pos) 0 (.ref it) acc { cenv with scope := relabel scope X.env }) (RR acc cenv.locals) s₄) E s₃) E s2 := by
 refine wpAny_newObj_type (iZ fun h₁ hns₁ old₁ own₁ => ?_)
 dsimp only at hns₁ old₁ own₁ ⊢
 generalize hH2 : s2.heap.push { cls := .type "list", dict := none, data := .seq ([] : List Value).toArray } = H2 at hns₁ old₁ own₁ ⊢
 have hC : H2.objs.size = s2.heap.objs.size + 1 := by rw [<- hH2, Heap.size_push]
 have hDC : s2.heap.objs.size ≠ H2.objs.size := by rw [hC]; exact Nat.ne_of_lt (Nat.lt_succ_self _)
 have hCle : s2.heap.objs.size <= H2.objs.size := by rw [hC]; exact Nat.le_succ _
 have old : ∀ b o, s2.heap.get? b = some o -> h₁.get? b = some o := fun b o e => old₁ b o (hH2 ▸ Heap.get?_push_of_some _ e)
 have hacc : h₁.get? s2.heap.objs.size = some (lobj [] 0) := old₁ _ _ (hH2 ▸ Heap.get?_push_size _ rfl)
 generalize hDe : s2.heap.objs.size = D at hDC hacc
 generalize hCe : H2.objs.size = C at hDC hC hCle hns₁ own₁ ⊢
 have fo : ∀ b ∈ fp, ∃ o, s2.heap.get? b = some o := fun b hb => let ⟨o, e, _⟩ := T.obj 0 _ st0 b hb; ⟨o, e⟩
 have fD : ∀ b ∈ fp, b ≠ D := fun b hb => by obtain ⟨o, e⟩ := fo b hb; rw [<- hDe]; exact Nat.ne_of_lt (Heap.lt_size e)
 have fC : ∀ b ∈ fp, b ≠ C := fun b hb => by obtain ⟨o, e⟩ := fo b hb; exact Nat.ne_of_lt (Nat.lt_of_lt_of_le (Heap.lt_size e) hCle)
 have stk : ∀ b, s2.heap.objs.size <= b -> b ∉ frs X.stack := fun b hb z => by
  rcases List.mem_cons.mp (I.stkSub b z) with q | q
  ·rw [q] at hb; exact absurd (Nat.lt_of_lt_of_le I.lt hb) (Nat.lt_irrefl _)
  ·exact I.nofs hb q
 have I0 : Inv (aW X pins scope N' fp s2 C H) [] (bG src σ) H { s2 with heap := h₁ } := nO (tk := s2.toks) k I f fo hCle hns₁ old own₁
 have hDn : H D = none := I.hok.fresh (by rw [hDe]; exact Nat.le_refl _)
 have nD : D ≠ C /\ D ∉ frs X.stack := ⟨hDC, stk D (by rw [hDe]; exact Nat.le_refl _)⟩
 have cellF : ∀ x c, (bQ scope X.env C).lookup x = some c -> ∀ b, b < C -> (∀ x c, X.env.cells.lookup x = some c -> c ≠ b) -> c ≠ b := fun x c e b hb hx z => by
  rcases bz e with q | ⟨_, q⟩
  ·have := (own₁.empty _ _ q).2
   exact Nat.ne_of_gt (Nat.lt_of_lt_of_le hb (Nat.le_trans (Nat.le_succ C) this)) z
  ·exact hx x c (fX q) z
 have hDC2 : D < C := by rw [hC, <- hDe]; exact Nat.lt_succ_self _
 have cellD : ∀ x c, (bQ scope X.env C).lookup x = some c -> c ≠ D := fun x c e => cellF x c e D hDC2 fun x c e z => by
  obtain ⟨v, q⟩ := I.cell x c e
  have := q.lt
  rw [z, <- hDe] at this
  exact Nat.lt_irrefl _ this
 have pnD : ∀ p ∈ X.pn ++ pins, p.1 ≠ D := fun p hp z => by
  have := Heap.lt_size (I.pin p hp).1
  rw [z, <- hDe] at this
  exact Nat.lt_irrefl _ this
 have nocell : ∀ (its : List Value) (n : Nat) (v : Option Value), (lobj its n).data ≠ .cell v := fun its n v z => by
  have z' : Data.seq its.toArray n = Data.cell v := z
  cases z'
 have pinD : ∀ {σ' : St} {H' : Hp} {s' : Shared} {its : List Value} {n : Nat} {pl : List (Addr × Obj)}, Inv (aW X pins scope N' fp s2 C H) pl σ' H' s' -> s'.heap.get? D = some (lobj its n) -> H' D = none -> Inv (aW X pins scope N' fp s2 C H) [(D, lobj its n)] σ' H' s' :=
  fun {σ' H' s' its n pl} J1 e hn => J1.pins_of fun p hp => by
   have hp' : p = (D, lobj its n) := List.mem_singleton.mp hp
   subst hp'
   exact ⟨e, hn, nD.1, nD.2, nocell _ _⟩
 obtain ⟨W, ⟨m0, w0⟩, turn⟩ := h
 have ltf : ∀ b ∈ fp, b < C := fun b hb => by obtain ⟨o, e⟩ := fo b hb; exact Nat.lt_of_lt_of_le (Heap.lt_size e) hCle
 have loop : ∀ s₃ : Shared, s₃ = { s2 with heap := h₁ } ->
   codeAny (model X.prog X.w) X.A (.compLoop (.ListComp elt [⟨tg, iter, ifs, 0⟩] scope pos) 0 (.ref it) (.ref D) (compEnvC scope (bQ scope X.env C) C X.env)) (RR (.ref D) C) s₃ := by
  rintro s₃ rfl
  refine nW (fun n s' => ∃ i σ' H' ys its l, Inv (aW X pins scope N' fp s2 C H) [(D, lobj its l)] σ' H' s' /\ tn i s'.heap /\ (∀ b ∈ fp, H' b = none) /\ Vals ys its /\ ys.length <= sizeLine /\ W i n ys H' ) ?_ m0
   ⟨0, bG src σ, H, [], [], 0, pinD I0 hacc hDn, T.keep _ _ _ st0 fun b _ o e => old b o e, fun b hb => (f b hb).1, .nil, Nat.zero_le _, w0⟩
  rintro n s3 ⟨i, σ3, H3, ys, its, l, I3, st3, fr3, rv, hz, w3⟩
  have stat : ∀ {H' : Hp} {its' : List Value} {l' : Nat}, (∀ b ∈ fp, H' b = none) -> ∀ b ∈ fp, bW (aW X pins scope N' fp s2 C H) [(D, lobj its' l')] H' b := fun hn b hb =>
   ⟨hn b hb, fC b hb, (fun z => by
     rcases List.mem_cons.mp (I.stkSub b z) with q | q
     ·exact (f b hb).2.1 q
     ·exact (f b hb).2.2.1 q), .inl hb, fun x c e => cellF x c e b (ltf b hb) (f b hb).2.2.2.2.1, fun p hp => by
    rcases List.mem_append.mp hp with z | z
    ·exact (f b hb).2.2.2.2.2 p z
    ·rw [List.mem_singleton.mp z]
     exact Ne.symm (fD b hb)⟩
  have IX3 : Inv X pins σ H3 s3 := I.call' (ch := fp) I3.os I3.base I3.hok I3.bare fun b hb => ⟨(f b hb).2.2.2.1, (f b hb).2.1, (f b hb).2.2.2.2.1, (f b hb).2.2.2.2.2⟩
  have I3c : Inv (aW X pins scope N' fp s2 C H) [(D, lobj its l)] (bG src σ) H3 s3 := je k IX3 I3
  rcases turn i n ys H3 w3 with ⟨stop, fin⟩ | ⟨go, hlt, NN, hNN, step⟩
  ·refine wpAny_mono (T.done (aW X pins scope N' fp s2 C H) rfl rfl rfl hc i _ s3 σ3 H3 (fun _ _ => False) I3 (stat fr3) st3 stop) (fun r s4 ⟨hr, I4⟩ => ?_) fun _ _ z => z
   subst hr
   have eD := (I4.pin (D, lobj its l) (List.mem_append_right _ List.mem_cons_self))
   have IX : Inv X pins σ H3 s4 := I.call' (ch := fp) I4.os I4.base I4.hok I4.bare fun b hb => ⟨(f b hb).2.2.2.1, (f b hb).2.1, (f b hb).2.2.2.2.1, (f b hb).2.2.2.2.2⟩
   obtain ⟨m4, hn4, _⟩ := I4.loc
   exact hRR D C s4 H3 ys its l IX (I.fpOk (by rw [hDe]; exact Nat.le_refl _) eD.2.1) (I.fpOk hCle I4.free) (Ne.symm hDC) ⟨m4, hn4⟩ eD.1 rv hz fin
  ·refine wpAny_mono (T.item (aW X pins scope N' fp s2 C H) rfl rfl rfl hc i _ s3 (bG src σ) H3 (fun _ _ => False) I3c (stat fr3) st3 go) (fun r s4 ⟨u, hr, h4⟩ => ?_) fun _ _ z => z
   subst hr
   refine wpAny_mono h4 (fun _ s5 ⟨x, H5, I5, r5, y5, st5, fr5⟩ => ?_) fun _ _ z => z
   have I5' := I5.pinned (stat fr5) (T.obj _ _ st5)
   refine wpAny_mono (hg C _ s5 (bG src σ) H5 x u _ I5' r5 (step x H5 y5)) (fun _ s6 ⟨σ6, H6, I6, q6⟩ => ?_) fun _ _ z => z
   refine wpAny_mono (ht C _ s6 σ6 H6 _ I6 q6) (fun b s7 ⟨H7, I7, q7⟩ => ?_) fun _ _ z => z
   have back : ∀ {σ8 : St} {H8 : Hp} {s8 : Shared}, Inv (aW X pins scope N' fp s2 C H) ([(D, lobj its l)] ++ cU fp s5.heap) σ8 H8 s8 -> tn (i + 1) s8.heap /\ (∀ b ∈ fp, H8 b = none) := fun {σ8 H8 s8} I8 => by
    have pk : ∀ b ∈ fp, ∀ o, s5.heap.get? b = some o -> s8.heap.get? b = some o /\ H8 b = none := fun b hb o e => by
     have q := I8.pin (b, o) (List.mem_append_right _ (List.mem_append_right _ (eN hb e)))
     exact ⟨q.1, q.2.1⟩
    refine ⟨T.keep _ _ _ st5 fun b hb o e => (pk b hb o e).1, fun b hb => ?_⟩
    obtain ⟨o, e, _⟩ := T.obj _ _ st5 b hb
    exact (pk b hb o e).2
   cases b with
   | false =>
    obtain ⟨m', hm, w7⟩ := hNN _ _ q7
    obtain ⟨b1, b2⟩ := back I7
    exact ⟨m', hm, i + 1, σ6, H7, ys, its, l, I7.unpinned, b1, b2, rv, hz, w7⟩
   | true =>
    refine wpAny_mono (he C _ s7 σ6 H7 _ I7 q7) (fun y s8 ⟨v8, H8, I8, r8, q8⟩ => ?_) fun _ _ z => z
    obtain ⟨m', hm, w8⟩ := hNN _ _ q8
    obtain ⟨b1, b2⟩ := back I8
    have eD := (I8.pin (D, lobj its l) (List.mem_append_right _ (List.mem_append_left _ List.mem_cons_self)))
    have hl := rv.length
    refine append_at (hsz := by show its.toArray.size <= sizeLine; rw [List.size_toArray]; omega) eD.1 fun h9 hs9 hD9 => ?_
    have I8' : Inv (aW X pins scope N' fp s2 C H) (cU fp s5.heap) σ6 H8 s8 := I8.pins_of fun p hp => I8.pin p (List.mem_append_right _ (List.mem_append_right _ hp))
    have I9 : Inv (aW X pins scope N' fp s2 C H) (cU fp s5.heap) σ6 H8 { s8 with heap := h9 } := I8'.turned (t' := s8.toks) (fun b o hb e => hs9.extBut b o hb e) eD.2.1 nD.1 (.inr (by show s2.heap.objs.size <= D; rw [hDe]; exact Nat.le_refl _)) cellD fun p hp => by
     rcases List.mem_append.mp hp with z | z
     ·exact pnD p z
     ·exact fD _ (h_ z).1
    have e9 : ({ cls := .type "list", data := .seq (its.toArray.push y) (l + 1) } : Obj) = lobj (its ++ [y]) (l + 1) := by
     show ({ cls := .type "list", data := .seq (its.toArray.push y) (l + 1) } : Obj) = { cls := .type "list", data := .seq (its ++ [y]).toArray (l + 1) }
     rw [List.push_toArray]
    rw [e9] at hD9
    refine ⟨m', hm, i + 1, σ6, H8, ys ++ [v8], its ++ [y], l + 1, pinD I9 hD9 eD.2.1, T.keep _ _ _ b1 fun b hb o e => hs9.extBut b o (fD b hb) e, b2, rv.append (.cons r8 .nil), by rw [List.length_append, List.length_singleton]; omega, w8⟩
 subst hDe
 exact codeAny_compStart_list (loop _ rfl) (T.self _ 0 _ _ _ (T.keep _ _ _ st0 fun b _ o e => old b o e) (loop _ rfl))
section
variable {X : Cx} {scope : Scope} {N' : List Str} {src : List (Option Nat)} {tg elt iter : Expr} {ifs : List Expr} {pos : Pos} {wi : TI} {g : TG} {tt : TT} {te : TE}
theorem gf {pins : List (Addr × Obj)} {σ : St} {H : Hp} {s : Shared} {N : List Str} (k : CompOk scope X.env.scope N N' src) (I : Inv X pins σ H s) : closureFor scope X.env = pure (cX scope X.env) :=
 mj fun n hn => I.ok.has n (k.free n hn)
theorem bh (hc : X.calm = true) (hk : ie scope X.env.scope X.N N' src = true) (hi : PI X tg iter wi)
  (hg : ∀ pins fp s2 C H, PG (aW X pins scope N' fp s2 C H) tg g) (ht : ∀ pins fp s2 C H, PTs (aW X pins scope N' fp s2 C H) ifs tt) (he : ∀ pins fp s2 C H, PE (aW X pins scope N' fp s2 C H) elt te)
  (hs : ∀ x, foldedSetIterable iter X.env x = pure x := by intro _; rfl) : PE X (.ListComp elt [⟨tg, iter, ifs, 0⟩] scope pos) (qJ wi src g tt te) := by
 intro pins s σ H Q I h
 have k := CompOk.of hk
 rw [eval_ListComp]
 refine wpAny_comprehension_free (use := none) rfl hs (gf k I) k.kind k.loc (thn (hi pins s σ H _ I h) fun xv s1 h1 => thn h1 fun itv s2 h2 => ?_)
 obtain ⟨it, fp, tn, J, H2, e, I2, T, st2, f2, q2⟩ := h2
 subst e
 refine oE hc k I2 T st2 f2 (hg pins fp s2 · H2) (ht pins fp s2 · H2) (he pins fp s2 · H2) q2 ?_
 intro D C s' H' ys its n I' fD fC hCD hns hD rv hz fin
 obtain ⟨m, hn⟩ := hns
 refine ⟨m, hn, fun h' hs' => ?_⟩
 have I3 : Inv X pins σ H' { s' with heap := h' } := I'.turned (t' := s'.toks) (fun b o hb e => hs'.extBut b o hb e) fC.1 fC.2.1 fC.2.2.2.1 fC.2.2.2.2.1 fC.2.2.2.2.2
 exact ⟨.ref D, upd H' D (.lst ys), I3.track fD ⟨hz, its, n, rv, hs'.extBut _ _ (Ne.symm hCD) hD⟩, rfl, fin D fD.1⟩
theorem pN {i : Nat} {x : Str} {px spos : Pos} (hc : X.calm = true) (hN : X.N.Nodup) (hi' : X.N[i]? = some x) (hx : X.env.scope.names.lookup x = some .local) (hk : ie scope X.env.scope X.N N' src = true) (hi : PI X tg iter wi)
  (hg : ∀ pins fp s2 C H, PG (aW X pins scope N' fp s2 C H) tg g) (ht : ∀ pins fp s2 C H, PTs (aW X pins scope N' fp s2 C H) ifs tt) (he : ∀ pins fp s2 C H, PE (aW X pins scope N' fp s2 C H) elt te)
  (hsw : swapsWith (.ListComp elt [⟨tg, iter, ifs, 0⟩] scope pos) (some (.Name x px)) spos.line X.env = pure true := by rfl)
  (hs : ∀ x, foldedSetIterable iter X.env x = pure x := by intro _; rfl) : PS X (.Assign [.Name x px] (.ListComp elt [⟨tg, iter, ifs, 0⟩] scope pos) spos) (qO (qJ wi src g tt te) (eO i)) := by
 intro pins s σ H D0 I h
 have k := CompOk.of hk
 rw [exec_Assign_Name_used _ _ _ _ hsw]
 refine wpAny_bind (wpAny_standAt (wpAny_bind ?_))
 show wpAny _ X.A (do let _ <- comprehension (.ListComp elt [⟨tg, iter, ifs, 0⟩] scope pos) scope X.env _ (newList []) false (eval iter X.env) (some (assign (.Name x px) X.env))) _ _ s
 refine wpAny_bind (wpAny_mono (wpAny_comprehension_free (use := some (assign (.Name x px) X.env)) (Q := fun _ s' => SP X pins D0 .next s') rfl hs (gf k I) k.kind k.loc
  (thn (hi pins s σ H _ I h) fun xv s1 h1 => thn h1 fun itv s2 h2 => ?_)) (fun _ s' hq => wpAny_pure (wpAny_pure hq)) fun _ _ e => e)
 obtain ⟨it, fp, tn, J, H2, e, I2, T, st2, f2, q2⟩ := h2
 subst e
 refine oE hc k I2 T st2 f2 (hg pins fp s2 · H2) (ht pins fp s2 · H2) (he pins fp s2 · H2) q2 ?_
 intro D C s' H' ys its n I' fD fC hCD hns hD rv hz fin
 obtain ⟨m, hn⟩ := hns
 show wpAny _ X.A (assign (.Name x px) X.env (.ref D)) _ _ _
 refine wpAny_assign_Name (g_ I' hN hi' (.inl hx) (show RelV (.ref D) (.ref D) from rfl) (fun s3 I3 hsb => ?_) (.inr hx))
 obtain ⟨a, hsb, ha⟩ := hsb
 have haC : C ≠ a := fun z => by
  rcases ha with q | q
  ·exact fC.2.1 (z.trans q)
  ·exact fC.2.2.2.2.1 x a q z.symm
 have haD : D ≠ a := fun z => by
  rcases ha with q | q
  ·exact fD.2.1 (z.trans q)
  ·exact fD.2.2.2.2.1 x a q z.symm
 refine ⟨m, hn.sameBut hsb haC, fun h' hs' => ?_⟩
 have I4 : Inv X pins (σ.set i (some (.ref D))) H' { s3 with heap := h' } := I3.turned (t' := s3.toks) (fun b o hb e => hs'.extBut b o hb e) fC.1 fC.2.1 fC.2.2.2.1 fC.2.2.2.2.1 fC.2.2.2.2.2
 exact ⟨_, upd H' D (.lst ys), I4.track fD ⟨hz, its, n, rv, hs'.extBut _ _ (Ne.symm hCD) (hsb.extBut _ _ haD hD)⟩, fin D fD.1⟩
end
theorem rA {K : PySem.W.Frag} {a : Addr} {xs : List V} {g : TG} {tt : TT} {te : TE} {σc : St} {H : Hp} {Fin : List V -> Hp -> Prop} (Pv : Nat -> List V -> Hp -> Prop) (h0 : Pv 0 [] H) (hl : ∀ i ys H, i <= xs.length -> Pv i ys H -> SqL K H a xs /\ ys.length <= i) (hz : xs.length <= sizeLine)
  (hs : ∀ i x ys H, xs[i]? = some x -> Pv i ys H -> g x σc H fun σ2 H2 => tt σ2 H2 fun b H3 => if b = true then te σ2 H3 fun y H4 => Pv (i + 1) (ys ++ [y]) H4 else Pv (i + 1) ys H3)
  (hd : ∀ ys H, Pv xs.length ys H -> Fin ys H) : cV (Itl K a) g tt te σc H Fin := by
 refine ⟨fun i m ys H => m = xs.length - i /\ i <= xs.length /\ Pv i ys H, ⟨xs.length, by simp, Nat.zero_le _, h0⟩, ?_⟩
 rintro i m ys H ⟨rfl, hi, p⟩
 obtain ⟨q, hy⟩ := hl i ys H hi p
 by_cases hlt : i < xs.length
 ·refine .inr ⟨⟨xs, xs[i], q, by simp [hlt]⟩, by omega, Pv (i + 1), fun ys' H' p' => ⟨xs.length - (i + 1), by omega, rfl, hlt, p'⟩, fun x H' y => ?_⟩
  obtain ⟨e, y⟩ := y
  subst e
  exact hs i x ys _ (y xs q) p
 ·have e : i = xs.length := by omega
  subst e
  exact .inl ⟨⟨xs, q, Nat.le_refl _⟩, hd ys H p⟩
theorem qK {lo : Int} {n : Nat} {g : TG} {tt : TT} {te : TE} {σc : St} {H : Hp} {Fin : List V -> Hp -> Prop} (Pv : Nat -> List V -> Hp -> Prop) (h0 : Pv 0 [] H) (hl : ∀ i ys H, i <= n -> Pv i ys H -> ys.length <= i) (hz : n <= sizeLine)
  (hs : ∀ i ys H, i < n -> Pv i ys H -> g (.int (lo + i)) σc H fun σ2 H2 => tt σ2 H2 fun b H3 => if b = true then te σ2 H3 fun y H4 => Pv (i + 1) (ys ++ [y]) H4 else Pv (i + 1) ys H3)
  (hd : ∀ ys H, Pv n ys H -> Fin ys H) : cV (Itr lo n) g tt te σc H Fin := by
 refine ⟨fun i m ys H => m = n - i /\ i <= n /\ Pv i ys H, ⟨n, by simp, Nat.zero_le _, h0⟩, ?_⟩
 rintro i m ys H ⟨rfl, hi, p⟩
 have hy := hl i ys H hi p
 by_cases hlt : i < n
 ·refine .inr ⟨hlt, by omega, Pv (i + 1), fun ys' H' p' => ⟨n - (i + 1), by omega, rfl, hlt, p'⟩, fun x H' y => ?_⟩
  obtain ⟨e, y⟩ := y
  subst e y
  exact hs i ys _ hlt p
 ·have e : i = n := by omega
  subst e
  exact .inl ⟨Nat.le_refl _, hd ys H p⟩
end L2
set_option Elab.async false
set_option linter.all false
set_option maxRecDepth 100000
namespace L2
open PySem PySem.Spec PyProof.Rows
section
variable {X : Cx}
theorem pD : CallR X (.builtin "isinstance") (fun xs H Q => ∃ x t T b, xs = [x, .ty T] /\ TyOf X.K H x t /\ PySem.W.kitOne X.K t (.type T) = some b /\ Q (.bl b) H) := by
 intro pins s σ H xs us Q I r h
 obtain ⟨x, t, T, b, rfl, ty, e, q⟩ := h
 cases r with
 | cons r1 rr =>
  cases rr with
  | cons r2 rr =>
   cases rr
   cases r2
   exact rE I r1 ty e fun tk => ⟨.bl b, H, I.tok _, rfl, q⟩
theorem Vals.bools : ∀ {bs : List Bool} {us : List Value}, Vals (bs.map V.bl) us -> LSm.BoolsAre us bs
 | [], _, .nil => .nil
 | _ :: _, _, .cons r t => by
  cases r
  exact .cons _ (Vals.bools t)
theorem su (hc : X.calm = true) : CallR X (.builtin "all") (fun xs H Q => ∃ (a : Addr) (bs : List Bool), xs = [.ref a] /\ SqL X.K H a (bs.map V.bl) /\ Q (.bl (bs.all id)) H) := by
 intro pins s σ H xs us Q I r h
 obtain ⟨a, bs, rfl, hq, q⟩ := h
 cases r with
 | cons r1 rr =>
  cases rr
  cases r1
  obtain ⟨its, rv, p, hz⟩ := I.list hq
  have hl := p.isList
  have hb := rv.bools
  have hlt : a < s.heap.objs.size := by obtain ⟨_, e, _⟩ := hl; exact Heap.lt_size e
  refine call_all_walk (wpAny_pyIter_list hl ?_)
  refine ⟨s.heap.objs.size, [s.heap.objs.size, a], [s.heap.objs.size], its.toArray.size, _, _, fun i => (bs[i]?).getD true, rfl, Walks.list (A := X.A.in1) (I.ok.hd hc) _ a (Nat.ne_of_lt hlt) its.toArray,
   ⟨⟨_, Heap.get?_push_size _ rfl, rfl, rfl⟩, hl.push _⟩, fun i v s' Q' E' hP hQ => ?_, fun h' tk hk => ?_⟩
  ·obtain ⟨b, e, rfl⟩ := hb.get i v (by simpa using hP)
   simp only [e, Option.getD_some] at hQ
   exact wpAny_truthy_bool hQ
  ·have e : ((List.range its.toArray.size).all fun i => (bs[i]?).getD true) = bs.all id := by
    rw [List.size_toArray, hb.length]; exact LSm.range_all bs
   rw [e]
   exact ⟨.bl (bs.all id), H, I.kept (LSm.kept_iter hk), rfl, q⟩
theorem tR (hc : X.calm = true) : CallR X (.builtin "any") (fun xs H Q => ∃ (a : Addr) (bs : List Bool), xs = [.ref a] /\ SqL X.K H a (bs.map V.bl) /\ Q (.bl (bs.any id)) H) := by
 intro pins s σ H xs us Q I r h
 obtain ⟨a, bs, rfl, hq, q⟩ := h
 cases r with
 | cons r1 rr =>
  cases rr
  cases r1
  obtain ⟨its, rv, p, hz⟩ := I.list hq
  have hl := p.isList
  have hb := rv.bools
  have hlt : a < s.heap.objs.size := by obtain ⟨_, e, _⟩ := hl; exact Heap.lt_size e
  refine call_any_walk (wpAny_pyIter_list hl ?_)
  refine ⟨s.heap.objs.size, [s.heap.objs.size, a], [s.heap.objs.size], its.toArray.size, _, _, fun i => (bs[i]?).getD false, rfl, Walks.list (A := X.A.in1) (I.ok.hd hc) _ a (Nat.ne_of_lt hlt) its.toArray,
   ⟨⟨_, Heap.get?_push_size _ rfl, rfl, rfl⟩, hl.push _⟩, fun i v s' Q' E' hP hQ => ?_, fun h' tk hk => ?_⟩
  ·obtain ⟨b, e, rfl⟩ := hb.get i v (by simpa using hP)
   simp only [e, Option.getD_some] at hQ
   exact wpAny_truthy_bool hQ
  ·have e : ((List.range its.toArray.size).any fun i => (bs[i]?).getD false) = bs.any id := by
    rw [List.size_toArray, hb.length]; exact LSm.range_any bs
   rw [e]
   exact ⟨.bl (bs.any id), H, I.kept (LSm.kept_iter hk), rfl, q⟩
theorem Vals.ints : ∀ {ns : List Int} {us : List Value}, Vals (ns.map V.int) us -> IntsAre us ns
 | [], _, .nil => .nil
 | _ :: _, _, .cons r t => by
  obtain ⟨tk, rfl⟩ := r
  exact .cons _ _ (Vals.ints t)
def ye : List Int -> Int
 | [] => 0
 | x :: r => r.foldl (fun a b => if a < b then b else a) x
def xW : List Int -> Int
 | [] => 0
 | x :: r => r.foldl (fun a b => if b < a then b else a) x
end
inductive D where
 | non | bl (b : Bool) | int (i : Int) | str (x : Str) | tup (ds : List D) | lst (ds : List D)
mutual
def Rep (K : PySem.W.Frag) (H : Hp) : D -> V -> Prop
 | .non, v => v = .non
 | .bl b, v => v = .bl b
 | .int i, v => v = .int i
 | .str x, v => v = .str x
 | .tup ds, v => ∃ a vs, v = .ref a /\ SqT K H a vs /\ Reps K H ds vs
 | .lst ds, v => ∃ a vs, v = .ref a /\ SqL K H a vs /\ Reps K H ds vs
def Reps (K : PySem.W.Frag) (H : Hp) : List D -> List V -> Prop
 | [], vs => vs = []
 | d :: ds, vs => ∃ v r, vs = v :: r /\ Rep K H d v /\ Reps K H ds r
end
theorem SqT.mono {K : PySem.W.Frag} {H H' : Hp} {a : Addr} {vs : List V} (e : Same H H') (h : SqT K H a vs) : SqT K H' a vs := by
 rcases h with h | h
 ·rcases h with h | ⟨o, h⟩
  ·exact .inl (.inl (e _ _ h))
  ·exact .inl (.inr ⟨o, e _ _ h⟩)
 ·exact .inr h
mutual
theorem Rep.mono {K : PySem.W.Frag} {H H' : Hp} (e : Same H H') : ∀ {d : D} {v : V}, Rep K H d v -> Rep K H' d v
 | .non, _, h => h
 | .bl _, _, h => h
 | .int _, _, h => h
 | .str _, _, h => h
 | .tup ds, _, h => by
  unfold Rep at h ⊢
  obtain ⟨a, vs, h1, h2, h3⟩ := h
  exact ⟨a, vs, h1, h2.mono e, Reps.mono e h3⟩
 | .lst ds, _, h => by
  unfold Rep at h ⊢
  obtain ⟨a, vs, h1, h2, h3⟩ := h
  exact ⟨a, vs, h1, e.seq h2, Reps.mono e h3⟩
theorem Reps.mono {K : PySem.W.Frag} {H H' : Hp} (e : Same H H') : ∀ {ds : List D} {vs : List V}, Reps K H ds vs -> Reps K H' ds vs
 | [], _, h => h
 | d :: ds, _, h => by
  unfold Reps at h ⊢
  obtain ⟨v, r, h1, h2, h3⟩ := h
  exact ⟨v, r, h1, Rep.mono e h2, Reps.mono e h3⟩
end
mutual
def eqD : D -> D -> Bool
 | .non, .non => true
 | .bl a, .bl b => a == b
 | .int a, .int b => a == b
 | .str a, .str b => a == b
 | .tup a, .tup b => cZ a b
 | .lst a, .lst b => cZ a b
 | _, _ => false
def cZ : List D -> List D -> Bool
 | [], [] => true
 | a :: r, b :: t => eqD a b && cZ r t
 | _, _ => false
end
mutual
def bY : D -> D -> Bool
 | .non, .non => true
 | .bl _, .bl _ => true
 | .int _, .int _ => true
 | .str _, .str _ => true
 | .tup a, .tup b => bj a b
 | .lst a, .lst b => bj a b
 | _, _ => false
def bj : List D -> List D -> Bool
 | a :: r, b :: t => bY a b && bj r t
 | _, _ => true
end
mutual
def cC : D -> Nat
 | .tup ds => cj ds + 1
 | .lst ds => cj ds + 1
 | _ => 0
def cj : List D -> Nat
 | [] => 0
 | d :: r => max (cC d) (cj r)
end
theorem Reps.length {K : PySem.W.Frag} {H : Hp} : ∀ {ds : List D} {vs : List V}, Reps K H ds vs -> vs.length = ds.length
 | [], _, h => by unfold Reps at h; subst h; rfl
 | d :: ds, _, h => by
  unfold Reps at h
  obtain ⟨v, r, rfl, _, h3⟩ := h
  simp [Reps.length h3]
theorem Reps.get {K : PySem.W.Frag} {H : Hp} : ∀ {ds : List D} {vs : List V} {i : Nat} {v : V}, Reps K H ds vs -> vs[i]? = some v -> ∃ d, ds[i]? = some d /\ Rep K H d v
 | [], _, i, v, h, e => by unfold Reps at h; subst h; simp at e
 | d :: ds, _, 0, v, h, e => by
  unfold Reps at h
  obtain ⟨w, r, rfl, h2, _⟩ := h
  simp at e
  subst e
  exact ⟨d, rfl, h2⟩
 | d :: ds, _, i + 1, v, h, e => by
  unfold Reps at h
  obtain ⟨w, r, rfl, _, h3⟩ := h
  simpa using Reps.get (i := i) h3 (by simpa using e)
theorem Reps.at {K : PySem.W.Frag} {H : Hp} {ds : List D} {vs : List V} {i : Nat} {d : D} (h : Reps K H ds vs) (e : ds[i]? = some d) : ∃ v, vs[i]? = some v /\ Rep K H d v := by
 have hl := h.length
 have hi : i < vs.length := by rw [hl]; exact (List.getElem?_eq_some_iff.mp e).1
 obtain ⟨d', e', r⟩ := h.get (List.getElem?_eq_getElem hi)
 rw [e] at e'
 cases e'
 exact ⟨_, List.getElem?_eq_getElem hi, r⟩
theorem gM : ∀ {a b : List D} {i : Nat} {x y : D}, bj a b = true -> a[i]? = some x -> b[i]? = some y -> bY x y = true
 | [], _, i, x, y, _, e, _ => by simp at e
 | _ :: _, [], i, x, y, _, _, e => by simp at e
 | a :: r, b :: t, 0, x, y, h, e1, e2 => by
  unfold bj at h
  simp at e1 e2
  subst e1 e2
  exact (Bool.and_eq_true _ _ ▸ h).1
 | a :: r, b :: t, i + 1, x, y, h, e1, e2 => by
  unfold bj at h
  exact gM (i := i) (Bool.and_eq_true _ _ ▸ h).2 (by simpa using e1) (by simpa using e2)
theorem iK : ∀ {a : List D} {i : Nat} {x : D}, a[i]? = some x -> cC x <= cj a
 | [], i, x, e => by simp at e
 | d :: r, 0, x, e => by
  simp at e
  subst e
  unfold cj
  exact Nat.le_max_left _ _
 | d :: r, i + 1, x, e => by
  unfold cj
  exact Nat.le_trans (iK (i := i) (by simpa using e)) (Nat.le_max_right _ _)
def cP (a b : List D) (i : Nat) : Bool := match a[i]?, b[i]? with
 | some x, some y => eqD x y
 | _, _ => true
theorem gR : ∀ {a b : List D}, a.length = b.length -> (List.range a.length).all (cP a b) = cZ a b
 | [], [], _ => rfl
 | [], _ :: _, h => by simp at h
 | _ :: _, [], h => by simp at h
 | x :: r, y :: t, h => by
  have ih := gR (a := r) (b := t) (by simpa using h)
  rw [List.length_cons, List.range_succ_eq_map, List.all_cons, List.all_map]
  unfold cZ
  rw [<- ih]
  rfl
theorem ji : ∀ {a b : List D}, a.length ≠ b.length -> cZ a b = false
 | [], [], h => absurd rfl h
 | [], _ :: _, _ => rfl
 | _ :: _, [], _ => rfl
 | x :: r, y :: t, h => by
  unfold cZ
  rw [ji (a := r) (b := t) (by simpa using h), Bool.and_false]
section
variable {X : Cx} {pins : List (Addr × Obj)} {σ : St} {H : Hp} {s : Shared}
theorem jG (ds : List D) : cC (.tup ds) = cj ds + 1 := by unfold cC; rfl
theorem gq (ds : List D) : cC (.lst ds) = cj ds + 1 := by unfold cC; rfl
theorem nH (I : Inv X pins σ H s) (n : Nat) : ∀ {d e : D} {x : V}, cC d <= n -> bY d e = true -> Rep X.K H d x -> Rep X.K H e x -> eqD d e = true := by
 have flat : ∀ {d e : D} {x : V}, cC d = 0 -> bY d e = true -> Rep X.K H d x -> Rep X.K H e x -> eqD d e = true := by
  intro d e x hd hl r1 r2
  cases d with
  | tup ds => rw [jG] at hd; omega
  | lst ds => rw [gq] at hd; omega
  | non =>
   cases e <;> first | (exact absurd hl Bool.false_ne_true) | skip
   rfl
  | bl a =>
   cases e <;> first | (exact absurd hl Bool.false_ne_true) | skip
   unfold Rep at r1 r2
   rw [r1] at r2
   cases r2
   simp [eqD]
  | int a =>
   cases e <;> first | (exact absurd hl Bool.false_ne_true) | skip
   unfold Rep at r1 r2
   rw [r1] at r2
   cases r2
   simp [eqD]
  | str a =>
   cases e <;> first | (exact absurd hl Bool.false_ne_true) | skip
   unfold Rep at r1 r2
   rw [r1] at r2
   cases r2
   simp [eqD]
 have many : ∀ (m : Nat), (∀ {d e : D} {x : V}, cC d <= m -> bY d e = true -> Rep X.K H d x -> Rep X.K H e x -> eqD d e = true) -> ∀ {ds es : List D} {vs : List V}, cj ds <= m -> bj ds es = true -> Reps X.K H ds vs -> Reps X.K H es vs -> cZ ds es = true := by
  intro m ih ds
  induction ds with
  | nil =>
   intro es vs _ _ r1 r2
   cases es with
   | nil => rfl
   | cons e es =>
    unfold Reps at r1 r2
    obtain ⟨_, _, q, _⟩ := r2
    rw [r1] at q
    cases q
  | cons d ds ihl =>
   intro es vs hd hl r1 r2
   cases es with
   | nil =>
    unfold Reps at r1 r2
    obtain ⟨_, _, q, _⟩ := r1
    rw [r2] at q
    cases q
   | cons e es =>
    unfold Reps at r1 r2
    obtain ⟨v, r, q, a1, a2⟩ := r1
    obtain ⟨v', r', q', b1, b2⟩ := r2
    rw [q] at q'
    cases q'
    have hl' : (bY d e && bj ds es) = true := by unfold bj at hl; exact hl
    rw [Bool.and_eq_true] at hl'
    have hd' : max (cC d) (cj ds) <= m := by unfold cj at hd; exact hd
    show (eqD d e && cZ ds es) = true
    rw [ih (Nat.le_trans (Nat.le_max_left _ _) hd') hl'.1 a1 b1, ihl (Nat.le_trans (Nat.le_max_right _ _) hd') hl'.2 a2 b2]
    rfl
 induction n with
 | zero => intro d e x hd; exact flat (Nat.le_zero.mp hd)
 | succ n ih =>
  intro d e x hd hl r1 r2
  cases d with
  | non => exact flat rfl hl r1 r2
  | bl a => exact flat rfl hl r1 r2
  | int a => exact flat rfl hl r1 r2
  | str a => exact flat rfl hl r1 r2
  | tup ds =>
   cases e <;> first | (exact absurd hl Bool.false_ne_true) | skip
   rename_i es
   unfold Rep at r1 r2
   obtain ⟨a, vs, e1, q1, p1⟩ := r1
   obtain ⟨b, ws, e2, q2, p2⟩ := r2
   rw [e1] at e2
   cases e2
   have := I.tuple_inj q1 q2
   subst this
   rw [jG] at hd
   have hl' : bj ds es = true := by unfold bY at hl; exact hl
   exact many n ih (by omega) hl' p1 p2
  | lst ds =>
   cases e <;> first | (exact absurd hl Bool.false_ne_true) | skip
   rename_i es
   unfold Rep at r1 r2
   obtain ⟨a, vs, e1, q1, p1⟩ := r1
   obtain ⟨b, ws, e2, q2, p2⟩ := r2
   rw [e1] at e2
   cases e2
   have := I.list_inj q1 q2
   subst this
   rw [gq] at hd
   have hl' : bj ds es = true := by unfold bY at hl; exact hl
   exact many n ih (by omega) hl' p1 p2
theorem wB (I : Inv X pins σ H s) (n : Nat) : ∀ {d e : D} {x y : V} {u v : Value} {A : Around}, cC d <= n -> bY d e = true -> A.units + n < cLine -> Rep X.K H d x -> Rep X.K H e y -> RelV x u -> RelV y v ->
  SeqAt.EqAt A s u v (eqD d e) /\ SeqAt.RcAt A s u v (eqD d e) /\ SeqAt.RcNeAt A s u v (!eqD d e) := by
 induction n with
 | zero =>
  intro d e x y u v A hd hl hu r1 r2 v1 v2
  cases d with
  | tup ds => rw [jG] at hd; omega
  | lst ds => rw [gq] at hd; omega
  | non =>
   cases e <;> first | (exact absurd hl Bool.false_ne_true) | skip
   unfold Rep at r1 r2
   subst r1 r2
   cases v1; cases v2
   exact ⟨.same _, .none_none, .none_none⟩
  | bl a =>
   cases e <;> first | (exact absurd hl Bool.false_ne_true) | skip
   unfold Rep at r1 r2
   subst r1 r2
   cases v1; cases v2
   exact ⟨.bool_bool _ _, .bool_bool _ _, .bool_bool _ _⟩
  | int a =>
   cases e <;> first | (exact absurd hl Bool.false_ne_true) | skip
   unfold Rep at r1 r2
   subst r1 r2
   obtain ⟨t, rfl⟩ := v1
   obtain ⟨t', rfl⟩ := v2
   exact ⟨.int_int _ _ _ _, .int_int _ _ _ _, .int_int _ _ _ _⟩
  | str a =>
   cases e <;> first | (exact absurd hl Bool.false_ne_true) | skip
   unfold Rep at r1 r2
   subst r1 r2
   obtain ⟨t, rfl⟩ := v1
   obtain ⟨t', rfl⟩ := v2
   exact ⟨.str_str _ _ _ _, .str_str _ _ _ _, .str_str _ _ _ _⟩
 | succ n ih =>
  intro d e x y u v A hd hl hu r1 r2 v1 v2
  have hu0 : A.units < cLine := by omega
  have hu1 : A.in1.units + n < cLine := by show A.units + 1 + n < cLine; omega
  cases d with
  | non =>
   cases e <;> first | (exact absurd hl Bool.false_ne_true) | skip
   unfold Rep at r1 r2
   subst r1 r2
   cases v1; cases v2
   exact ⟨.same _, .none_none, .none_none⟩
  | bl a =>
   cases e <;> first | (exact absurd hl Bool.false_ne_true) | skip
   unfold Rep at r1 r2
   subst r1 r2
   cases v1; cases v2
   exact ⟨.bool_bool _ _, .bool_bool _ _, .bool_bool _ _⟩
  | int a =>
   cases e <;> first | (exact absurd hl Bool.false_ne_true) | skip
   unfold Rep at r1 r2
   subst r1 r2
   obtain ⟨t, rfl⟩ := v1
   obtain ⟨t', rfl⟩ := v2
   exact ⟨.int_int _ _ _ _, .int_int _ _ _ _, .int_int _ _ _ _⟩
  | str a =>
   cases e <;> first | (exact absurd hl Bool.false_ne_true) | skip
   unfold Rep at r1 r2
   subst r1 r2
   obtain ⟨t, rfl⟩ := v1
   obtain ⟨t', rfl⟩ := v2
   exact ⟨.str_str _ _ _ _, .str_str _ _ _ _, .str_str _ _ _ _⟩
  | tup ds =>
   cases e <;> first | (exact absurd hl Bool.false_ne_true) | skip
   rename_i es
   unfold Rep at r1 r2
   obtain ⟨a, vs, rfl, q1, p1⟩ := r1
   obtain ⟨b, ws, rfl, q2, p2⟩ := r2
   cases v1; cases v2
   obtain ⟨its1, rv1, t1, _⟩ := I.tuple q1
   obtain ⟨its2, rv2, t2, _⟩ := I.tuple q2
   have l1 : its1.length = ds.length := by rw [<- rv1.length, p1.length]
   have l2 : its2.length = es.length := by rw [<- rv2.length, p2.length]
   have hld : bj ds es = true := by unfold bY at hl; exact hl
   have he : ∀ j (h1 : j < its1.toArray.size) (h2 : j < its2.toArray.size), SeqAt.EqAt A.in1 s its1.toArray[j] its2.toArray[j] (cP ds es j) := fun j h1 h2 => by
    have h1' : j < its1.length := by simpa using h1
    have h2' : j < its2.length := by simpa using h2
    have j1 : j < vs.length := by rw [rv1.length]; exact h1'
    have j2 : j < ws.length := by rw [rv2.length]; exact h2'
    obtain ⟨d1, e1, r1⟩ := p1.get (List.getElem?_eq_getElem j1)
    obtain ⟨d2, e2, r2⟩ := p2.get (List.getElem?_eq_getElem j2)
    obtain ⟨u1, f1, s1⟩ := rv1.get (List.getElem?_eq_getElem j1)
    obtain ⟨u2, f2, s2⟩ := rv2.get (List.getElem?_eq_getElem j2)
    have g1 : its1.toArray[j] = u1 := by rw [List.getElem?_eq_getElem h1'] at f1; simpa using f1
    have g2 : its2.toArray[j] = u2 := by rw [List.getElem?_eq_getElem h2'] at f2; simpa using f2
    rw [g1, g2]
    have hq : cP ds es j = eqD d1 d2 := by unfold cP; rw [e1, e2]
    rw [hq]
    have hdd : cC d1 <= n := by
     rw [jG] at hd
     have := iK e1
     omega
    exact (ih hdd (gM hld e1 e2) hu1 r1 r2 s1 s2).1
   have hb : ((List.range (min its1.toArray.size its2.toArray.size)).all (cP ds es) && its1.toArray.size == its2.toArray.size) = eqD (.tup ds) (.tup es) := by
    show _ = cZ ds es
    rw [List.size_toArray, List.size_toArray, l1, l2]
    by_cases hq : ds.length = es.length
    ·rw [hq, Nat.min_self, <- hq, gR hq]
     simp
    ·rw [ji hq]
     simp [hq]
   have R := SeqAt.RcAt.tuples (A := A) (e := cP ds es) (show s.heap.IsTuple a its1.toArray from t1) (show s.heap.IsTuple b its2.toArray from t2) hu0 he
   have R' := SeqAt.RcNeAt.tuples (A := A) (e := cP ds es) (show s.heap.IsTuple a its1.toArray from t1) (show s.heap.IsTuple b its2.toArray from t2) hu0 he
   rw [hb] at R R'
   refine ⟨?_, R, R'⟩
   by_cases hab : a = b
   ·subst hab
    have hs : eqD (.tup ds) (.tup es) = true := nH I (n + 1) hd hl (show Rep X.K H (.tup ds) (.ref a) by unfold Rep; exact ⟨a, vs, rfl, q1, p1⟩) (show Rep X.K H (.tup es) (.ref a) by unfold Rep; exact ⟨a, ws, rfl, q2, p2⟩)
    rw [hs]
    exact .same _
   ·exact .of_refs hab R
  | lst ds =>
   cases e <;> first | (exact absurd hl Bool.false_ne_true) | skip
   rename_i es
   unfold Rep at r1 r2
   obtain ⟨a, vs, rfl, q1, p1⟩ := r1
   obtain ⟨b, ws, rfl, q2, p2⟩ := r2
   cases v1; cases v2
   obtain ⟨its1, rv1, t1, _⟩ := I.list q1
   obtain ⟨its2, rv2, t2, _⟩ := I.list q2
   have l1 : its1.length = ds.length := by rw [<- rv1.length, p1.length]
   have l2 : its2.length = es.length := by rw [<- rv2.length, p2.length]
   have hld : bj ds es = true := by unfold bY at hl; exact hl
   have he : ∀ j (h1 : j < its1.toArray.size) (h2 : j < its2.toArray.size), SeqAt.EqAt A.in1 s its1.toArray[j] its2.toArray[j] (cP ds es j) := fun j h1 h2 => by
    have h1' : j < its1.length := by simpa using h1
    have h2' : j < its2.length := by simpa using h2
    have j1 : j < vs.length := by rw [rv1.length]; exact h1'
    have j2 : j < ws.length := by rw [rv2.length]; exact h2'
    obtain ⟨d1, e1, r1⟩ := p1.get (List.getElem?_eq_getElem j1)
    obtain ⟨d2, e2, r2⟩ := p2.get (List.getElem?_eq_getElem j2)
    obtain ⟨u1, f1, s1⟩ := rv1.get (List.getElem?_eq_getElem j1)
    obtain ⟨u2, f2, s2⟩ := rv2.get (List.getElem?_eq_getElem j2)
    have g1 : its1.toArray[j] = u1 := by rw [List.getElem?_eq_getElem h1'] at f1; simpa using f1
    have g2 : its2.toArray[j] = u2 := by rw [List.getElem?_eq_getElem h2'] at f2; simpa using f2
    rw [g1, g2]
    have hq : cP ds es j = eqD d1 d2 := by unfold cP; rw [e1, e2]
    rw [hq]
    have hdd : cC d1 <= n := by
     rw [gq] at hd
     have := iK e1
     omega
    exact (ih hdd (gM hld e1 e2) hu1 r1 r2 s1 s2).1
   have R2 : SeqAt.RcAt A s (.ref a) (.ref b) (eqD (.lst ds) (.lst es)) /\ SeqAt.RcNeAt A s (.ref a) (.ref b) (!eqD (.lst ds) (.lst es)) := by
    by_cases hq : ds.length = es.length
    ·have hsz : its1.toArray.size = its2.toArray.size := by rw [List.size_toArray, List.size_toArray, l1, l2, hq]
     have hb : (List.range its1.toArray.size).all (cP ds es) = eqD (.lst ds) (.lst es) := by
      show _ = cZ ds es
      rw [List.size_toArray, l1, gR hq]
     have R := SeqAt.RcAt.lists (A := A) (e := cP ds es) t1.isList t2.isList hsz hu0 he
     have R' := SeqAt.RcNeAt.lists (A := A) (e := cP ds es) t1.isList t2.isList hsz hu0 he
     rw [hb] at R R'
     exact ⟨R, R'⟩
    ·have hsz : (its1.toArray.size != its2.toArray.size) = true := by
      rw [List.size_toArray, List.size_toArray, l1, l2]
      simpa using hq
     have hb : eqD (.lst ds) (.lst es) = false := ji hq
     rw [hb]
     exact ⟨SeqAt.RcAt.lists_lengths t1.isList t2.isList hsz hu0, SeqAt.RcNeAt.lists_lengths t1.isList t2.isList hsz hu0⟩
   obtain ⟨R, R'⟩ := R2
   refine ⟨?_, R, R'⟩
   by_cases hab : a = b
   ·subst hab
    have hs : eqD (.lst ds) (.lst es) = true := nH I (n + 1) hd hl (show Rep X.K H (.lst ds) (.ref a) by unfold Rep; exact ⟨a, vs, rfl, q1, p1⟩) (show Rep X.K H (.lst es) (.ref a) by unfold Rep; exact ⟨a, ws, rfl, q2, p2⟩)
    rw [hs]
    exact .same _
   ·exact .of_refs hab R
def zN (K : PySem.W.Frag) : R2 := fun x y H Q => ∃ d e, Rep K H d x /\ Rep K H e y /\ bY d e = true /\ cC d <= 40 /\ Q (.bl (eqD d e)) H
def vA (K : PySem.W.Frag) : R2 := fun x y H Q => ∃ d e, Rep K H d x /\ Rep K H e y /\ bY d e = true /\ cC d <= 40 /\ Q (.bl (!eqD d e)) H
theorem wk (hu : X.A.units + 64 < cLine) : OpR X (compareOp .NotEq) (vA X.K) := by
 intro pins s σ H x y v u Q I rx ry h
 obtain ⟨d, e, r1, r2, hl, hd, q⟩ := h
 exact (wB I 40 hd hl (by omega) r1 r2 rx ry).2.2 X.prog X.w X.xe _ ⟨.bl (!eqD d e), H, I, rfl, q⟩
end
mutual
theorem gG : ∀ d : D, eqD d d = true
 | .non => rfl
 | .bl b => by simp [eqD]
 | .int i => by simp [eqD]
 | .str x => by simp [eqD]
 | .tup ds => by
  show cZ ds ds = true
  exact iB ds
 | .lst ds => by
  show cZ ds ds = true
  exact iB ds
theorem iB : ∀ ds : List D, cZ ds ds = true
 | [] => rfl
 | d :: r => by
  show (eqD d d && cZ r r) = true
  rw [gG d, iB r]
  rfl
end
end L2
set_option Elab.async false
set_option linter.all false
set_option maxRecDepth 100000
namespace L2
open PySem PySem.Spec PyProof.Rows
theorem bI : bootBuiltins "len" = some (.builtin "len") := by decide +kernel
theorem aO : bootBuiltins "isinstance" = some (.builtin "isinstance") := by decide +kernel
theorem dU : bootBuiltins "all" = some (.builtin "all") := by decide +kernel
theorem vQ : bootBuiltins "any" = some (.builtin "any") := by decide +kernel
theorem iw : bootBuiltins "int" = some (.type "int") := by decide +kernel
theorem pR : bootBuiltins "bool" = some (.type "bool") := by decide +kernel
theorem jq : bootBuiltins "str" = some (.type "str") := by decide +kernel
theorem eY : bootBuiltins "list" = some (.type "list") := by decide +kernel
theorem ifP {c A B : Prop} [Decidable c] (hc : c) (h : A) : if c then A else B := by
 rw [if_pos hc]
 exact h
theorem ifN {c A B : Prop} [Decidable c] (hc : ¬ c) (h : B) : if c then A else B := by
 rw [if_neg hc]
 exact h
theorem aj {env : Env} {es : List Expr} {a b} : starEach (.Name a b :: es) env = (false, eval (.Name a b) env) :: starEach es env := rfl
theorem ak {env : Env} {es : List Expr} {a b c} : starEach (.Constant a b c :: es) env = (false, eval (.Constant a b c) env) :: starEach es env := rfl
theorem aY {env : Env} {es : List Expr} {a b c} : starEach (.Subscript a b c :: es) env = (false, eval (.Subscript a b c) env) :: starEach es env := rfl
theorem bV {env : Env} {es : List Expr} {a b c d} : starEach (.BinOp a b c d :: es) env = (false, eval (.BinOp a b c d) env) :: starEach es env := rfl
theorem dH {env : Env} {es : List Expr} {a b c d} : starEach (.Call a b c d :: es) env = (false, eval (.Call a b c d) env) :: starEach es env := rfl
theorem aJ {env : Env} {es : List Expr} {a b c d} : starEach (.ListComp a b c d :: es) env = (false, eval (.ListComp a b c d) env) :: starEach es env := rfl
theorem km {env : Env} {es : List Expr} {a b} : starEach (.List a b :: es) env = (false, eval (.List a b) env) :: starEach es env := rfl
theorem jz {env : Env} {es : List Expr} {a b c d} : starEach (.Compare a b c d :: es) env = (false, eval (.Compare a b c d) env) :: starEach es env := rfl
theorem m8 {i : Nat} {v : V} {σ : St} {H : Hp} {A B : St -> Hp -> Prop} (h : A (σ.set i (some v)) H) : eO i v σ H fun σ2 H2 => kj σ2 H2 fun b H3 => if b = true then A σ2 H3 else B σ2 H3 := by
 show (if true = true then A (σ.set i (some v)) H else B (σ.set i (some v)) H)
 exact bx h
structure FunM (K : PySem.W.Frag) (mg : Str -> Option Value) (x : Str) (st : Stmt) (ps : List Str) : Prop where
 ex : ∃ f fd, Fun K x x st f fd /\ mg x = some (.ref f) /\ Binds K fd ps []
structure Def (P : Program) (w : World) (K : PySem.W.Frag) (mg : Str -> Option Value) (base : Heap) (x : Str) (ps : List Str) (k : Nat) (sp : Sp) : Prop where
 ex : ∃ f fd, FnOk P w K mg base CX0 k f fd ps sp /\ mg x = some (.ref f) /\ PySem.W.keepIn K (.ref f) = true /\ Binds K fd ps []
section
variable {P : Program} {w : World} {K : PySem.W.Frag} {mg : Str -> Option Value} {base : Heap}
theorem Def.of {x : Str} {st : Stmt} {N ps : List Str} {k : Nat} {sp : Sp} (F : FunM K mg x st ps) (S : FnScope N ps (aG st)) (len : ∀ vs H Q E, sp vs H Q E -> vs.length = ps.length)
  (hbody : ∀ (f : Addr) (cdv : Value) (A : Around) (outer : List Env) (s : Shared) (H : Hp) (vs : List V) (Q : VK) (E : XK), Room k (A.deeper (envOfC x (aG st) s.heap.objs.size f cdv)) -> sp vs H Q E ->
   ∃ t, PSs (bD CX0 P w K mg base N x (aG st) f cdv A outer s H E).nox (bJ st) t /\ t { nx := fun _ H' => Q .non H', rt := Q } (start N vs) H) : Def P w K mg base x ps (k + 1) sp := by
 obtain ⟨f, fd, F1, hm, hb⟩ := F.ex
 exact ⟨f, fd, F1.ok S len (hbody f), hm, F1.kp, hb⟩
end
theorem aR {X : Cx} {x : Str} {ps : List Str} {k : Nat} {sp : Sp} {p pos : Pos} {e : Expr} {es : List Expr} {t : TA} (D : Def X.prog X.w X.K X.mg X.base x ps k sp) (hr : Room k X.A) (hg : Gl X x) (ha : PA X (e :: es) t)
  (hdb : (x == ("__debug__" : Str)) = false := by decide)
  (he : starEach (e :: es) X.env = (false, eval e X.env) :: starEach es X.env := by rfl) (hpl : (backTo pos (starEach es X.env)).any (·.1) = false := by rfl) : PE X (.Call (.Name x p) (e :: es) [] pos) (jH sp [] E0 t) := by
 obtain ⟨f, fd, F, hm, hk, hb⟩ := D.ex
 exact qb F hr hg hm hk hb .nil uv ha hdb he hpl
theorem fun_m {K : PySem.W.Frag} {h : Heap} {mg : Str -> Option Value} (X : K.In h) (G : h.Ns mainGlobals mg) {x : Str} {st : Stmt} {ps : List Str} {f : Addr} {oc : Value} {od an : Option Addr} {osl : Array (Option Value)} {kV doc pm cdv ct : Value}
  (a : PySem.W.nsIn K mainGlobals x = some (some (.ref f)))
  (l : K.lookup f = some ⟨oc, od, .func (PySem.W.fnOf x x (dj st) (bJ st) (aG st) .none kV doc pm an cdv ct), osl⟩) (c : PySem.W.codeIn K cdv x = true) (k : PySem.W.keepIn K (.ref f) = true)
  (b : ∀ (kV doc pm : Value) (an : Option Addr) (cdv ct : Value) (us : List Value), us.length = ps.length -> bindArgs (PySem.W.fnOf x x (dj st) (bJ st) (aG st) .none kV doc pm an cdv ct) ⟨us, []⟩ = pure (ps.zip us)) : FunM K mg x st ps := by
 have F := rB (st := st) l c k
 exact ⟨f, _, F, PySem.W.mg_of X G a, F.binds b⟩
end L2
set_option Elab.async false
set_option linter.all false
set_option maxRecDepth 100000
namespace L2
open PySem PySem.Spec PyProof.Rows
section
variable {X : Cx} {pins : List (Addr × Obj)} {σ : St} {H : Hp} {s : Shared}
theorem Inv.turnedL {t' : Nat} {ch : List Addr} {h' : Heap} (I : Inv X pins σ H s) (k : ∀ b o, b ∉ ch -> s.heap.get? b = some o -> h'.get? b = some o) (f : ∀ b ∈ ch, bW X pins H b) : Inv X pins σ H { s with heap := h', toks := t' } := by
 have nit : ∀ b u, H b = some u -> b ∉ ch := fun b u e z => by rw [(f b z).1] at e; cases e
 refine I.step (g' := s.gens) (d' := s.drawn) (ch := ch) (fun b hb => ⟨(f b hb).2.2.2.1, (f b hb).2.1, (f b hb).2.2.2.2.1, (f b hb).2.2.2.2.2⟩) (fun b o _ _ hc e _ => k b o hc e) (fun b o _ _ hc e _ => ⟨o.slots, k b o hc e⟩) (fun _ _ _ _ n => n)
  (fun b o hc e => ⟨o, k b o hc e⟩) (fun _ _ e => e) (fun _ _ _ e => e) (fun b ps e => ⟨#[], by rw [e]; simp⟩) (fun m hm => ?_) (fun b u e => ?_) I.bare
 ·obtain ⟨o, es, ep, ho, r⟩ := hm
  exact ⟨o, es, ep, k _ o (fun z => (f _ z).2.1 rfl) ho, r⟩
 ·refine (I.hok b u e).stay (fun c v hc q => k c v ?_ q) (fun _ q => q) fun _ _ q => q
  rcases hc with z | z
  ·rw [z]; exact nit b u e
  ·exact nit c _ z
end
def Itz (K : PySem.W.Frag) (a b : Addr) : It :=
  ⟨fun i H => ∃ xs ys x y, SqL K H a xs /\ SqL K H b ys /\ xs[i]? = some x /\ ys[i]? = some y,
   fun i H v H' => ∃ p x y, v = .ref p /\ H p = none /\ H' = upd H p (.tup [x, y]) /\ (∀ xs, SqL K H a xs -> xs[i]? = some x) /\ (∀ ys, SqL K H b ys -> ys[i]? = some y),
   fun i H => ∃ xs ys, SqL K H a xs /\ SqL K H b ys /\ (xs.length <= i \/ ys.length <= i)⟩
theorem cB {h : Heap} {l c : Addr} {its : Array Value} {o : Obj} {n : String} (hl : h.IsList l its) (hc : h.get? c = some o) (hn : o.cls = .type n) (hd : n ≠ "list") : l ≠ c := by
 rintro rfl
 obtain ⟨q, e, e2, _⟩ := hl
 rw [hc] at e
 cases e
 rw [hn] at e2
 injection e2 with e3
 exact hd e3
theorem t8 {P : Program} {w : World} {K : PySem.W.Frag} {es : List Expr} {k1 : _} {tp : Pos} (a b z TI TO i1 i2 : Addr) (hap : z ≠ TI /\ z ≠ TO /\ z ≠ i1 /\ z ≠ i2 /\ TI ≠ TO /\ TI ≠ i1 /\ TI ≠ i2 /\ TO ≠ i1 /\ TO ≠ i2 /\ i1 ≠ i2) :
  Turn P w K (.Tuple es k1 tp) (Itz K a b) [z, TI, TO, i1, i2] z (fun i h => IsZip h z TI TO .none /\ IsPair h TI (.ref i1) (.ref i2) /\ (∃ x y, IsPair h TO x y) /\ h.IsListIter i1 a i /\ h.IsListIter i2 b i) where
 mem := by simp
 obj := fun i h st c hc => by
  obtain ⟨hz, hTI, ⟨x, y, hTO⟩, h1, h2⟩ := st
  simp only [List.mem_cons, List.not_mem_nil, or_false] at hc
  rcases hc with e | e | e | e | e
  ·subst e; exact ⟨_, hz, fun v z => by simp at z⟩
  ·subst e; exact ⟨_, hTI, fun v z => by simp at z⟩
  ·subst e; exact ⟨_, hTO, fun v z => by simp at z⟩
  ·subst e; obtain ⟨o, e, _, d⟩ := h1; exact ⟨o, e, fun v z => by rw [d] at z; cases z⟩
  ·subst e; obtain ⟨o, e, _, d⟩ := h2; exact ⟨o, e, fun v z => by rw [d] at z; cases z⟩
 keep := fun i h h' st k => by
  obtain ⟨hz, hTI, ⟨x, y, hTO⟩, h1, h2⟩ := st
  exact ⟨k z (by simp) _ hz, k TI (by simp) _ hTI, ⟨x, y, k TO (by simp) _ hTO⟩, h1.at fun o e => k i1 (by simp) o e, h2.at fun o e => k i2 (by simp) o e⟩
 item := by
  intro X hP hw hK hc i pins s σ H E I hf st hg
  subst hP hw hK
  obtain ⟨xs, ys, x, y, q1, q2, hx, hy⟩ := hg
  obtain ⟨hz, hTI, ⟨u0, v0, hTO⟩, h1, h2⟩ := st
  obtain ⟨its1, rv1, p1, _⟩ := I.list q1
  obtain ⟨its2, rv2, p2, _⟩ := I.list q2
  obtain ⟨u, hu, ru⟩ := rv1.get hx
  obtain ⟨v, hv, rv⟩ := rv2.get hy
  obtain ⟨a1, a2, a3, a4, a5, a6, a7, a8, a9, a10⟩ := hap
  have l1 := p1.isList
  have l2 := p2.isList
  have ni : ∀ {l c c' : Addr} {its : Array Value} {j : Nat}, s.heap.IsList l its -> s.heap.IsListIter c c' j -> l ≠ c := fun hl hit => by
   obtain ⟨o, e, e2, _⟩ := hit
   exact cB hl e e2 (by decide)
  have D : ZipApart z TI TO i1 i2 a b := ⟨a1.symm, a2.symm, a3.symm, a4.symm, a5, a6, a7, a8, a9, a10, cB l1 hz rfl (by decide), cB l1 hTO rfl (by decide), ni l1 h1, ni l1 h2, cB l2 hz rfl (by decide), cB l2 hTO rfl (by decide), ni l2 h1, ni l2 h2⟩
  refine wpAny_pyNext_zip_item D hz hTI hTO h1 h2 l1 l2 (by simpa using hu) (by simpa using hv) fun h' b1 b2 b3 b4 b5 b6 b7 => ?_
  refine ⟨_, rfl, wpAny_letOwnedTupleGo_zip b1 fun h'' c1 c2 => ?_⟩
  have kk : ∀ c o, c ∉ [z, TI, TO, i1, i2] -> s.heap.get? c = some o -> h''.get? c = some o := fun c o hc e => by
   simp only [List.mem_cons, List.not_mem_nil, or_false, not_or] at hc
   exact c2.extBut c o hc.1 (b7 c o hc.1 hc.2.2.1 hc.2.2.2.1 hc.2.2.2.2 e)
  have I1 : Inv X pins σ H { s with heap := h'' } := I.turnedL (t' := s.toks) kk hf
  have hzlt : z < s.heap.objs.size := Heap.lt_size hz
  have ht : h''.get? s.heap.objs.size = some { cls := .type "tuple", data := .seq #[u, v] } := c2.extBut _ _ (Nat.ne_of_gt hzlt) b5
  have hn : H s.heap.objs.size = none := I.hok.fresh (Nat.le_refl _)
  have ftr : bW X pins H s.heap.objs.size := I.fpOk (Nat.le_refl _) hn
  have lt : ∀ {c o}, s.heap.get? c = some o -> c ≠ s.heap.objs.size := fun e => Nat.ne_of_lt (Heap.lt_size e)
  refine ⟨.ref s.heap.objs.size, upd H s.heap.objs.size (.tup [x, y]), I1.track ftr ⟨by show 2 <= sizeLine; decide, [u, v], .cons ru (.cons rv .nil), ⟨_, ht, rfl, _, rfl⟩⟩, rfl,
   ⟨_, x, y, rfl, hn, rfl, fun zs hq => by rw [I.list_inj hq q1]; exact hx, fun zs hq => by rw [I.list_inj hq q2]; exact hy⟩,
   ⟨c1, c2.extBut _ _ a1.symm (b7 _ _ a1.symm a5 a6 a7 hTI), ⟨u, v, c2.extBut _ _ a2.symm b2⟩, b3.extBut c2.extBut a3.symm, b4.extBut c2.extBut a4.symm⟩, fun c hc => ?_⟩
  rw [aH]
  ·exact (hf c hc).1
  ·simp only [List.mem_cons, List.not_mem_nil, or_false] at hc
   obtain ⟨o1, e1, _⟩ := h1
   obtain ⟨o2, e2, _⟩ := h2
   rcases hc with e | e | e | e | e
   ·subst e; exact lt hz
   ·subst e; exact lt hTI
   ·subst e; exact lt hTO
   ·subst e; exact lt e1
   ·subst e; exact lt e2
 done := by
  intro X hP hw hK hc i pins s σ H E I hf st hg
  subst hP hw hK
  obtain ⟨xs, ys, q1, q2, hend⟩ := hg
  obtain ⟨hz, hTI, ⟨u0, v0, hTO⟩, h1, h2⟩ := st
  obtain ⟨its1, rv1, p1, _⟩ := I.list q1
  obtain ⟨its2, rv2, p2, _⟩ := I.list q2
  obtain ⟨a1, a2, a3, a4, a5, a6, a7, a8, a9, a10⟩ := hap
  have l1 := p1.isList
  have l2 := p2.isList
  have ni : ∀ {l c c' : Addr} {its : Array Value} {j : Nat}, s.heap.IsList l its -> s.heap.IsListIter c c' j -> l ≠ c := fun hl hit => by
   obtain ⟨o, e, e2, _⟩ := hit
   exact cB hl e e2 (by decide)
  have D : ZipApart z TI TO i1 i2 a b := ⟨a1.symm, a2.symm, a3.symm, a4.symm, a5, a6, a7, a8, a9, a10, cB l1 hz rfl (by decide), cB l1 hTO rfl (by decide), ni l1 h1, ni l1 h2, cB l2 hz rfl (by decide), cB l2 hTO rfl (by decide), ni l2 h1, ni l2 h2⟩
  have e1 := rv1.length
  have e2 := rv2.length
  refine wpAny_pyNext_zip_end (I.ok.hd hc) D hz hTI hTO h1 h2 l1 l2 (by
   rcases hend with h | h
   ·left; simp; omega
   ·right; simp; omega) fun h' kk => ⟨rfl, ?_⟩
  exact I.turnedL (t' := s.toks) (fun c o hc e => by
   simp only [List.mem_cons, List.not_mem_nil, or_false, not_or] at hc
   exact kk c o hc.1 hc.2.2.1 hc.2.2.2.1 hc.2.2.2.2 e) hf
 self := fun _ _ _ _ _ st h => wpAny_pyIter_zip st.1 h
def vz (K : PySem.W.Frag) (ta : TA) : TI := fun σ H R => ta σ H fun vs H1 => ∃ a b, vs = [.ref a, .ref b] /\ (∃ xs, SqL K H1 a xs) /\ (∃ ys, SqL K H1 b ys) /\ R (Itz K a b) H1
theorem vf {X : Cx} {es : List Expr} {k1 : _} {tp : Pos} {a b : Expr} {ta : TA} {p pos : Pos} (hg : Gl X "zip") (hm : X.mg "zip" = none) (ha : PA X [a, b] ta) (hs : starEach [a, b] X.env = [(false, eval a X.env), (false, eval b X.env)] := by rfl) (hs2 : starEach [b] X.env = [(false, eval b X.env)] := by rfl) :
  PI X (.Tuple es k1 tp) (.Call (.Name "zip" p) [a, b] [] pos) (vz X.K ta) := by
 intro pins s σ H R I h
 refine Call_ (gk I hg hm boot_zip (PyProof.Rows.callWith_type1 (thn (ha pos pins s σ H _ I h) fun us s1 ⟨vs, H1, I1, r1, q1⟩ => ?_) (by rw [hs, hs2]) (by rw [hs2]; rfl)))
 obtain ⟨l1, l2, e, ⟨xs, hx⟩, ⟨ys, hy⟩, q⟩ := q1
 subst e
 cases r1 with
 | cons r rr =>
  cases rr with
  | cons r' rr =>
   cases rr
   cases r
   cases r'
   obtain ⟨its1, rv1, p1, _⟩ := I1.list hx
   obtain ⟨its2, rv2, p2, _⟩ := I1.list hy
   refine call_zip_2 p1.isList p2.isList fun h' c1 c2 c3 c4 c5 c6 c7 => ?_
   have I2 : Inv X pins σ H1 { s1 with heap := h' } := I1.kept (t' := s1.toks) c7
   refine wpAny_pyIter_zip (s := { s1 with heap := h' }) c1 ?_
   refine ⟨_, _, _, _, H1, rfl, I2, t8 l1 l2 _ (s1.heap.objs.size + 2) (s1.heap.objs.size + 3) s1.heap.objs.size (s1.heap.objs.size + 1) ?_, ⟨c1, c2, ⟨_, _, c3⟩, c4, c5⟩, fun c hc => ?_, q⟩
   ·refine ⟨?_, ?_, ?_, ?_, ?_, ?_, ?_, ?_, ?_, ?_⟩ <;> (intro z; have z' : (_ : Nat) = _ := z; omega)
   ·simp only [List.mem_cons, List.not_mem_nil, or_false] at hc
    have hle : s1.heap.objs.size <= c := by
     rcases hc with e | e | e | e | e <;> (subst e; first | exact Nat.le_refl _ | exact Nat.le_add_right _ _)
    exact I1.fpOk hle (I1.hok.fresh hle)
theorem sW {K : PySem.W.Frag} {a b : Addr} {xs ys : List V} {g : TG} {tt : TT} {te : TE} {σc : St} {H : Hp} {Fin : List V -> Hp -> Prop} (Pv : Nat -> List V -> Hp -> Prop) (h0 : Pv 0 [] H) (hl : ∀ i zs H, Pv i zs H -> SqL K H a xs /\ SqL K H b ys /\ zs.length <= i) (hz : xs.length <= sizeLine)
  (hs : ∀ i x y p zs H, xs[i]? = some x -> ys[i]? = some y -> H p = none -> Pv i zs H -> g (.ref p) σc (upd H p (.tup [x, y])) fun σ2 H2 => tt σ2 H2 fun b H3 => if b = true then te σ2 H3 fun y H4 => Pv (i + 1) (zs ++ [y]) H4 else Pv (i + 1) zs H3)
  (hd : ∀ zs H, Pv (min xs.length ys.length) zs H -> Fin zs H) : cV (Itz K a b) g tt te σc H Fin := by
 refine ⟨fun i m zs H => m = min xs.length ys.length - i /\ i <= min xs.length ys.length /\ Pv i zs H, ⟨_, rfl, Nat.zero_le _, h0⟩, ?_⟩
 rintro i m zs H ⟨rfl, hi, p⟩
 obtain ⟨q1, q2, hy⟩ := hl i zs H p
 by_cases hlt : i < min xs.length ys.length
 ·have h1 : i < xs.length := by omega
  have h2 : i < ys.length := by omega
  refine .inr ⟨⟨xs, ys, xs[i], ys[i], q1, q2, by simp [h1], by simp [h2]⟩, by omega, Pv (i + 1), fun ys' H' p' => ⟨min xs.length ys.length - (i + 1), by omega, rfl, hlt, p'⟩, fun x H' y => ?_⟩
  obtain ⟨r, u, v, rfl, hn, rfl, e1, e2⟩ := y
  exact hs i u v r zs H (e1 xs q1) (e2 ys q2) hn p
 ·have e : i = min xs.length ys.length := by omega
  subst e
  exact .inl ⟨⟨xs, ys, q1, q2, by omega⟩, hd zs H p⟩
def Ite (K : PySem.W.Frag) (a : Addr) : It :=
  ⟨fun i H => ∃ xs x, SqL K H a xs /\ xs[i]? = some x,
   fun i H v H' => ∃ p x, v = .ref p /\ H p = none /\ H' = upd H p (.tup [.int i, x]) /\ (∀ xs, SqL K H a xs -> xs[i]? = some x),
   fun i H => ∃ xs, SqL K H a xs /\ xs.length <= i⟩
def yW (K : PySem.W.Frag) (ta : TA) : TI := fun σ H R => ta σ H fun vs H1 => ∃ a xs, vs = [.ref a] /\ H1 a = some (.lst xs) /\ R (Ite K a) H1
inductive AllInts : List Expr -> List Int -> Prop
 | nil : AllInts [] []
 | cons {i : Int} {j : Nat} {pos : Pos} {es : List Expr} {is : List Int} : AllInts es is -> AllInts (.Constant (.int i) j pos :: es) (i :: is)
def wU (is : List Int) : TA := fun _ H Q => Q (is.map V.int) H
theorem jV {X : Cx} {es : List Expr} {is : List Int} (h : AllInts es is) : PA X es (wU is) := by
 induction h with
 | nil => exact ao
 | cons h ih => exact fun pos pins s σ H Q I q => aa az ih rfl pos pins s σ H Q I q
section
variable {X : Cx} {tg : Expr}
theorem ixL (K : PySem.W.Frag) (h : X.K = K := by rfl) : IxR X (sU K) := by subst h; exact uB
theorem ixT (K : PySem.W.Frag) (h : X.K = K := by rfl) : IxR X (t6 K) := by subst h; exact vM
theorem slL (K : PySem.W.Frag) (h : X.K = K := by rfl) : SlR X (vU K) := by subst h; exact u5
theorem tD (K : PySem.W.Frag) (hu : X.A.units + 64 < cLine) (h : X.K = K := by rfl) : OpR X (compareOp .NotEq) (vA K) := by subst h; exact wk hu
def yg (K : PySem.W.Frag) : List V -> Hp -> VK -> Prop := fun xs H Q => ∃ x t T b, xs = [x, .ty T] /\ TyOf K H x t /\ PySem.W.kitOne K t (.type T) = some b /\ Q (.bl b) H
def xG (K : PySem.W.Frag) : List V -> Hp -> VK -> Prop := fun xs H Q => ∃ p ys, xs = [.ref p] /\ (SqL K H p ys \/ SqT K H p ys) /\ Q (.int ys.length) H
def uQ (K : PySem.W.Frag) : List V -> Hp -> VK -> Prop := fun xs H Q => ∃ p ys, xs = [.ref p] /\ (SqL K H p ys \/ SqT K H p ys) /\ ∀ l, H l = none -> Q (.ref l) (upd H l (.lst ys))
def xr (K : PySem.W.Frag) : List V -> Hp -> VK -> Prop := fun xs H Q => ∃ (a : Addr) (bs : List Bool), xs = [.ref a] /\ SqL K H a (bs.map V.bl) /\ Q (.bl (bs.all id)) H
def xZ (K : PySem.W.Frag) : List V -> Hp -> VK -> Prop := fun xs H Q => ∃ (a : Addr) (bs : List Bool), xs = [.ref a] /\ SqL K H a (bs.map V.bl) /\ Q (.bl (bs.any id)) H
def zT (K : PySem.W.Frag) : List V -> Hp -> VK -> Prop := fun xs H Q => ∃ (a : Addr) (ns : List Int), xs = [.ref a] /\ SqL K H a (ns.map V.int) /\ Q (.int ns.sum) H
def zA (K : PySem.W.Frag) : List V -> Hp -> VK -> Prop := fun xs H Q => ∃ (a : Addr) (ns : List Int), xs = [.ref a] /\ SqL K H a (ns.map V.int) /\ ns ≠ [] /\ Q (.int (ye ns)) H
def zq (K : PySem.W.Frag) : List V -> Hp -> VK -> Prop := fun xs H Q => ∃ (a : Addr) (ns : List Int), xs = [.ref a] /\ SqL K H a (ns.map V.int) /\ ns ≠ [] /\ Q (.int (xW ns)) H
theorem gb (K : PySem.W.Frag) (h : X.K = K := by rfl) : CallR X (.builtin "isinstance") (yg K) := by subst h; exact pD
theorem dC (K : PySem.W.Frag) (h : X.K = K := by rfl) : CallR X (.builtin "len") (xG K) := by subst h; exact oN
theorem uV (K : PySem.W.Frag) (h : X.K = K := by rfl) : CallR X (.type "list") (uQ K) := by subst h; exact mX
theorem ik (K : PySem.W.Frag) (hc : X.calm = true := by rfl) (h : X.K = K := by rfl) : CallR X (.builtin "all") (xr K) := by subst h; exact su hc
theorem yc (K : PySem.W.Frag) (hc : X.calm = true := by rfl) (h : X.K = K := by rfl) : CallR X (.builtin "any") (xZ K) := by subst h; exact tR hc
theorem piL (K : PySem.W.Frag) {l : Expr} {tl : TE} (hl : PE X l tl) (h : X.K = K := by rfl) : PI X tg l (um K tl) := by subst h; exact uR hl
theorem pgT (K : PySem.W.Frag) {es : List Expr} {k : Nat} {t : TGs} {n : Nat} {pos : Pos} (h : PGs X es t) (hc : X.calm = true := by rfl) (hn : (assignEach es X.env).length = n := by rfl) (hst : (assignEach es X.env).findIdx? (·.1) = none := by rfl) (hK : X.K = K := by rfl) :
  PG X (.Tuple es k pos) (vK K n t) := by subst hK; exact vL hc h hn hst
theorem wZ (K : PySem.W.Frag) {es : List Expr} {k1 : _} {tp : Pos} {a b : Expr} {ta : TA} {p pos : Pos} (hg : Gl X "zip") (hm : X.mg "zip" = none) (ha : PA X [a, b] ta) (hs : starEach [a, b] X.env = [(false, eval a X.env), (false, eval b X.env)] := by rfl) (hs2 : starEach [b] X.env = [(false, eval b X.env)] := by rfl)
  (hK : X.K = K := by rfl) : PI X (.Tuple es k1 tp) (.Call (.Name "zip" p) [a, b] [] pos) (vz K ta) := by subst hK; exact vf hg hm ha hs hs2
theorem peI {x : Str} {i : Int} {pos : Pos} (hm : ∃ t, X.mg x = some (.int i t)) (hg : Gl X x) (hd : (x == ("__debug__" : Str)) = false := by decide) : PE X (.Name x pos) (tC (.int i)) := by
 obtain ⟨t, hm⟩ := hm
 exact pL hg hm ⟨t, rfl⟩ hd
end
end L2
set_option maxRecDepth 100000
namespace Fr
def mk (a b : Int) : Int × Int := (a / (Int.gcd a b : Int), b / (Int.gcd a b : Int))
theorem pK {a b : Int} (h : 0 < b) : 0 < (Int.gcd a b : Int) := by
 have : 0 < Int.gcd a b := Int.gcd_pos_of_ne_zero_right a (by omega)
 omega
theorem vh {a b : Int} : (mk a b).1 * (Int.gcd a b : Int) = a := Int.ediv_mul_cancel (Int.gcd_dvd_left a b)
theorem rW {a b : Int} : (mk a b).2 * (Int.gcd a b : Int) = b := Int.ediv_mul_cancel (Int.gcd_dvd_right a b)
theorem mk_pos {a b : Int} (h : 0 < b) : 0 < (mk a b).2 := by
 have h1 := pK (a := a) h
 have h2 := rW (a := a) (b := b)
 rcases Int.lt_or_le 0 (mk a b).2 with h3 | h3
 ·exact h3
 ·have h4 : (mk a b).2 * (Int.gcd a b : Int) <= 0 := Int.mul_nonpos_of_nonpos_of_nonneg h3 (by omega)
  omega
def draw (c k m : Int) : Int := ((c % 1000000007 * 48271 + k * 69621 + 7) % 1000000007) * ((c % 1000000007 * 48271 + k * 69621 + 7) % 1000000007) / 1013 % 1000003 % m
theorem draw_nn (c k : Int) {m : Int} (h : 0 < m) : 0 <= draw c k m := Int.emod_nonneg _ (by omega)
theorem draw_lt (c k : Int) {m : Int} (h : 0 < m) : draw c k m < m := Int.emod_lt_of_pos _ h
end Fr
set_option Elab.async false
set_option linter.all false
set_option maxRecDepth 100000
namespace L2
open PySem PySem.Spec PyProof.Rows
theorem aq {H : Hp} {p : Addr} {o : HO} (h : H p = none) : Same H (upd H p o) := fun c u e => by
 rw [aH (aQ e h)]
 exact e
theorem gC {H H1 : Hp} {p : Addr} {o : HO} (e : Same H H1) (h : H p = none) : Same H (upd H1 p o) := fun c u q => by
 rw [aH (aQ q h)]
 exact e c u q
theorem pW {Q : VK} {H : Hp} {c : Prop} [Decidable c] (hc : c) (k : Q (.bl true) H) : Q (.bl (decide c)) H := by
 rw [decide_eq_true hc]
 exact k
structure New (H H' : Hp) (p : Addr) (o : HO) : Prop where
 new : H p = none
 is : H' p = some o
 same : Same H H'
theorem New.of {H H1 : Hp} {p : Addr} {o : HO} (s : Same H H1) (h : H1 p = none) : New H (upd H1 p o) p o := ⟨s.free h, au, s.trans (aq h)⟩
theorem New.pre {H H1 H2 : Hp} {p : Addr} {o : HO} (s : Same H H1) (n : New H1 H2 p o) : New H H2 p o := ⟨s.free n.new, n.is, s.trans n.same⟩
theorem New.post {H H1 H2 : Hp} {p : Addr} {o : HO} (n : New H H1 p o) (s : Same H1 H2) : New H H2 p o := ⟨n.new, s _ _ n.is, n.same.trans s⟩
end L2
namespace PySem
theorem Paired.get2 {α β : Type} {F : α -> β -> Prop} : ∀ {l₁ : List α} {l₂ : List β} {i : Nat} {x : α}, Paired F l₁ l₂ -> l₁[i]? = some x -> ∃ y, l₂[i]? = some y /\ F x y
 | _, _, i, x, .nil, e => by simp at e
 | _, _, 0, x, .cons h _, e => by
  simp at e
  subst e
  exact ⟨_, rfl, h⟩
 | _, _, i + 1, x, .cons _ t, e => by simpa using Paired.get2 (i := i) t (by simpa using e)
theorem Paired.at2 {α β : Type} {F : α -> β -> Prop} : ∀ {l₁ : List α} {l₂ : List β} {i : Nat} {y : β}, Paired F l₁ l₂ -> l₂[i]? = some y -> ∃ x, l₁[i]? = some x /\ F x y
 | _, _, i, x, .nil, e => by simp at e
 | _, _, 0, x, .cons h _, e => by
  simp at e
  subst e
  exact ⟨_, rfl, h⟩
 | _, _, i + 1, x, .cons _ t, e => by simpa using Paired.at2 (i := i) t (by simpa using e)
theorem Paired.mem2 {α β : Type} {F : α -> β -> Prop} {l₁ : List α} {l₂ : List β} {x : α} (p : Paired F l₁ l₂) (h : x ∈ l₁) : ∃ y ∈ l₂, F x y := by
 obtain ⟨i, hi, rfl⟩ := List.getElem_of_mem h
 obtain ⟨y, e, f⟩ := p.get2 (List.getElem?_eq_getElem hi)
 exact ⟨y, List.mem_of_getElem? e, f⟩
theorem Paired.app2 {α β : Type} {F : α -> β -> Prop} : ∀ {l₁ m₁ : List α} {l₂ m₂ : List β}, Paired F l₁ l₂ -> Paired F m₁ m₂ -> Paired F (l₁ ++ m₁) (l₂ ++ m₂)
 | _, _, _, _, .nil, q => q
 | _, _, _, _, .cons h t, q => .cons h (Paired.app2 t q)
theorem Paired.imp2 {α β : Type} {F G : α -> β -> Prop} {l₁ : List α} {l₂ : List β} (r : Paired F l₁ l₂) (f : ∀ a b, F a b -> G a b) : Paired G l₁ l₂ := L2.Paired.mapP r f
end PySem
namespace L2
open PySem PySem.Spec PyProof.Rows
theorem aX {K : PySem.W.Frag} {a : Addr} {xs : List V} {te : TE} {σc : St} {H : Hp} {Fin : List V -> Hp -> Prop} (R : V -> V -> Hp -> Prop) (hR : ∀ x y H1 H2, Same H1 H2 -> R x y H1 -> R x y H2) (hl : SqL K H a xs) (hz : xs.length <= sizeLine)
  (hs : ∀ x ∈ xs, ∀ H1, Same H H1 -> ∀ Q : VK, (∀ y H2, Same H1 H2 -> R x y H2 -> Q y H2) -> te (σc.set 0 (some x)) H1 Q) (hd : ∀ ys H', Same H H' -> Paired (fun x y => R x y H') xs ys -> Fin ys H') : cV (Itl K a) (eO 0) kj te σc H Fin := by
 refine rA (xs := xs) (fun i ys H' => Same H H' /\ Paired (fun x y => R x y H') (xs.take i) ys) ⟨Same.refl _, by simpa using Paired.nil⟩ (fun i ys H' hi h => ?_) hz (fun i x ys H' hx h => ?_) (fun ys H' h => ?_)
 ·refine ⟨h.1.seq hl, ?_⟩
  have := h.2.length
  rw [List.length_take] at this
  omega
 ·refine m8 ?_
  refine hs x (List.mem_of_getElem? hx) H' h.1 _ fun y H2 s2 r => ⟨h.1.trans s2, ?_⟩
  rw [List.take_add_one, hx]
  exact (h.2.imp2 fun x y q => hR x y _ _ s2 q).app2 (.cons r .nil)
 ·exact hd ys H' h.1 (by simpa using h.2)
theorem iY {n : Nat} {te : TE} {σc : St} {H : Hp} {Fin : List V -> Hp -> Prop} (R : Nat -> V -> Hp -> Prop) (hR : ∀ x y H1 H2, Same H1 H2 -> R x y H1 -> R x y H2) (hz : n <= sizeLine)
  (hs : ∀ i, i < n -> ∀ H1, Same H H1 -> ∀ Q : VK, (∀ y H2, Same H1 H2 -> R i y H2 -> Q y H2) -> te (σc.set 0 (some (.int i))) H1 Q) (hd : ∀ ys H', Same H H' -> Paired (fun x y => R x y H') (List.range n) ys -> Fin ys H') : cV (Itr 0 n) (eO 0) kj te σc H Fin := by
 refine qK (n := n) (fun i ys H' => Same H H' /\ Paired (fun x y => R x y H') (List.range i) ys) ⟨Same.refl _, Paired.nil⟩ (fun i ys H' hi h => ?_) hz (fun i ys H' hx h => ?_) (fun ys H' h => ?_)
 ·have := h.2.length
  rw [List.length_range] at this
  omega
 ·rw [Int.zero_add]
  refine m8 ?_
  refine hs i hx H' h.1 _ fun y H2 s2 r => ⟨h.1.trans s2, ?_⟩
  rw [List.range_succ]
  exact (h.2.imp2 fun x y q => hR x y _ _ s2 q).app2 (.cons r .nil)
 ·exact hd ys H' h.1 h.2
def IsRow (H : Hp) (v : V) (r : List Int) : Prop := ∃ a, v = .ref a /\ H a = some (.lst (r.map V.int))
def IsTab (H : Hp) (a : Addr) (T : List (List Int)) : Prop := ∃ vs, H a = some (.lst vs) /\ Paired (IsRow H) vs T
theorem IsRow.mono {H H' : Hp} {v : V} {r : List Int} (s : Same H H') (h : IsRow H v r) : IsRow H' v r := let ⟨a, e, q⟩ := h; ⟨a, e, s _ _ q⟩
theorem IsTab.mono {H H' : Hp} {a : Addr} {T : List (List Int)} (s : Same H H') (h : IsTab H a T) : IsTab H' a T := let ⟨vs, e, q⟩ := h; ⟨vs, s _ _ e, q.imp2 fun _ _ z => z.mono s⟩
def OwnRow (H H' : Hp) (v : V) (r : List Int) : Prop := ∃ a, v = .ref a /\ H a = none /\ H' a = some (.lst (r.map V.int))
def OwnTab (H H' : Hp) (a : Addr) (T : List (List Int)) : Prop := ∃ vs, H a = none /\ H' a = some (.lst vs) /\ Paired (OwnRow H H') vs T
theorem OwnRow.row {H H' : Hp} {v : V} {r : List Int} (h : OwnRow H H' v r) : IsRow H' v r := let ⟨a, e, _, q⟩ := h; ⟨a, e, q⟩
theorem OwnTab.tab {H H' : Hp} {a : Addr} {T : List (List Int)} (h : OwnTab H H' a T) : IsTab H' a T := let ⟨vs, _, e, q⟩ := h; ⟨vs, e, q.imp2 fun _ _ z => z.row⟩
theorem OwnRow.mono {H H1 H2 : Hp} {v : V} {r : List Int} (s : Same H1 H2) (h : OwnRow H H1 v r) : OwnRow H H2 v r := let ⟨a, e, n, q⟩ := h; ⟨a, e, n, s _ _ q⟩
theorem OwnRow.pre {H H1 H2 : Hp} {v : V} {r : List Int} (s : Same H H1) (h : OwnRow H1 H2 v r) : OwnRow H H2 v r := let ⟨a, e, n, q⟩ := h; ⟨a, e, s.free n, q⟩
theorem OwnTab.pre {H H1 H2 : Hp} {a : Addr} {T : List (List Int)} (s : Same H H1) (h : OwnTab H1 H2 a T) : OwnTab H H2 a T := let ⟨vs, n, e, q⟩ := h; ⟨vs, s.free n, e, q.imp2 fun _ _ z => z.pre s⟩
theorem OwnTab.mono {H H1 H2 : Hp} {a : Addr} {T : List (List Int)} (s : Same H1 H2) (h : OwnTab H H1 a T) : OwnTab H H2 a T := let ⟨vs, n, e, q⟩ := h; ⟨vs, n, s _ _ e, q.imp2 fun _ _ z => z.mono s⟩
def bT (r : List Int) : D := .lst (r.map D.int)
def gh (T : List (List Int)) : D := .lst (T.map bT)
theorem lM {K : PySem.W.Frag} {H : Hp} : ∀ r : List Int, Reps K H (r.map D.int) (r.map V.int)
 | [] => by simp [Reps]
 | x :: r => by
  rw [List.map_cons, List.map_cons]
  unfold Reps
  exact ⟨_, _, rfl, by unfold Rep; rfl, lM r⟩
theorem IsRow.rep {K : PySem.W.Frag} {H : Hp} {v : V} {r : List Int} (h : IsRow H v r) : Rep K H (bT r) v := by
 obtain ⟨a, rfl, e⟩ := h
 unfold bT Rep
 exact ⟨a, _, rfl, SqL.of e, lM r⟩
theorem lW {K : PySem.W.Frag} {H : Hp} : ∀ {vs : List V} {T : List (List Int)}, Paired (IsRow H) vs T -> Reps K H (T.map bT) vs
 | _, _, .nil => by simp [Reps]
 | _, _, .cons h t => by
  rw [List.map_cons]
  unfold Reps
  exact ⟨_, _, rfl, h.rep, lW t⟩
theorem IsTab.rep {K : PySem.W.Frag} {H : Hp} {a : Addr} {T : List (List Int)} (h : IsTab H a T) : Rep K H (gh T) (.ref a) := by
 obtain ⟨vs, e, p⟩ := h
 unfold gh Rep
 exact ⟨a, vs, rfl, SqL.of e, lW p⟩
structure Good (T : List (List Int)) (m n : Nat) : Prop where
 m1 : 1 <= m
 m4 : m <= 4
 n1 : 1 <= n
 n4 : n <= 4
 rows : T.length = m
 cols : ∀ r ∈ T, r.length = n
 num : ∀ r ∈ T, ∀ x ∈ r, -100 <= x /\ x <= 100
theorem jd : ∀ r t : List Int, bj (r.map D.int) (t.map D.int) = true
 | [], t => by unfold bj; cases t <;> rfl
 | _ :: _, [] => by simp [bj]
 | x :: r, y :: t => by
  rw [List.map_cons, List.map_cons]
  unfold bj
  rw [jd r t, Bool.and_true]
  rfl
theorem jf : ∀ T U : List (List Int), bj (T.map bT) (U.map bT) = true
 | [], t => by unfold bj; cases t <;> rfl
 | _ :: _, [] => by simp [bj]
 | x :: r, y :: t => by
  rw [List.map_cons, List.map_cons]
  unfold bj
  rw [jf r t, Bool.and_true]
  exact jd x y
theorem jm (T U : List (List Int)) : bY (gh T) (gh U) = true := jf T U
theorem jE : ∀ r : List Int, cj (r.map D.int) = 0
 | [] => rfl
 | x :: r => by
  rw [List.map_cons]
  unfold cj
  rw [jE r]
  rfl
theorem uy (r : List Int) : cC (bT r) = 1 := by
 unfold bT
 rw [gq, jE]
theorem jO : ∀ T : List (List Int), cj (T.map bT) <= 1
 | [] => by decide
 | x :: r => by
  rw [List.map_cons]
  unfold cj
  rw [uy]
  have := jO r
  omega
theorem jX (T : List (List Int)) : cC (gh T) <= 2 := by
 unfold gh
 rw [gq]
 have := jO T
 omega
theorem cG {α : Type} {xs : List α} {j : Nat} (h : j < xs.length) : atI xs (j : Int) = some xs[j] := kJ (List.getElem?_eq_getElem h)
end L2
set_option Elab.async false
set_option linter.all false
set_option maxRecDepth 100000
namespace L2
open PySem PySem.Spec PyProof.Rows
theorem oG {t u : TS} {D : Ends} {σ : St} {H : Hp} (J : St -> Hp -> Prop) (h : ∀ R : St -> Hp -> Prop, (∀ σ' H', J σ' H' -> R σ' H') -> t { D with nx := R } σ H) (k : ∀ σ' H', J σ' H' -> u D σ' H') : oY t u D σ H := h (u D) k
theorem bZ {i : Nat} {v : V} {σ : St} {H : Hp} {a : St -> Hp -> Prop} {b : VK} {c d : St -> Hp -> Prop} (h : a (σ.set i (some v)) H) : eO i v σ H (Ends.mk a b c d).nx := h
theorem vB {σ : St} {H : Hp} {A B : Hp -> Prop} (h : A H) : kj σ H fun b H3 => if b = true then A H3 else B H3 := by
 show (if true = true then A H else B H)
 exact bx h
theorem fU {α : Type} : ∀ {xs : List α} {ys : List V}, Paired (fun _ y => y = V.bl true) xs ys -> ys = (List.replicate xs.length true).map V.bl
 | _, _, .nil => rfl
 | _, _, .cons h t => by
  rw [fU t, h]
  rfl
theorem jj (n : Nat) : (List.replicate n true).all id = true := by simp
theorem ints_of {α : Type} (Pr : Int -> Prop) : ∀ {xs : List α} {ys : List V}, Paired (fun _ y => ∃ i, y = V.int i /\ Pr i) xs ys -> ∃ r : List Int, ys = r.map V.int /\ r.length = xs.length /\ ∀ x ∈ r, Pr x
 | _, _, .nil => ⟨[], rfl, rfl, fun _ h => nomatch h⟩
 | _, _, .cons h t => by
  obtain ⟨i, rfl, hi⟩ := h
  obtain ⟨r, rfl, hl, hr⟩ := ints_of Pr t
  refine ⟨i :: r, rfl, by simp [hl], fun x hx => ?_⟩
  rcases List.mem_cons.mp hx with e | e
  ·rw [e]; exact hi
  ·exact hr x e
end L2
namespace PySem
theorem Paired.set2 {α β : Type} {F : α -> β -> Prop} {x : α} {y : β} (h : F x y) : ∀ {l₁ : List α} {l₂ : List β} (i : Nat), Paired F l₁ l₂ -> Paired F (l₁.set i x) (l₂.set i y)
 | _, _, _, .nil => .nil
 | _, _, 0, .cons _ t => .cons h t
 | _, _, i + 1, .cons q t => .cons q (Paired.set2 h i t)
end PySem
namespace L2
open PySem PySem.Spec PyProof.Rows
def RowNe (l : Addr) (H : Hp) (v : V) (r : List Int) : Prop := ∃ b, v = .ref b /\ b ≠ l /\ H b = some (.lst (r.map V.int))
theorem RowNe.row {l : Addr} {H : Hp} {v : V} {r : List Int} (h : RowNe l H v r) : IsRow H v r := let ⟨b, e, _, q⟩ := h; ⟨b, e, q⟩
theorem RowNe.mono {l : Addr} {H H' : Hp} {v : V} {r : List Int} (s : Same H H') (h : RowNe l H v r) : RowNe l H' v r := let ⟨b, e, n, q⟩ := h; ⟨b, e, n, s _ _ q⟩
theorem RowNe.at {l : Addr} {H : Hp} {v : V} {r : List Int} {o : HO} (h : RowNe l H v r) : RowNe l (upd H l o) v r := let ⟨b, e, n, q⟩ := h; ⟨b, e, n, by rw [aH n]; exact q⟩
theorem tW {xs : List V} {k : Int} (h0 : 0 <= k) (h1 : k <= xs.length) : cJ xs (some k) none = xs.drop k.toNat := by
 have e : HT.sIx xs.length 0 (some k) = k.toNat := by
  unfold HT.sIx
  simp only
  split <;> omega
 have e2 : HT.sIx xs.length xs.length none = xs.length := rfl
 unfold cJ
 rw [e, e2, List.take_of_length_le (by rw [List.length_drop]; omega)]
theorem tE {xs : List V} {k : Int} (h0 : 0 <= k) (h1 : k <= xs.length) : cJ xs none (some k) = xs.take k.toNat := by
 have e : HT.sIx xs.length xs.length (some k) = k.toNat := by
  unfold HT.sIx
  simp only
  split <;> omega
 have e2 : HT.sIx xs.length 0 none = 0 := rfl
 unfold cJ
 rw [e, e2, List.drop_zero]
 rfl
end L2
namespace Tb
open PySem L2
theorem pickm {j : Int} (h0 : 0 <= j) (h1 : j < 8) : ∃ m : Nat, atI (([2, 3, 1, 3, 2, 4, 3, 2] : List Int).map V.int) j = some (.int (m : Int)) /\ 1 <= m /\ m <= 4 := by
 have : j = 0 \/ j = 1 \/ j = 2 \/ j = 3 \/ j = 4 \/ j = 5 \/ j = 6 \/ j = 7 := by omega
 rcases this with rfl | rfl | rfl | rfl | rfl | rfl | rfl | rfl
 ·exact ⟨2, rfl, by decide, by decide⟩
 ·exact ⟨3, rfl, by decide, by decide⟩
 ·exact ⟨1, rfl, by decide, by decide⟩
 ·exact ⟨3, rfl, by decide, by decide⟩
 ·exact ⟨2, rfl, by decide, by decide⟩
 ·exact ⟨4, rfl, by decide, by decide⟩
 ·exact ⟨3, rfl, by decide, by decide⟩
 ·exact ⟨2, rfl, by decide, by decide⟩
theorem pickn {j : Int} (h0 : 0 <= j) (h1 : j < 8) : ∃ m : Nat, atI (([3, 2, 3, 1, 2, 4, 2, 3] : List Int).map V.int) j = some (.int (m : Int)) /\ 1 <= m /\ m <= 4 := by
 have : j = 0 \/ j = 1 \/ j = 2 \/ j = 3 \/ j = 4 \/ j = 5 \/ j = 6 \/ j = 7 := by omega
 rcases this with rfl | rfl | rfl | rfl | rfl | rfl | rfl | rfl
 ·exact ⟨3, rfl, by decide, by decide⟩
 ·exact ⟨2, rfl, by decide, by decide⟩
 ·exact ⟨3, rfl, by decide, by decide⟩
 ·exact ⟨1, rfl, by decide, by decide⟩
 ·exact ⟨2, rfl, by decide, by decide⟩
 ·exact ⟨4, rfl, by decide, by decide⟩
 ·exact ⟨2, rfl, by decide, by decide⟩
 ·exact ⟨3, rfl, by decide, by decide⟩
theorem pick4 {j : Int} (h0 : 0 <= j) (h1 : j < 4) : ∃ v : Int, atI (([2, 5, 9, 98] : List Int).map V.int) j = some (.int v) /\ 2 <= v /\ v <= 98 := by
 have : j = 0 \/ j = 1 \/ j = 2 \/ j = 3 := by omega
 rcases this with rfl | rfl | rfl | rfl
 ·exact ⟨2, rfl, by decide, by decide⟩
 ·exact ⟨5, rfl, by decide, by decide⟩
 ·exact ⟨9, rfl, by decide, by decide⟩
 ·exact ⟨98, rfl, by decide, by decide⟩
end Tb
namespace L2
open PySem
theorem p_ {α : Type} {H H' : Hp} (Pr : List Int -> Prop) : ∀ {xs : List α} {ys : List V}, Paired (fun _ y => ∃ r : List Int, OwnRow H H' y r /\ Pr r) xs ys -> ∃ U : List (List Int), Paired (OwnRow H H') ys U /\ U.length = xs.length /\ ∀ r ∈ U, Pr r
 | _, _, .nil => ⟨[], .nil, rfl, fun _ h => nomatch h⟩
 | _, _, .cons h t => by
  obtain ⟨r, hr, hp⟩ := h
  obtain ⟨U, h1, h2, h3⟩ := p_ Pr t
  refine ⟨r :: U, .cons hr h1, by simp [h2], fun x hx => ?_⟩
  rcases List.mem_cons.mp hx with e | e
  ·rw [e]; exact hp
  ·exact h3 x e
end L2
namespace L2
open PySem PySem.Spec PyProof.Rows
theorem pG {r t : List Int} (h : r.map V.int = t.map V.int) : r = t := by
 have inj : ∀ (a b : List Int), a.map V.int = b.map V.int -> a = b := by
  intro a
  induction a with
  | nil => intro b h; cases b with
   | nil => rfl
   | cons _ _ => simp at h
  | cons x a ih => intro b h; cases b with
   | nil => simp at h
   | cons y b =>
    simp only [List.map_cons, List.cons.injEq, V.int.injEq] at h
    rw [h.1, ih b h.2]
 exact inj r t h
theorem IsRow.inj {H : Hp} {v : V} {r t : List Int} (h : IsRow H v r) (q : IsRow H v t) : r = t := by
 obtain ⟨a, rfl, e⟩ := h
 obtain ⟨b, eb, f⟩ := q
 cases eb
 rw [e] at f
 injection f with f
 injection f with f
 exact pG f
theorem lB {H H' : Hp} (f : List Int -> List Int) : ∀ {vs ys : List V} {T : List (List Int)}, Paired (fun x y => ∀ r, IsRow H x r -> OwnRow H H' y (f r)) vs ys -> Paired (IsRow H) vs T -> Paired (OwnRow H H') ys (T.map f)
 | _, _, _, .nil, .nil => .nil
 | _, _, _, .cons h t, .cons q u => .cons (h _ q) (lB f t u)
theorem qH {K : PySem.W.Frag} {a : Addr} {T : List (List Int)} {te : TE} {σc : St} {H : Hp} {Fin : List V -> Hp -> Prop} (f : List Int -> List Int) (hT : IsTab H a T) (hz : T.length <= 1000)
  (hs : ∀ r ∈ T, ∀ b, H b = some (.lst (r.map V.int)) -> ∀ H1, Same H H1 -> ∀ Q : VK, (∀ y H2, Same H1 H2 -> OwnRow H H2 y (f r) -> Q y H2) -> te (σc.set 0 (some (.ref b))) H1 Q)
  (hd : ∀ ys H', Same H H' -> Paired (OwnRow H H') ys (T.map f) -> Fin ys H') : cV (Itl K a) (eO 0) kj te σc H Fin := by
 obtain ⟨vs, ha, hp⟩ := hT
 refine aX (xs := vs) (fun x y H' => ∀ r, IsRow H x r -> OwnRow H H' y (f r)) (fun _ _ _ _ s h r q => (h r q).mono s) (SqL.of ha) (by rw [hp.length]; exact Nat.le_of_lt (aU hz)) ?_ ?_
 ·intro x hx H1 s1 Q q
  obtain ⟨r, hr, hrow⟩ := hp.mem2 hx
  obtain ⟨b, rfl, hb⟩ := id hrow
  exact hs r hr b hb H1 s1 Q fun y H2 s2 ho => q _ H2 s2 fun r' h' => by rw [<- hrow.inj h']; exact ho
 ·intro ys H' s' pr
  exact hd ys H' s' (lB f pr hp)
theorem OwnTab.lay {H H1 : Hp} {p : Addr} {ys : List V} {T : List (List Int)} (s : Same H H1) (hp : H1 p = none) (h : Paired (OwnRow H H1) ys T) : OwnTab H (upd H1 p (.lst ys)) p T :=
 ⟨ys, s.free hp, au, h.imp2 fun _ _ z => z.mono (aq hp)⟩
theorem IsTab.row {H : Hp} {a : Addr} {T : List (List Int)} (h : IsTab H a T) {i : Nat} (hi : i < T.length) : ∃ vs b, H a = some (.lst vs) /\ i < vs.length /\ atI vs (i : Int) = some (.ref b) /\ H b = some (.lst ((T.getD i []).map V.int)) := by
 obtain ⟨vs, e, p⟩ := h
 obtain ⟨v, ev, b, rfl, hb⟩ := p.at2 (List.getElem?_eq_getElem hi)
 refine ⟨vs, b, e, by rw [p.length]; exact hi, kJ ev, ?_⟩
 rw [List.getD_eq_getElem?_getD, List.getElem?_eq_getElem hi]
 exact hb
theorem Good.row {T : List (List Int)} {m n : Nat} (g : Good T m n) {i : Nat} (hi : i < m) : T.getD i [] ∈ T /\ (T.getD i []).length = n := by
 have h : i < T.length := by rw [g.rows]; exact hi
 have e : T.getD i [] = T[i] := by rw [List.getD_eq_getElem?_getD, List.getElem?_eq_getElem h]; rfl
 rw [e]
 exact ⟨List.getElem_mem h, g.cols _ (List.getElem_mem h)⟩
def IsPl (H : Hp) (v : V) (p : Nat × Nat) : Prop := ∃ b, v = .ref b /\ H b = some (.tup [.int p.1, .int p.2])
theorem IsPl.mono {H H' : Hp} {v : V} {p : Nat × Nat} (s : Same H H') (h : IsPl H v p) : IsPl H' v p := let ⟨b, e, q⟩ := h; ⟨b, e, s _ _ q⟩
theorem IsPl.at {l : Addr} {H : Hp} {v : V} {p : Nat × Nat} {xs : List V} {o : HO} (hl : H l = some (.lst xs)) (h : IsPl H v p) : IsPl (upd H l o) v p := by
 obtain ⟨b, e, q⟩ := h
 exact ⟨b, e, by rw [aH (qz q hl (by intro z; cases z))]; exact q⟩
def plD (p : Nat × Nat) : D := .tup [.int p.1, .int p.2]
end L2
namespace L2
open PySem PySem.Spec PyProof.Rows
theorem qI {b : Bool} {A B : Prop} (hb : b = true) (h : B) : if (!b) = true then A else B := by
 subst hb
 exact bA h
end L2
namespace L2
open PySem PySem.Spec PyProof.Rows
def SameX (l : Addr) (H H' : Hp) : Prop := ∀ b o, b ≠ l -> H b = some o -> H' b = some o
theorem SameX.refl {l : Addr} {H : Hp} : SameX l H H := fun _ _ _ h => h
theorem SameX.then {l : Addr} {H H1 H2 : Hp} (a : SameX l H H1) (b : Same H1 H2) : SameX l H H2 := fun c o n h => b c o (a c o n h)
theorem SameX.at {l : Addr} {H H1 : Hp} {o : HO} (a : SameX l H H1) : SameX l H (upd H1 l o) := fun c u n h => by rw [aH n]; exact a c u n h
def RowX (H : Hp) (l : Addr) (H' : Hp) (v : V) (r : List Int) : Prop := ∃ b, v = .ref b /\ b ≠ l /\ H b = none /\ H' b = some (.lst (r.map V.int))
theorem RowX.own {H H' : Hp} {l : Addr} {v : V} {r : List Int} (h : RowX H l H' v r) : OwnRow H H' v r := let ⟨b, e, _, n, q⟩ := h; ⟨b, e, n, q⟩
theorem RowX.mono {H H' H2 : Hp} {l : Addr} {v : V} {r : List Int} (s : Same H' H2) (h : RowX H l H' v r) : RowX H l H2 v r := let ⟨b, e, n, m, q⟩ := h; ⟨b, e, n, m, s _ _ q⟩
theorem RowX.at {H H' : Hp} {l : Addr} {v : V} {r : List Int} {o : HO} (h : RowX H l H' v r) : RowX H l (upd H' l o) v r := let ⟨b, e, n, m, q⟩ := h; ⟨b, e, n, m, by rw [aH n]; exact q⟩
end L2
set_option Elab.async false
set_option linter.all false
namespace L2
open PySem PySem.Spec PyProof.Rows
variable {X : Cx}
def yJ (i j : Int) : Prop := 0 < j /\ j.natAbs.log2 < 9000
end L2
namespace Fr
theorem mk_cop {a b : Int} (h : 0 < b) : Int.gcd (mk a b).1 (mk a b).2 = 1 := by
 have g := pK (a := a) h
 have e : Int.gcd ((mk a b).1 * (Int.gcd a b : Int)) ((mk a b).2 * (Int.gcd a b : Int)) = Int.gcd (mk a b).1 (mk a b).2 * Int.gcd a b := by
  rw [Int.gcd_mul_right]
  simp
 rw [vh, rW] at e
 have g' : 0 < Int.gcd a b := by omega
 have e2 : 1 * Int.gcd a b = Int.gcd (mk a b).1 (mk a b).2 * Int.gcd a b := by rw [Nat.one_mul]; exact e
 exact (Nat.eq_of_mul_eq_mul_right g' e2).symm
def dot : List Int -> List Int -> Int
 | x :: xs, y :: ys => x * y + dot xs ys
 | _, _ => 0
end Fr
namespace L2
open PySem PySem.Spec PyProof.Rows
def IsFr (H : Hp) (v : V) (q : Int × Int) : Prop := ∃ b, v = .ref b /\ H b = some (.tup [.int q.1, .int q.2])
theorem IsFr.mono {H H' : Hp} {v : V} {q : Int × Int} (s : Same H H') (h : IsFr H v q) : IsFr H' v q := let ⟨b, e, z⟩ := h; ⟨b, e, s _ _ z⟩
def IsFrs (H : Hp) (a : Addr) (qs : List (Int × Int)) : Prop := ∃ vs, H a = some (.lst vs) /\ Paired (IsFr H) vs qs
theorem IsFrs.mono {H H' : Hp} {a : Addr} {qs : List (Int × Int)} (s : Same H H') (h : IsFrs H a qs) : IsFrs H' a qs := let ⟨vs, e, z⟩ := h; ⟨vs, s _ _ e, z.imp2 fun _ _ y => y.mono s⟩
structure Wt (ws : List Int) (n : Nat) (S : Int) : Prop where
 len : ws.length = n
 n1 : 1 <= n
 n4 : n <= 4
 nn : ∀ x ∈ ws, 0 <= x
 sum : ws.sum = S
 pos : 0 < S
 most : S <= 17
def mks (ws : List Int) (S : Int) : List (Int × Int) := ws.map fun x => Fr.mk x S
end L2
set_option Elab.async false
set_option linter.all false
set_option maxRecDepth 100000
namespace L2
open PySem PySem.Spec PyProof.Rows
def zf (K : PySem.W.Frag) (neg : Bool) : R2 := fun x y H Q => ∃ p d ds vs, y = .ref p /\ Rep K H d x /\ SqL K H p vs /\ Reps K H ds vs /\ (∀ a ∈ ds, bY a d = true /\ cC a <= 40 /\ ∀ b ∈ ds, bY a b = true) /\
 Q (.bl (if neg then !(ds.any fun e => eqD e d) else ds.any fun e => eqD e d)) H
section
variable {X : Cx} {pins : List (Addr × Obj)} {σ : St} {H : Hp} {s : Shared}
end
section
variable {X : Cx}
end
structure Cl (K : PySem.W.Frag) (mg : Str -> Option Value) (x : Str) (fs ms : List Str) (C : Addr) : Prop where
 cl : Cls K C
 no : ∀ f, f ∈ fs -> jQ K C f
 mg_ : mg x = some (.ref C)
 makes : PySem.W.makesIn K C = true
 kp : PySem.W.keepIn K (.ref C) = true
structure FunC (K : PySem.W.Frag) (C : Addr) (m qual : Str) (st : Stmt) (ps : List Str) : Prop where
 ex : ∃ f fd, Fun K m qual st f fd /\ Meth K C m f /\ Binds K fd ps []
structure DefC (P : Program) (w : World) (K : PySem.W.Frag) (mg : Str -> Option Value) (base : Heap) (C : Addr) (m : Str) (ps : List Str) (k : Nat) (sp : Sp) : Prop where
 ex : ∃ f fd, FnOk P w K mg base CX0 k f fd ps sp /\ Meth K C m f /\ Binds K fd ps []
section
variable {P : Program} {w : World} {K : PySem.W.Frag} {mg : Str -> Option Value} {base : Heap}
theorem DefC.of {C : Addr} {x qual : Str} {st : Stmt} {N ps : List Str} {k : Nat} {sp : Sp} (F : FunC K C x qual st ps) (S : FnScope N ps (aG st)) (len : ∀ vs H Q E, sp vs H Q E -> vs.length = ps.length)
  (hbody : ∀ (f : Addr) (cdv : Value) (A : Around) (outer : List Env) (s : Shared) (H : Hp) (vs : List V) (Q : VK) (E : XK), Room k (A.deeper (envOfC qual (aG st) s.heap.objs.size f cdv)) -> sp vs H Q E ->
   ∃ t, PSs (bD CX0 P w K mg base N qual (aG st) f cdv A outer s H E).nox (bJ st) t /\ t { nx := fun _ H' => Q .non H', rt := Q } (start N vs) H) : DefC P w K mg base C x ps (k + 1) sp := by
 obtain ⟨f, fd, F1, hm, hb⟩ := F.ex
 exact ⟨f, fd, F1.ok S len (hbody f), hm, hb⟩
end
section
variable {X : Cx} {x m : Str} {ps : List Str} {k : Nat} {sp : Sp} {p pos apos : Pos} {o e : Expr} {es : List Expr} {t : TA} {ta : TE} {C : Addr} {fs ms : List Str}
end
end L2
set_option Elab.async false
set_option linter.all false
namespace Gm
def sm : Nat -> (Nat -> Int) -> Int
 | 0, _ => 0
 | n + 1, f => sm n f + f n
theorem jg {f g : Nat -> Int} : ∀ {n : Nat}, (∀ j, j < n -> f j = g j) -> sm n f = sm n g
 | 0, _ => rfl
 | n + 1, h => by
  show sm n f + f n = sm n g + g n
  rw [jg fun j hj => h j (by omega), h n (by omega)]
theorem oR (f g : Nat -> Int) : ∀ n, sm n (fun j => f j + g j) = sm n f + sm n g
 | 0 => rfl
 | n + 1 => by
  show sm n _ + (f n + g n) = sm n f + f n + (sm n g + g n)
  rw [oR f g n]; omega
theorem ir (c : Int) (f : Nat -> Int) : ∀ n, sm n (fun j => c * f j) = c * sm n f
 | 0 => by simp [sm]
 | n + 1 => by
  show sm n _ + c * f n = c * (sm n f + f n)
  rw [ir c f n, Int.mul_add]
theorem lG {f : Nat -> Int} : ∀ {n : Nat}, (∀ j, j < n -> 0 <= f j) -> 0 <= sm n f
 | 0, _ => Int.le_refl _
 | n + 1, h => by
  show 0 <= sm n f + f n
  have := lG (n := n) fun j hj => h j (by omega)
  have := h n (by omega)
  omega
theorem qR {f : Nat -> Int} : ∀ {n : Nat}, (∀ j, j < n -> 0 <= f j) -> (∃ j, j < n /\ 0 < f j) -> 0 < sm n f
 | 0, _, ⟨j, hj, _⟩ => by omega
 | n + 1, h, ⟨j, hj, hp⟩ => by
  show 0 < sm n f + f n
  have h0 := lG (n := n) fun j hj => h j (by omega)
  have h1 := h n (by omega)
  by_cases e : j = n
  ·subst e; omega
  ·have := qR (n := n) (fun j hj => h j (by omega)) ⟨j, by omega, hp⟩
   omega
theorem lC {k : Nat} {c : Int} : ∀ {n : Nat}, sm n (fun j => if j = k then c else 0) = if k < n then c else 0
 | 0 => by simp [sm]
 | n + 1 => by
  show sm n _ + (if n = k then c else 0) = _
  rw [lC (n := n)]
  by_cases h1 : k < n
  ·rw [if_pos h1, if_neg (by omega), if_pos (by omega)]; omega
  ·by_cases h2 : n = k
   ·rw [if_neg h1, if_pos h2, if_pos (by omega)]; omega
   ·rw [if_neg h1, if_neg h2, if_neg (by omega)]; omega
theorem iW {α : Type} (num den : α -> Int) : ∀ (l : List α), l ≠ [] -> (∀ x ∈ l, 0 < den x) -> ∃ x ∈ l, ∀ y ∈ l, num x * den y <= num y * den x
 | [], h, _ => absurd rfl h
 | [x], _, _ => ⟨x, by simp, fun y hy => by
  rw [List.mem_singleton.mp hy]
  exact Int.le_refl _⟩
 | x :: z :: l, _, hd => by
  obtain ⟨w, hw, hm⟩ := iW num den (z :: l) (by simp) fun y hy => hd y (List.mem_cons_of_mem _ hy)
  have dx := hd x (by simp)
  have dw := hd w (List.mem_cons_of_mem _ hw)
  by_cases h : num x * den w <= num w * den x
  ·refine ⟨x, by simp, fun y hy => ?_⟩
   rcases List.mem_cons.mp hy with e | hy
   ·rw [e]; exact Int.le_refl _
   ·have dy := hd y (List.mem_cons_of_mem _ hy)
    have h1 := hm y hy
    have a1 : num x * den w * den y <= num w * den x * den y := Int.mul_le_mul_of_nonneg_right h (Int.le_of_lt dy)
    have a2 : num w * den y * den x <= num y * den w * den x := Int.mul_le_mul_of_nonneg_right h1 (Int.le_of_lt dx)
    have a3 : num x * den y * den w <= num y * den x * den w := by grind
    exact Int.le_of_mul_le_mul_right a3 dw
  ·refine ⟨w, List.mem_cons_of_mem _ hw, fun y hy => ?_⟩
   rcases List.mem_cons.mp hy with e | hy
   ·rw [e]; omega
   ·exact hm y hy
structure Pt (a : Nat -> Nat -> Int) (m n : Nat) (y : Nat -> Int) (S N : Int) : Prop where
 pos : 0 < S
 nn : ∀ j, j < n -> 0 <= y j
 sum : sm n y = S
 le : ∀ i, i < m -> sm n (fun j => a i j * y j) <= N
 ti : ∃ i, i < m /\ sm n (fun j => a i j * y j) = N
def cnt (p : Nat -> Bool) (n : Nat) : Nat := ((List.range n).filter p).length
theorem n_ {p q : Nat -> Bool} {n : Nat} (h : ∀ j, j < n -> p j = true -> q j = true) : cnt p n <= cnt q n := by
 unfold cnt
 rw [<- List.countP_eq_length_filter, <- List.countP_eq_length_filter]
 exact List.countP_mono_left fun j hj => h j (List.mem_range.mp hj)
theorem nu {p q : Nat -> Bool} : ∀ {n : Nat}, (∀ j, j < n -> p j = true -> q j = true) -> (∃ j, j < n /\ p j = false /\ q j = true) -> cnt p n < cnt q n
 | 0, _, ⟨j, hj, _⟩ => by omega
 | n + 1, h, ⟨j, hj, h1, h2⟩ => by
  have e : ∀ r : Nat -> Bool, cnt r (n + 1) = cnt r n + (if r n = true then 1 else 0) := by
   intro r
   unfold cnt
   rw [List.range_succ, List.filter_append, List.length_append]
   by_cases c : r n = true
   ·simp [c]
   ·simp [c]
  rw [e p, e q]
  have h0 := n_ (p := p) (q := q) (n := n) fun j hj => h j (by omega)
  have hn := h n (by omega)
  by_cases c : j = n
  ·subst c
   simp [h1, h2]
   omega
  ·have := nu (n := n) (fun j hj => h j (by omega)) ⟨j, by omega, h1, h2⟩
   by_cases c1 : p n = true
   ·rw [if_pos c1, if_pos (hn c1)]; omega
   ·rw [if_neg c1]; split <;> omega
def todo (a : Nat -> Nat -> Int) (m n : Nat) (y : Nat -> Int) (N : Int) : Nat := cnt (fun j => decide (y j ≠ 0)) n + cnt (fun i => decide (sm n (fun j => a i j * y j) ≠ N)) m
theorem pU (a : Nat -> Int) (y d : Nat -> Int) (q p : Int) (n : Nat) : sm n (fun j => a j * (q * y j + p * d j)) = q * sm n (fun j => a j * y j) + p * sm n (fun j => a j * d j) := by
 rw [<- ir, <- ir, <- oR]
 exact jg fun j _ => by grind
theorem step {a : Nat -> Nat -> Int} {m n : Nat} {y : Nat -> Int} {S N : Int} (P : Pt a m n y S N) {d : Nat -> Int} {δ : Int} (hs : ∀ j, j < n -> y j = 0 -> d j = 0) (h0 : sm n d = 0) (hd : ∃ j, j < n /\ d j ≠ 0) (hδ : δ <= 0)
  (ht : ∀ i, i < m -> sm n (fun j => a i j * y j) = N -> sm n (fun j => a i j * d j) = δ) : ∃ y' S' N', Pt a m n y' S' N' /\ N' * S <= N * S' /\ todo a m n y' N' < todo a m n y N /\ (∀ j, j < n -> y j = 0 -> y' j = 0) /\ ∀ i, i < m -> sm n (fun j => a i j * y j) = N -> sm n (fun j => a i j * y' j) = N' := by
 have hneg : ∃ j, j < n /\ d j < 0 := by
  refine Classical.byContradiction fun hc => ?_
  have hge : ∀ j, j < n -> 0 <= d j := fun j hj => by
   refine Classical.byContradiction fun h => hc ⟨j, hj, by omega⟩
  obtain ⟨j, hj, hne⟩ := hd
  have := qR hge ⟨j, hj, by have := hge j hj; omega⟩
  omega
 let num : Nat ⊕ Nat -> Int := fun x => match x with | .inl j => y j | .inr i => N - sm n (fun j => a i j * y j)
 let den : Nat ⊕ Nat -> Int := fun x => match x with | .inl j => - d j | .inr i => sm n (fun j => a i j * d j) - δ
 let L : List (Nat ⊕ Nat) := ((List.range n).filter fun j => decide (d j < 0)).map .inl ++ ((List.range m).filter fun i => decide (δ < sm n (fun j => a i j * d j))).map .inr
 have mL : ∀ j, j < n -> d j < 0 -> (.inl j : Nat ⊕ Nat) ∈ L := fun j hj h => List.mem_append_left _ (List.mem_map_of_mem (List.mem_filter.mpr ⟨List.mem_range.mpr hj, decide_eq_true h⟩))
 have mR : ∀ i, i < m -> δ < sm n (fun j => a i j * d j) -> (.inr i : Nat ⊕ Nat) ∈ L := fun i hi h => List.mem_append_right _ (List.mem_map_of_mem (List.mem_filter.mpr ⟨List.mem_range.mpr hi, decide_eq_true h⟩))
 have inL : ∀ x ∈ L, (∃ j, j < n /\ d j < 0 /\ x = .inl j) \/ ∃ i, i < m /\ δ < sm n (fun j => a i j * d j) /\ x = .inr i := by
  intro x hx
  rcases List.mem_append.mp hx with h | h
  ·obtain ⟨j, hj, rfl⟩ := List.mem_map.mp h
   obtain ⟨h1, h2⟩ := List.mem_filter.mp hj
   exact .inl ⟨j, List.mem_range.mp h1, of_decide_eq_true h2, rfl⟩
  ·obtain ⟨i, hi, rfl⟩ := List.mem_map.mp h
   obtain ⟨h1, h2⟩ := List.mem_filter.mp hi
   exact .inr ⟨i, List.mem_range.mp h1, of_decide_eq_true h2, rfl⟩
 have dp : ∀ x ∈ L, 0 < den x := by
  intro x hx
  rcases inL x hx with ⟨j, _, h, rfl⟩ | ⟨i, _, h, rfl⟩
  ·show 0 < - d j; omega
  ·show 0 < sm n (fun j => a i j * d j) - δ; omega
 obtain ⟨j0, hj0, hd0⟩ := hneg
 obtain ⟨x, hx, hmin⟩ := iW num den L (List.ne_nil_of_mem (mL j0 hj0 hd0)) dp
 have hq := dp x hx
 have hp : 0 <= num x := by
  rcases inL x hx with ⟨j, hj, h, rfl⟩ | ⟨i, hi, h, rfl⟩
  ·exact P.nn j hj
  ·show 0 <= N - sm n (fun j => a i j * y j)
   have := P.le i hi
   omega
 generalize hpe : num x = p at hmin hp
 generalize hqe : den x = q at hmin hq
 have g : ∀ i, sm n (fun j => a i j * (q * y j + p * d j)) = q * sm n (fun j => a i j * y j) + p * sm n (fun j => a i j * d j) := fun i => pU (a i) y d q p n
 have tight : ∀ i, i < m -> sm n (fun j => a i j * y j) = N -> sm n (fun j => a i j * (q * y j + p * d j)) = q * N + p * δ := fun i hi h => by
  rw [g i, h, ht i hi h]
 refine ⟨fun j => q * y j + p * d j, q * S, q * N + p * δ, ⟨Int.mul_pos hq P.pos, ?_, ?_, ?_, ?_⟩, ?_, ?_, fun j hj e => ?_, fun i hi e => tight i hi e⟩
 ·intro j hj
  show 0 <= q * y j + p * d j
  by_cases h : d j < 0
  ·have := hmin _ (mL j hj h)
   have h1 : p * (- d j) <= y j * q := this
   have e : p * (- d j) = - (p * d j) := Int.mul_neg ..
   have e2 : y j * q = q * y j := Int.mul_comm ..
   omega
  ·have h1 : 0 <= q * y j := Int.mul_nonneg (Int.le_of_lt hq) (P.nn j hj)
   have h2 : 0 <= p * d j := Int.mul_nonneg hp (by omega)
   omega
 ·have e : sm n (fun j => q * y j + p * d j) = q * sm n y + p * sm n d := by rw [<- ir, <- ir, <- oR]
  rw [e, h0, P.sum]
  omega
 ·intro i hi
  show sm n (fun j => a i j * (q * y j + p * d j)) <= q * N + p * δ
  rw [g i]
  have hle := P.le i hi
  by_cases h : δ < sm n (fun j => a i j * d j)
  ·have := hmin _ (mR i hi h)
   have h1 : p * (sm n (fun j => a i j * d j) - δ) <= (N - sm n (fun j => a i j * y j)) * q := this
   grind
  ·have h1 : p * sm n (fun j => a i j * d j) <= p * δ := Int.mul_le_mul_of_nonneg_left (by omega) hp
   have h2 : q * sm n (fun j => a i j * y j) <= q * N := Int.mul_le_mul_of_nonneg_left hle (Int.le_of_lt hq)
   omega
 ·obtain ⟨i, hi, h⟩ := P.ti
  exact ⟨i, hi, tight i hi h⟩
 ·have h1 : p * δ <= 0 := Int.mul_nonpos_of_nonneg_of_nonpos hp hδ
  have h2 : p * δ * S <= 0 := Int.mul_nonpos_of_nonpos_of_nonneg h1 (Int.le_of_lt P.pos)
  grind
 ·have s1 : ∀ j, j < n -> decide (q * y j + p * d j ≠ 0) = true -> decide (y j ≠ 0) = true := fun j hj h => by
   refine decide_eq_true fun e => ?_
   have := of_decide_eq_true h
   rw [e, hs j hj e] at this
   simp at this
  have s2 : ∀ i, i < m -> decide (sm n (fun j => a i j * (q * y j + p * d j)) ≠ q * N + p * δ) = true -> decide (sm n (fun j => a i j * y j) ≠ N) = true := fun i hi h => by
   refine decide_eq_true fun e => ?_
   exact of_decide_eq_true h (tight i hi e)
  have c1 := n_ s1
  have c2 := n_ s2
  show cnt (fun j => decide (q * y j + p * d j ≠ 0)) n + cnt (fun i => decide (sm n (fun j => a i j * (q * y j + p * d j)) ≠ q * N + p * δ)) m < cnt (fun j => decide (y j ≠ 0)) n + cnt (fun i => decide (sm n (fun j => a i j * y j) ≠ N)) m
  rcases inL x hx with ⟨j, hj, h, rfl⟩ | ⟨i, hi, h, rfl⟩
  ·have e1 : p = y j := hpe.symm
   have e2 : q = - d j := hqe.symm
   have : cnt (fun j => decide (q * y j + p * d j ≠ 0)) n < cnt (fun j => decide (y j ≠ 0)) n := by
    refine nu s1 ⟨j, hj, decide_eq_false ?_, decide_eq_true ?_⟩
    ·rw [e1, e2]
     intro z
     apply z
     grind
    ·intro z
     rw [hs j hj z] at h
     omega
   omega
  ·have e1 : p = N - sm n (fun j => a i j * y j) := hpe.symm
   have e2 : q = sm n (fun j => a i j * d j) - δ := hqe.symm
   have : cnt (fun i => decide (sm n (fun j => a i j * (q * y j + p * d j)) ≠ q * N + p * δ)) m < cnt (fun i => decide (sm n (fun j => a i j * y j) ≠ N)) m := by
    refine nu s2 ⟨i, hi, decide_eq_false ?_, decide_eq_true ?_⟩
    ·intro z
     apply z
     rw [g i, e1, e2]
     grind
    ·intro z
     rw [ht i hi z] at h
     omega
   omega
 ·show q * y j + p * d j = 0
  rw [e, hs j hj e]
  simp
def yR (a : Nat -> Nat -> Int) (m n : Nat) (y : Nat -> Int) (N : Int) : Prop :=
 ∀ (d : Nat -> Int) (δ : Int), (∀ j, j < n -> y j = 0 -> d j = 0) -> sm n d = 0 -> (∀ i, i < m -> sm n (fun j => a i j * y j) = N -> sm n (fun j => a i j * d j) = δ) -> ∀ j, j < n -> d j = 0
end Gm
set_option Elab.async false
set_option linter.all false
namespace Gm
inductive Cone (Cs : List (Nat -> Int)) : (Nat -> Int) -> Prop
 | base {c} : c ∈ Cs -> Cone Cs c
 | comb {u v : Nat -> Int} {p q : Int} : Cone Cs u -> Cone Cs v -> 0 < p -> 0 <= q -> Cone Cs (fun i => p * u i + q * v i)
theorem Cone.trans {Cs Ds : List (Nat -> Int)} (h : ∀ c ∈ Ds, Cone Cs c) {v : Nat -> Int} (hv : Cone Ds v) : Cone Cs v := by
 induction hv with
 | base hc => exact h _ hc
 | comb _ _ hp hq ih1 ih2 => exact .comb ih1 ih2 hp hq
theorem Cone.le {Cs : List (Nat -> Int)} {i : Nat} (h : ∀ c ∈ Cs, c i <= 0) {v : Nat -> Int} (hv : Cone Cs v) : v i <= 0 := by
 induction hv with
 | base hc => exact h _ hc
 | @comb u v p q _ _ hp hq ih1 ih2 =>
  show p * u i + q * v i <= 0
  have h1 : p * u i <= 0 := Int.mul_nonpos_of_nonneg_of_nonpos (Int.le_of_lt hp) ih1
  have h2 : q * v i <= 0 := Int.mul_nonpos_of_nonneg_of_nonpos hq ih2
  omega
theorem Cone.weights {n : Nat} {a : Nat -> Nat -> Int} {v : Nat -> Int} (hv : Cone ((List.range n).map fun j i => a i j) v) : ∃ y : Nat -> Int, (∀ j, j < n -> 0 <= y j) /\ (∃ j, j < n /\ 0 < y j) /\ ∀ i, v i = sm n fun j => a i j * y j := by
 induction hv with
 | base hc =>
  obtain ⟨k, hk, rfl⟩ := List.mem_map.mp hc
  have hk := List.mem_range.mp hk
  refine ⟨fun j => if j = k then 1 else 0, fun j _ => by show (0 : Int) <= if j = k then 1 else 0; split <;> decide, ⟨k, hk, by simp⟩, fun i => ?_⟩
  have e : sm n (fun j => a i j * if j = k then 1 else 0) = sm n fun j => if j = k then a i k else 0 := jg fun j _ => by
   by_cases h : j = k
   ·simp [h]
   ·simp [h]
  rw [e, lC, if_pos hk]
 | @comb u w p q _ _ hp hq ih1 ih2 =>
  obtain ⟨y, h1, ⟨k, hk, hk0⟩, h3⟩ := ih1
  obtain ⟨z, g1, _, g3⟩ := ih2
  refine ⟨fun j => p * y j + q * z j, fun j hj => ?_, ⟨k, hk, ?_⟩, fun i => ?_⟩
  ·exact Int.add_nonneg (Int.mul_nonneg (Int.le_of_lt hp) (h1 j hj)) (Int.mul_nonneg hq (g1 j hj))
  ·have a1 := Int.mul_pos hp hk0
   have a2 := Int.mul_nonneg hq (g1 k hk)
   show 0 < p * y k + q * z k
   omega
  ·rw [pU, <- h3, <- g3]
end Gm
set_option Elab.async false
set_option linter.all false
namespace Gm
def cut (r : List Int) (c : Nat) : List Int := r.take c ++ r.drop (c + 1)
def sg (c : Nat) : Int := if c % 2 = 0 then 1 else -1
def sV : Nat -> List (List Int) -> Int
 | 0, _ => 1
 | n + 1, M => sm (n + 1) fun c => sg c * (M.getD 0 []).getD c 0 * sV n ((M.drop 1).map fun r => cut r c)
def x_ (r : List Int) (c : Nat) (x : Int) : List Int := r.take c ++ [x] ++ r.drop (c + 1)
def wF (M : List (List Int)) (c : Nat) (xs : List Int) : List (List Int) := List.zipWith (fun r x => x_ r c x) M xs
abbrev cell (U : List (List Int)) (i j : Nat) : Int := (U.getD i []).getD j 0
def vH (U : List (List Int)) (R C : List Nat) : List (List Int) := List.replicate C.length 1 :: (R.drop 1).map fun i => C.map fun j => cell U i j - cell U (R.headD 0) j
def wL (k : Nat) : List Int := 1 :: List.replicate (k - 1) 0
def ju (U : List (List Int)) (R C : List Nat) : Int := sV C.length (vH U R C)
def wK (U : List (List Int)) (R C : List Nat) (t : Nat) : Int := sV C.length (wF (vH U R C) t (wL C.length))
def d2 (a b c d : Int) : Int := a * d - b * c
def d3 (a b c d e f g h i : Int) : Int := a * d2 e f h i - b * d2 d f g i + c * d2 d e g h
section
variable (U : List (List Int))
end
def v_ (U : List (List Int)) (R C : List Nat) : List Int := (List.range C.length).map (wK U R C)
def wsum (f : Nat -> Int) : List Nat -> List Int -> Int
 | c :: C, p :: ps => f c * p + wsum f C ps
 | _, _ => 0
end Gm
set_option Elab.async false
set_option linter.all false
namespace Gm
def chM : Nat -> List (List Nat)
 | 0 => [[]]
 | n + 1 => chM n ++ (chM n).map fun c => c ++ [n]
def yOf (C : List Nat) (ps : List Int) (j : Nat) : Int := wsum (fun c => if c = j then 1 else 0) C ps
end Gm
set_option Elab.async false
set_option linter.all false
namespace Gm
def sgn (w : Int) : Int := if 0 < w then 1 else -1
def shM (U : List (List Int)) (R C : List Nat) : List Int := (v_ U R C).map fun p => sgn (ju U R C) * p
def smM (U : List (List Int)) (R C : List Nat) : Int := sgn (ju U R C) * ju U R C
def gain (U : List (List Int)) (n : Nat) (y : Nat -> Int) (i : Nat) : Int := sm n fun j => cell U i j * y j
structure Good2 (m n : Nat) (R C : List Nat) : Prop where
 rs : R.Sublist (List.range m)
 cs : C.Sublist (List.range n)
 len : R.length = C.length
 pos : 0 < C.length
theorem Good2.c4 {m n : Nat} {R C : List Nat} (g : Good2 m n R C) (n4 : n <= 4) : C.length <= 4 := by
 have := g.cs.length_le
 rw [List.length_range] at this
 omega
theorem Good2.lt {m n : Nat} {R C : List Nat} (g : Good2 m n R C) : ∀ c ∈ C, c < n := fun c hc => List.mem_range.mp (g.cs.subset hc)
theorem Good2.nd {m n : Nat} {R C : List Nat} (g : Good2 m n R C) : C.Nodup := g.cs.nodup List.nodup_range
theorem Good2.r0 {m n : Nat} {R C : List Nat} (g : Good2 m n R C) : R.headD 0 ∈ R := by
 have := g.len
 have := g.pos
 cases R with
 | nil => simp at *; omega
 | cons r R => simp
structure Corner (U : List (List Int)) (m n : Nat) (R C : List Nat) : Prop where
 ne : ju U R C ≠ 0
 pos : ∀ q ∈ shM U R C, 0 < q
 le : ∀ i, i < m -> gain U n (yOf C (shM U R C)) i <= gain U n (yOf C (shM U R C)) (R.headD 0)
end Gm
set_option Elab.async false
set_option linter.all false
set_option maxRecDepth 100000
namespace L2
open PySem PySem.Spec PyProof.Rows
def Sz (k : Nat) (x : Int) : Prop := x.natAbs < 2 ^ k
theorem Sz.mono {a b : Nat} {x : Int} (h : Sz a x) (hab : a <= b) : Sz b x := Nat.lt_of_lt_of_le h (Nat.pow_le_pow_right (by decide) hab)
theorem Sz.mul {a b : Nat} {x y : Int} (h : Sz a x) (q : Sz b y) : Sz (a + b) (x * y) := by
 unfold Sz at *
 rw [Int.natAbs_mul, Nat.pow_add]
 exact Nat.mul_lt_mul'' h q
theorem Sz.neg {k : Nat} {x : Int} (h : Sz k x) : Sz k (-x) := by
 unfold Sz at *
 rw [Int.natAbs_neg]; exact h
variable {X : Cx}
def yV (i j : Int) : Prop := Sz 4000 i /\ Sz 4000 j
structure Pq (q : Int × Int) : Prop where
 pos : 0 < q.2
 cop : Int.gcd q.1 q.2 = 1
theorem Pq.of {a b : Int} (h : 0 < b) : Pq (Fr.mk a b) := ⟨Fr.mk_pos h, Fr.mk_cop h⟩
structure GQ (qs : List (Int × Int)) : Prop where
 pr : ∀ q ∈ qs, Pq q
 s1 : ∀ q ∈ qs, Sz 60 q.1
 s2 : ∀ q ∈ qs, Sz 60 q.2
 len : qs.length <= 8
def stp (a : Int × Int) (x : Int × (Int × Int)) : Int × Int := (a.1 * x.2.2 + x.1 * x.2.1 * a.2, a.2 * x.2.2)
def acc (l : List (Int × (Int × Int))) : Int × Int := l.foldl stp (0, 1)
def GX (l : List (Int × (Int × Int))) : Prop := ∀ x ∈ l, Sz 9 x.1 /\ Pq x.2 /\ Sz 60 x.2.1 /\ Sz 60 x.2.2
theorem GX.take {l : List (Int × (Int × Int))} (g : GX l) (i : Nat) : GX (l.take i) := fun x hx => g x (List.mem_of_mem_take hx)
def zM (r : List Int) (qs : List (Int × Int)) : Int × Int := Fr.mk (acc (r.zip qs)).1 (acc (r.zip qs)).2
def ones (qs : List (Int × Int)) : List (Int × (Int × Int)) := qs.map fun q => (1, q)
def zj (qs : List (Int × Int)) (n : Nat) : Bool := decide (qs.length = n) && (qs.all fun q => decide (0 <= q.1)) && decide (Fr.mk (acc (ones qs)).1 (acc (ones qs)).2 = (1, 1))
def ltQ (p q : Int × Int) : Bool := decide (p.1 * q.2 < q.1 * p.2)
theorem IsFr.inj {H : Hp} {v : V} {p q : Int × Int} (h : IsFr H v p) (k : IsFr H v q) : p = q := by
 obtain ⟨a, rfl, e⟩ := h
 obtain ⟨b, eb, f⟩ := k
 cases eb
 rw [e] at f
 simp at f
 exact Prod.ext f.1 f.2
theorem IsFr.at {l : Addr} {H : Hp} {v : V} {q : Int × Int} {xs : List V} {o : HO} (hl : H l = some (.lst xs)) (h : IsFr H v q) : IsFr (upd H l o) v q := by
 obtain ⟨b, e, z⟩ := h
 exact ⟨b, e, by rw [aH (qz z hl (by intro z; cases z))]; exact z⟩
end L2
namespace PySem
end PySem
namespace L2
open PySem PySem.Spec PyProof.Rows
structure Isi (K : PySem.W.Frag) (C : Addr) : Prop where
 ha : PySem.W.findIn K (.ref C) "__class__" = some (some (.builtin "object.__class__"))
 hn : PySem.W.specialIn K (.builtin "object.__class__") "__get__" = some (some (.builtin "getset_descriptor.__get__"))
 htk : PySem.W.takesIn K (.builtin "object.__class__") = some true
 hm : PySem.W.mroIn K C (.type "object") = some true
theorem Isi.ty {K : PySem.W.Frag} {C a dx : Addr} {fs : List (Str × V)} {H : Hp} (i : Isi K C) (c : Cls K C) (e : H a = some (.ins C dx fs)) : TyOf K H (.ref a) (.ref C) := .ins e c i.ha i.hn i.htk i.hm
def yK (K : PySem.W.Frag) : List V -> Hp -> VK -> Prop := fun xs H Q => ∃ x t c b, xs = [x, .ref c] /\ TyOf K H x t /\ PySem.W.kitOne K t (.ref c) = some b /\ Q (.bl b) H
theorem peC {X : Cx} {x : Str} {a : Addr} {pos : Pos} (hm : X.mg x = some (.ref a)) (hg : Gl X x) (hd : (x == ("__debug__" : Str)) = false := by decide) : PE X (.Name x pos) (tC (.ref a)) := pL hg hm rfl hd
end L2
set_option Elab.async false
set_option linter.all false
set_option maxRecDepth 100000
set_option maxHeartbeats 4000000
namespace L2
open PySem PySem.Spec PyProof.Rows
theorem ObjOk.there {P : Program} {w : World} {H : Hp} {h : Heap} {a : Addr} {o : HO} (x : ObjOk P w H h a o) : ∃ u, h.get? a = some u := by
 cases o with
 | lst xs => obtain ⟨_, _, _, _, e⟩ := x; exact ⟨_, e⟩
 | tup xs => obtain ⟨_, _, _, o, e, _⟩ := x; exact ⟨_, e⟩
 | dK kvs => obtain ⟨_, _, _, _, o, _, _, e, _⟩ := x; exact ⟨_, e⟩
 | dT kvs => obtain ⟨_, _, _, _, o, _, _, e, _⟩ := x; exact ⟨_, e⟩
 | set S n => obtain ⟨o, _, _, _, e, _⟩ := x; exact ⟨_, e⟩
 | ins C dx fs => obtain ⟨_, _, _, e, _⟩ := x; exact ⟨_, e⟩
 | own y => exact x
 | xd fs => obtain ⟨_, ⟨_, _, _, e, _⟩, _⟩ := x; exact ⟨_, e⟩
 | rng lo hi => obtain ⟨_, _, _, e⟩ := x; exact ⟨_, e⟩
 | frz ob u => obtain ⟨e, _⟩ := x; exact ⟨_, e⟩
 | tbl ps => exact ⟨_, (show h.get? a = some _ from x)⟩
 | met f y => exact ⟨_, (show h.get? a = some _ from x)⟩
 | ext φ => obtain ⟨_, e, _⟩ := x; exact e
theorem HOk.part {P : Program} {w : World} {H : Hp} {h h' : Heap} (x : HOk P w H h) (k : ∀ b o u, H b = some o -> h.get? b = some u -> h'.get? b = some u) : HOk P w H h' := fun a o e =>
 (x a o e).stay (fun b u hb q => by
  rcases hb with rfl | hb
  ·exact k b o u e q
  ·exact k b _ u hb q) (fun _ q => q) fun _ _ q => q
def CX1 (P : Program) (w : World) : CXT := fun outer H s E e s' => ∃ (ea : Addr) (cls a0 : Value) (B : Heap) (H' : Hp), e = .ref ea /\ s'.os = s.os /\ AllBare s'.gens /\
 Heap.FlyingW B outer ea cls a0 s'.heap /\ Un (frs outer) [] H H' s.heap s'.heap /\ HOk P w H' s'.heap /\ (∀ b o, H' b = some o -> ∃ u, B.get? b = some u) /\
 (∀ b o, s.heap.get? b = some o -> b ∉ frs outer -> ∃ u, B.get? b = some u) /\ E cls none H'
section
variable {X : Cx} {pins : List (Addr × Obj)} {σ : St} {H : Hp} {s s2 : Shared} {B : Heap} {E : XK}
theorem Inv.flown (I : Inv X pins σ H s) (os : s2.os = s.os) (gs : AllBare s2.gens) (st : B.StaysIn s.heap) (st' : B.StaysIn s2.heap) (up : s.heap.UpToSlots s2.heap)
  (trk : ∀ b o, H b = some o -> ∃ u, B.get? b = some u) (cov : ∀ b o, X.s₀.heap.get? b = some o -> b ∉ X.fs -> b ∉ X.ex -> ∃ u, B.get? b = some u) (pb : ∀ p ∈ X.pn ++ pins, ∃ u, B.get? p.1 = some u) : Inv X pins σ H s2 := by
 have kB : ∀ b o u, B.get? b = some u -> s.heap.get? b = some o -> s2.heap.get? b = some o := fun b o u hb e => by
  have := (st b u hb).symm.trans e
  cases this
  exact st' b _ hb
 have cl : ∀ c v, s.heap.IsCell c v -> s2.heap.IsCell c v := fun c v ⟨o, e, d⟩ => by
  obtain ⟨sl, q⟩ := up c o e (fun vs z => by rw [d] at z; cases z)
  exact ⟨_, q, d⟩
 refine ⟨I.ok, os.trans I.os, gs, ⟨fun b o e n hb hx => ?_, fun b o e n hb hx => ?_, I.base.free, fun b o e hx => ?_, I.base.tups, I.base.frzs, I.base.tbls⟩, ?_, fun x c e => ?_, I.free, I.freeC, fun p hp => ?_, I.hok.part fun b o u e q => ?_, I.len⟩
 ·obtain ⟨u, hu⟩ := cov b o e hb hx
  exact kB b o u hu (I.base.keep b o e n hb hx)
 ·obtain ⟨sl, q⟩ := I.base.slot b o e n hb hx
  obtain ⟨_, o', ho', hnf⟩ := I.ok.funs.mem hb
  rw [e] at ho'
  cases ho'
  obtain ⟨sl', q'⟩ := up b _ q hnf
  exact ⟨sl', q'⟩
 ·by_cases hb : b ∈ X.fs
  ·obtain ⟨_, o', ho', hnf⟩ := I.ok.funs.mem hb
   rw [e] at ho'
   cases ho'
   obtain ⟨sl, q⟩ := I.base.slot b o e (I.ok.frf b hb) hb hx
   obtain ⟨sl', q'⟩ := up b _ q hnf
   exact ⟨_, q'⟩
  ·obtain ⟨u, hu⟩ := cov b o e hb hx
   exact ⟨u, st' b u hu⟩
 ·obtain ⟨m, hn, hl⟩ := I.loc
  refine ⟨m, up.ns hn, fun i x v e1 e2 e3 => ?_⟩
  obtain ⟨u, r, l⟩ := hl i x v e1 e2 e3
  refine ⟨u, r, ?_⟩
  rcases l with l | ⟨k, c, e, z⟩
  ·exact .inl l
  ·exact .inr ⟨k, c, e, cl c _ z⟩
 ·obtain ⟨v, z⟩ := I.cell x c e
  exact ⟨v, cl c v z⟩
 ·obtain ⟨e, n, ne, nf, d⟩ := I.pin p hp
  obtain ⟨u, hu⟩ := pb p hp
  exact ⟨kB p.1 p.2 u hu e, n, ne, nf, d⟩
 ·obtain ⟨v, hv⟩ := trk b o e
  exact kB b u v hv q
theorem Inv.covers (I : Inv X pins σ H s) (cov : ∀ b o, s.heap.get? b = some o -> b ∉ frs X.stack -> ∃ u, B.get? b = some u) :
  (∀ b o, X.s₀.heap.get? b = some o -> b ∉ X.fs -> b ∉ X.ex -> ∃ u, B.get? b = some u) /\ ∀ p ∈ X.pn ++ pins, ∃ u, B.get? p.1 = some u := by
 refine ⟨fun b o e hb hx => ?_, fun p hp => ?_⟩
 ·obtain ⟨o1, e1⟩ := I.base.there b o e hx
  refine cov b o1 e1 fun z => ?_
  rcases List.mem_cons.mp (I.stkSub b z) with z | z
  ·exact absurd (Nat.lt_of_lt_of_le (Heap.lt_size e) I.ok.above) (by rw [z]; exact Nat.lt_irrefl _)
  ·exact hb z
 ·obtain ⟨e, n, ne, nf, d⟩ := I.pin p hp
  refine cov p.1 p.2 e fun z => ?_
  rcases List.mem_cons.mp (I.stkSub p.1 z) with z | z
  ·exact ne z
  ·exact nf z
theorem Inv.left {ea : Addr} {cls a0 : Value} (I : Inv X pins σ H s) (hex : X.ex = []) (os : s2.os = s.os) (gs : s2.gens = s.gens) (st : B.StaysIn s.heap) (fl : Heap.FlyingW B X.outer ea cls a0 s2.heap) (up : s.heap.UpToSlots s2.heap)
  (trk : ∀ b o, H b = some o -> ∃ u, B.get? b = some u) (cov : ∀ b o, X.s₀.heap.get? b = some o -> b ∉ X.fs -> b ∉ X.ex -> ∃ u, B.get? b = some u) (pb : ∀ p ∈ X.pn ++ pins, ∃ u, B.get? p.1 = some u) (hE : E cls none H) :
  CX1 X.prog X.w X.outer X.H₀ X.s₀ E (.ref ea) s2 := by
 have J := I.flown os (by rw [gs]; exact I.bare) st fl.1 up trk cov pb
 have u := J.base
 rw [hex] at u
 exact ⟨ea, cls, a0, B, H, rfl, J.os, J.bare, fl, u, J.hok, trk, fun b o e hb => cov b o e hb (by rw [hex]; simp), hE⟩
end
section
variable {P : Program} {w : World} {K : PySem.W.Frag} {mg : Str -> Option Value} {base : Heap} {N : List Str} {qual : Str} {scope : Scope} {f : Addr} {cd : Value} {A : Around} {outer : List Env} {s₀ : Shared} {H₀ : Hp} {E : XK}
theorem wR {pins : List (Addr × Obj)} {σ : St} {H : Hp} {s : Shared} {h' : Heap} {e : Addr} {cls : Value} {vs : List Value} (I : Inv (bD (CX1 P w) P w K mg base N qual scope f cd A outer s₀ H₀ E) pins σ H s) (hm : Heap.MadeExcOf s.heap h' e cls vs) (hE : E cls none H) :
  (bD (CX1 P w) P w K mg base N qual scope f cd A outer s₀ H₀ E).xe (.ref e) { s with heap := h' } := by
 have st : (PySem.W.hideAll s.heap (frs (bD (CX1 P w) P w K mg base N qual scope f cd A outer s₀ H₀ E).stack)).StaysIn s.heap := fun b o q => PySem.W.of_hideAll _ q
 have cov : ∀ b o, s.heap.get? b = some o -> b ∉ frs (bD (CX1 P w) P w K mg base N qual scope f cd A outer s₀ H₀ E).stack -> ∃ u, (PySem.W.hideAll s.heap (frs (bD (CX1 P w) P w K mg base N qual scope f cd A outer s₀ H₀ E).stack)).get? b = some u :=
  fun b o q hb => ⟨o, PySem.W.hideAll_get _ q hb⟩
 have trk : ∀ b o, H b = some o -> ∃ u, (PySem.W.hideAll s.heap (frs (bD (CX1 P w) P w K mg base N qual scope f cd A outer s₀ H₀ E).stack)).get? b = some u := fun b o q => by
  obtain ⟨u, hu⟩ := (I.hok b o q).there
  exact cov b u hu fun z => by rw [I.stkFree b z] at q; cases q
 obtain ⟨c1, c2⟩ := I.covers cov
 have fr := PySem.W.funFrames_hide I.stack (fun env he b hb => List.mem_filterMap.mpr ⟨env, he, hb⟩ : ∀ env ∈ (bD (CX1 P w) P w K mg base N qual scope f cd A outer s₀ H₀ E).stack, ∀ a, env.frame = some a -> a ∈ frs (bD (CX1 P w) P w K mg base N qual scope f cd A outer s₀ H₀ E).stack)
 show wpAny (model P w) _ (leaving _ (.ref e)) _ _ { s with heap := h' }
 exact wpAny_leaves_madeW (s := { s with heap := h' }) I.ok.frames rfl st fr hm fun h'' t fl tup tn up => I.left (s2 := { s with heap := h'' }) rfl rfl rfl st fl ((Heap.UpToSlots.of_keeps hm.keeps).trans up) trk c1 c2 hE
end
end L2
set_option Elab.async false
set_option linter.all false
set_option maxRecDepth 100000
set_option maxHeartbeats 4000000
namespace L2
open PySem PySem.Spec PyProof.Rows
abbrev tM : List Value := [.type "ValueError", .type "Exception", .type "BaseException", .type "object"]
structure Exc (K : PySem.W.Frag) (mg : Str -> Option Value) (x : Str) (C : Addr) : Prop where
 nm : PySem.W.nsIn K mainGlobals x = some (some (.ref C))
 mg_ : mg x = some (.ref C)
 own : PySem.W.excIn K C tM "ValueError.__new__" = true
structure ExcT (K : PySem.W.Frag) (C : Addr) : Prop where
 ga : PySem.W.findIn K (.ref C) "__getattribute__" = some (some (.builtin "BaseException.__getattribute__"))
 gt : PySem.W.findIn K (.ref C) "__getattr__" = some none
 cl : PySem.W.findIn K (.ref C) "__class__" = some (some (.builtin "object.__class__"))
 gn : PySem.W.specialIn K (.builtin "object.__class__") "__get__" = some (some (.builtin "getset_descriptor.__get__"))
 tk : PySem.W.takesIn K (.builtin "object.__class__") = some true
 mo : PySem.W.mroIn K C (.type "object") = some true
 mb : PySem.W.mroIn K C (.type "BaseException") = some true
def vy (C : Addr) (E : XK) (ta : TA) : TS := fun _ σ H => ta σ H fun vs H1 => vs.length <= sizeLine /\ E (.ref C) none H1
theorem uD {K : PySem.W.Frag} {mg : Str -> Option Value} {h : Heap} {x : Str} {C : Addr} (e : Exc K mg x C) (X : K.In h) : OwnCls x C tM "ValueError.__new__" mg h := by
 have q := e.own
 refine ⟨e.mg_, ?_⟩
 unfold PySem.W.excIn at q
 split at q
 ·rename_i dd cd sl ho
  split at q
  ·rename_i C' bm k0 k1 k2 k3 n k5 hm hs
   simp only [Bool.and_eq_true, beq_iff_eq, Bool.not_eq_true'] at q
   obtain ⟨⟨⟨⟨⟨rfl, rfl⟩, hdel⟩, ht⟩, hok⟩, hni⟩ := q
   obtain ⟨nm, bs, mro, ns, qn, hd, sn, sub, ab, col, del⟩ := cd
   dsimp only at hm hdel hok hni
   subst hm hdel
   have hsl : sl = #[k0, k1, k2, k3, some (.builtin "ValueError.__new__"), k5] := by
    obtain ⟨l⟩ := sl
    simp only at hs
    rw [hs]
   subst hsl
   exact ⟨bm, ns, nm, qn, bs, hd, sn, sub, ab, col, dd, k0, k1, k2, k3, k5, _, X _ _ ho, .of_isNs (PySem.W.isNs_of_in X hok), PySem.W.nsMap_none_of_in X hok hni, PySem.W.tail_of_in X ht⟩
  ·cases q
 ·cases q
section
variable {P : Program} {w : World} {K : PySem.W.Frag} {mg : Str -> Option Value} {base : Heap} {N : List Str} {qual : Str} {scope : Scope} {f : Addr} {cd : Value} {A : Around} {outer : List Env} {s₀ : Shared} {H₀ : Hp} {E : XK}
theorem jo {x : Str} {C : Addr} {np cpos pos : Pos} {e0 : Expr} {rest : List Expr} {ta : TA} (Ex : Exc K mg x C) (ha : PA (bD (CX1 P w) P w K mg base N qual scope f cd A outer s₀ H₀ E) (e0 :: rest) ta)
  (hg : Gl (bD (CX1 P w) P w K mg base N qual scope f cd A outer s₀ H₀ E) x) (hdb : (x == ("__debug__" : Str)) = false := by decide)
  (he : starEach (e0 :: rest) (envOfC qual scope s₀.heap.objs.size f cd) = (false, eval e0 (envOfC qual scope s₀.heap.objs.size f cd)) :: starEach rest (envOfC qual scope s₀.heap.objs.size f cd) := by rfl)
  (hpl : (backTo cpos (starEach rest (envOfC qual scope s₀.heap.objs.size f cd))).any (·.1) = false := by rfl) :
  PS (bD (CX1 P w) P w K mg base N qual scope f cd A outer s₀ H₀ E) (.Raise (some (.Call (.Name x np) (e0 :: rest) [] cpos)) none pos) (vy C E ta) := by
 intro pins s σ H D I h
 obtain ⟨tl, N', nm, q, bs, hdct, sn, sub, ab, col, dd, k0, k1, k2, k3, k5, mN, hC, hN, hni, T⟩ := (uD Ex I.ok.mod.kin).obj
 refine wpAny_Raise_call_subT (C := C) (nm := nm) (q := q) (N := N') (bs := bs) (bm := tl) (hdct := hdct) (sn := sn) (sub := sub) (ab := ab) (col := col) (dd := dd) (k0 := k0) (k1 := k1) (k2 := k2) (k3 := k3) (k5 := k5)
  PySem.F.excBase_ValueError (mN := mN) (T.hasType PySem.F.excBase_ValueError.hasBase) (I.ok.hd rfl) ?_ hni (gD I hg Ex.mg_ ⟨rfl, ?_⟩ hdb)
 ·show (backTo cpos (starEach (e0 :: rest) (envOfC qual scope s₀.heap.objs.size f cd))).any (·.1) = false
  rw [he]
  show (false || (backTo cpos (starEach rest (envOfC qual scope s₀.heap.objs.size f cd))).any (·.1)) = false
  rw [hpl]
  rfl
 have hw := thn (ha cpos pins s σ H _ I h) (Q' := fun us s1 => us.length <= sizeLine /\ s1.heap.get? C = some (excClassObj nm q C N' bs tl hdct sn sub ab col dd k0 k1 k2 k3 k5 "ValueError.__new__") /\ s1.heap.Ns N' mN /\ OwnTail s1.heap tM tl /\
   ∀ h' e, Heap.MadeExcOf s1.heap h' e (.ref C) us -> (bD (CX1 P w) P w K mg base N qual scope f cd A outer s₀ H₀ E).xe (.ref e) { s1 with heap := h' })
  (fun us s1 ⟨vs, H1, I1, r, q1, q2⟩ => ⟨by rw [<- r.length]; exact q1, I1.bk _ _ hC, hN.keeps I1.bk, T.keeps I1.bk, fun h' e hm => wR I1 hm q2⟩)
 show wpAny (model P w) _ (evalArgs (.ref C) true (backTo cpos (starEach (e0 :: rest) (envOfC qual scope s₀.heap.objs.size f cd))) []) _ _ s
 have hw' : wpAny (model P w) (A.deeper (envOfC qual scope s₀.heap.objs.size f cd)) (spliced (backTo cpos (starEach (e0 :: rest) (envOfC qual scope s₀.heap.objs.size f cd)))) _ _ s := hw
 rw [he] at hw' ⊢
 exact Calls.evalArgs_plain (wpAny_mono hw' (fun vs s₂ h₂ => ⟨rfl, h₂⟩) fun _ _ y => y)
end
structure DefX (P : Program) (w : World) (K : PySem.W.Frag) (mg : Str -> Option Value) (base : Heap) (x : Str) (ps : List Str) (k : Nat) (sp : Sp) : Prop where
 ex : ∃ f fd, FnOk P w K mg base (CX1 P w) k f fd ps sp /\ mg x = some (.ref f) /\ PySem.W.keepIn K (.ref f) = true /\ Binds K fd ps []
section
variable {P : Program} {w : World} {K : PySem.W.Frag} {mg : Str -> Option Value} {base : Heap}
theorem DefX.of {x : Str} {st : Stmt} {N ps : List Str} {k : Nat} {sp : Sp} (F : FunM K mg x st ps) (S : FnScope N ps (aG st)) (len : ∀ vs H Q E, sp vs H Q E -> vs.length = ps.length)
  (hbody : ∀ (f : Addr) (cdv : Value) (A : Around) (outer : List Env) (s : Shared) (H : Hp) (vs : List V) (Q : VK) (E : XK), Room k (A.deeper (envOfC x (aG st) s.heap.objs.size f cdv)) -> sp vs H Q E ->
   ∃ t, PSs (bD (CX1 P w) P w K mg base N x (aG st) f cdv A outer s H E) (bJ st) t /\ t { nx := fun _ H' => Q .non H', rt := Q } (start N vs) H) : DefX P w K mg base x ps (k + 1) sp := by
 obtain ⟨f, fd, F1, hm, hb⟩ := F.ex
 have kp := F1.kp
 obtain ⟨oc, od, kV, doc, pm, an, cdv, ct, osl, rfl, lk, hcd⟩ := F1.ex
 exact ⟨f, _, ul lk hcd S len (fun A outer s H vs Q E hr hsp => hbody f cdv A outer s H vs Q E hr hsp), hm, kp, hb⟩
end
theorem j5 {X : Cx} {x : Str} {ps : List Str} {k : Nat} {sp : Sp} {p pos : Pos} {e : Expr} {es : List Expr} {t : TA} {E : XK} (D : DefX X.prog X.w X.K X.mg X.base x ps k sp) (hr : Room k X.A) (hg : Gl X x) (hx : cz (CX1 X.prog X.w) X E) (ha : PA X (e :: es) t)
  (hdb : (x == ("__debug__" : Str)) = false := by decide)
  (he : starEach (e :: es) X.env = (false, eval e X.env) :: starEach es X.env := by rfl) (hpl : (backTo pos (starEach es X.env)).any (·.1) = false := by rfl) : PE X (.Call (.Name x p) (e :: es) [] pos) (jH sp [] E t) := by
 obtain ⟨f, fd, F, hm, hk, hb⟩ := D.ex
 exact qb F hr hg hm hk hb .nil hx ha hdb he hpl
end L2
set_option Elab.async false
set_option linter.all false
set_option maxRecDepth 100000
set_option maxHeartbeats 4000000
namespace L2
open PySem PySem.Spec PyProof.Rows
def ExcAt (ea : Addr) (cls : Value) (h : Heap) : Prop := ∃ ob vs, h.get? ea = some ob /\ ob.cls = cls /\ ob.data = .fields vs
abbrev Cx.tryX (X : Cx) (pins : List (Addr × Obj)) (E : XK) : Cx := { X with pn := X.pn ++ pins, xe := fun e s' => ∃ (ea : Addr) (cls a0 : Value) (B : Heap) (H1 : Hp) (σ1 : St), e = .ref ea /\ Inv X pins σ1 H1 s' /\ Heap.FlyingW B X.stack ea cls a0 s'.heap /\
 (∀ b o, H1 b = some o -> ∃ u, B.get? b = some u) /\ (∀ b o, X.s₀.heap.get? b = some o -> b ∉ X.fs -> b ∉ X.ex -> ∃ u, B.get? b = some u) /\ (∀ p ∈ X.pn ++ pins, ∃ u, B.get? p.1 = some u) /\ E cls none H1 }
abbrev Cx.inH (X : Cx) (ea : Addr) : Cx := { X with A := X.A.mark (some (.ref ea)), calm := false, xe := fun _ _ => False }
section
variable {X : Cx} {pins pins' : List (Addr × Obj)} {σ : St} {H : Hp} {s : Shared} {E : XK} {ea : Addr}
theorem Cx.Ok.try_ (ok : X.Ok) (pins : List (Addr × Obj)) (E : XK) : (X.tryX pins E).Ok :=
 ⟨ok.mod, ok.kind, ok.glob, ok.blt, ok.above, ok.inj, ok.has, ok.cab, ok.hd, ok.frames, ok.stk, ok.exf, ok.bs, ok.bsz, ok.noex, ok.exfs, ok.funs, ok.frf⟩
theorem Cx.Ok.untry (ok : (X.tryX pins E).Ok) : X.Ok :=
 ⟨ok.mod, ok.kind, ok.glob, ok.blt, ok.above, ok.inj, ok.has, ok.cab, ok.hd, ok.frames, ok.stk, ok.exf, ok.bs, ok.bsz, ok.noex, ok.exfs, ok.funs, ok.frf⟩
theorem Cx.Ok.inH (ok : X.Ok) (ea : Addr) : (X.inH ea).Ok :=
 ⟨ok.mod, ok.kind, ok.glob, ok.blt, ok.above, ok.inj, ok.has, ok.cab, (fun z => by cases z), ok.frames, ok.stk, ok.exf, ok.bs, ok.bsz, ok.noex, ok.exfs, ok.funs, ok.frf⟩
theorem Inv.try_ (I : Inv X pins σ H s) (E : XK) : Inv (X.tryX pins E) [] σ H s :=
 ⟨I.ok.try_ pins E, I.os, I.bare, I.base, I.loc, I.cell, I.free, I.freeC, (fun p hp => I.pin p (by simpa using hp)), I.hok, I.len⟩
theorem Inv.untry (I : Inv (X.tryX pins E) pins' σ H s) : Inv X pins σ H s :=
 ⟨I.ok.untry, I.os, I.bare, I.base, I.loc, I.cell, I.free, I.freeC, (fun p hp => I.pin p (List.mem_append_left _ hp)), I.hok, I.len⟩
theorem Inv.inH (I : Inv X pins σ H s) (ea : Addr) : Inv (X.inH ea) pins σ H s :=
 ⟨I.ok.inH ea, I.os, I.bare, I.base, I.loc, I.cell, I.free, I.freeC, I.pin, I.hok, I.len⟩
theorem Inv.outH (I : Inv (X.inH ea) pins σ H s) (ok : X.Ok) : Inv X pins σ H s :=
 ⟨ok, I.os, I.bare, I.base, I.loc, I.cell, I.free, I.freeC, I.pin, I.hok, I.len⟩
theorem Inv.trackX {a : Addr} {o : HO} (I : Inv X pins σ H s) (hn : H a = none) (h0 : X.s₀.heap.get? a = none) (hL : a ≠ X.env.locals) (hC : ∀ x c, X.env.cells.lookup x = some c -> c ≠ a) (hp : ∀ p ∈ X.pn ++ pins, p.1 ≠ a)
  (new : ObjOk X.prog X.w (upd H a o) s.heap a o) : Inv X pins σ (upd H a o) s := by
 refine ⟨I.ok, I.os, I.bare, ⟨I.base.keep, I.base.slot, fun b ob e n hx => ?_, I.base.there, fun b xs e => ?_, fun b ob u e => ?_, fun b ps e => ?_⟩, I.loc, I.cell, ?_, fun x c e => ?_, fun p q => ?_, fun b u e => ?_, I.len⟩
 ·rw [aH (fun z => by rw [z, h0] at e; cases e)]; exact I.base.free b ob e n hx
 ·have := I.base.tups b xs e
  rw [aH (aQ this hn)]; exact this
 ·have := I.base.frzs b ob u e
  rw [aH (aQ this hn)]; exact this
 ·obtain ⟨m, q⟩ := I.base.tbls b ps e
  exact ⟨m, by rw [aH (aQ q hn)]; exact q⟩
 ·rw [aH hL.symm]; exact I.free
 ·rw [aH (hC x c e)]; exact I.freeC x c e
 ·obtain ⟨a1, a2, a3, a4, a5⟩ := I.pin p q
  exact ⟨a1, by rw [aH (hp p q)]; exact a2, a3, a4, a5⟩
 ·by_cases hb : b = a
  ·subst hb; rw [au] at e; cases e; exact new
  ·rw [aH hb] at e
   exact (I.hok b u e).stay (fun _ _ _ q => q) (fun c q => by rw [aH (aQ q hn)]; exact q) fun c xs q => by rw [aH (aQ q hn)]; exact q
theorem Inv.unbound {h' : Heap} {m' : Str -> Option Value} {t : Nat} (I : Inv X pins σ H s) (hs : Heap.SameBut X.env.locals s.heap h') (hn : h'.Ns X.env.locals m') : Inv X pins (List.replicate X.N.length none) H { s with heap := h', toks := t } := by
 have neL : ∀ b o, X.s₀.heap.get? b = some o -> b ≠ X.env.locals := fun b o e => Nat.ne_of_lt (Nat.lt_of_lt_of_le (Heap.lt_size e) I.ok.above)
 refine ⟨I.ok, I.os, I.bare, ⟨fun b o e n hb hx => (hs.2 b (neL b o e)).trans (I.base.keep b o e n hb hx), fun b o e n hb hx => ?_, I.base.free, fun b o e hx => ?_, I.base.tups, I.base.frzs, I.base.tbls⟩, ⟨m', hn, fun i x v e1 e2 e3 => ?_⟩, fun x c e => ?_, I.free, I.freeC, fun p hp => ?_, fun b u e => ?_, by simp⟩
 ·obtain ⟨sl, e1⟩ := I.base.slot b o e n hb hx
  exact ⟨sl, (hs.2 b (neL b o e)).trans e1⟩
 ·obtain ⟨o', e1⟩ := I.base.there b o e hx
  exact ⟨o', (hs.2 b (neL b o e)).trans e1⟩
 ·rw [List.getElem?_replicate] at e2
  split at e2 <;> cases e2
 ·obtain ⟨v, z⟩ := I.cell x c e
  exact ⟨v, z.sameBut hs (I.cne x c e)⟩
 ·obtain ⟨e, n, ne, nf, d⟩ := I.pin p hp
  exact ⟨(hs.2 p.1 ne).trans e, n, ne, nf, d⟩
 ·refine (I.hok b u e).stay (fun c w' hc q => (hs.2 c ?_).trans q) (fun _ q => q) fun _ _ q => q
  rintro rfl
  rcases hc with rfl | hc
  ·rw [I.free] at e; cases e
  ·rw [I.free] at hc; cases hc
theorem wY : cz (CX1 X.prog X.w) (X.tryX pins E) E := by
 intro pins' σ H s e s' I h
 obtain ⟨ea, cls, a0, B, H', rfl, os, bare, fl, un, hok, trk, cov, hE⟩ := h
 have I0 := I.untry
 have I' := I0.call' os un hok bare (ch := []) (fun b z => absurd z (by simp))
 obtain ⟨c1, c2⟩ := I0.covers cov
 exact ⟨ea, cls, a0, B, H', σ, rfl, I', fl, trk, c1, c2, hE⟩
end
def xQ (K : PySem.W.Frag) (len : Nat) (C : Addr) (i : Nat) (E : XK) (tb th : TS) : TS := fun D σ H => tb D σ H /\ ∀ (cls : Value) (H1 : Hp) (ea : Addr), E cls none H1 -> H1 ea = none -> PySem.W.exmOne K cls (.ref C) = some true /\
 th { nx := fun _ H2 => D.nx (List.replicate len none) H2, rt := D.rt, bk := fun _ H2 => D.bk (List.replicate len none) H2, ct := fun _ H2 => D.ct (List.replicate len none) H2 } ((List.replicate len none).set i (some (.ref ea))) (upd H1 ea (.ext (ExcAt ea cls)))
theorem vW {X : Cx} {body : List Stmt} {x n : Str} {np pos hpos : Pos} {b0 : Stmt} {suite : List Stmt} {tb th : TS} {E : XK} {C : Addr} {i : Nat} (hst : X.stack = X.env :: X.outer) (hfr : X.env.frame = some X.env.locals) (hex : X.ex = [])
  (hN : X.N.Nodup) (hi : X.N[i]? = some n) (hl : X.env.scope.names.lookup n = some .local) (hkn : X.env.kindOf n = some .local) (hg : Gl X x) (hm : X.mg x = some (.ref C))
  (hb : ∀ pins, PSs (X.tryX pins E) body tb) (hh : ∀ ea, PSs (X.inH ea) (b0 :: suite) th) (hd : (x == ("__debug__" : Str)) = false := by decide) :
  PS X (.Try body [.ExceptHandler (some (.Name x np)) (some n) (b0 :: suite) hpos] [] [] pos) (xQ X.K X.N.length C i E tb th) := by
 intro pins s σ H D I h
 obtain ⟨h1, h2⟩ := h
 refine wpAny_Try_except (wpAny_mono (hb pins [] s σ H D (I.try_ E) h1) (fun f s₁ q => ?_) (fun e s₁ q => ?_))
 ·cases f with
  | next => obtain ⟨σ', H', I', q⟩ := q; exact wpAny_execs_nil ⟨σ', H', I'.untry, q⟩
  | brk => obtain ⟨σ', H', I', q⟩ := q; exact ⟨σ', H', I'.untry, q⟩
  | cont => obtain ⟨σ', H', I', q⟩ := q; exact ⟨σ', H', I'.untry, q⟩
  | ret u => obtain ⟨v, σ', H', I', r, q⟩ := q; exact ⟨v, σ', H', I'.untry, r, q⟩
 ·obtain ⟨ea, cls, a0, B, H1, σ1, rfl, I1, fl, trk, c1, c2, hE⟩ := q
  have afr := I.ok.frames
  rw [hst] at fl afr
  refine wpAny_looks_onW afr hfr fl fun h₄ held₄ up₄ => ?_
  refine wpAny_landsW held₄ fun h₅ fl₅ up₅ => ?_
  have I5 : Inv X pins σ1 H1 { s₁ with heap := h₅ } := I1.flown rfl I1.bare fl.1 fl₅.1 (up₄.trans up₅) trk c1 c2
  have nea : H1 ea = none := by
   cases e : H1 ea with
   | none => rfl
   | some o => obtain ⟨u, hu⟩ := trk ea o e; rw [fl.2.1] at hu; cases hu
  obtain ⟨hx, hth⟩ := h2 cls H1 ea hE nea
  refine wpAny_handleBy_cons (codeAny_handlers_test (gD (X := X.inH ea) (I5.inH ea) hg hm ?_ hd)) (by intro q; cases q)
  obtain ⟨ob, hob, hobc⟩ := fl₅.there
  have LT : PySem.W.Looks (model X.prog X.w) h₅ (typeOf (.ref ea)) cls := hobc ▸ (PySem.W.Looks.ld hob).andThen .now
  refine (PySem.W.exm_one (K := X.K) I5.kIn LT hx).here ?_
  show codeAny _ _ _ _ _
  refine codeAny_handlers_suite_as ?_
  refine lands_againW fl₅ fun h₆ fl₆ up₆ => ?_
  have I6 : Inv X pins σ1 H1 { s₁ with heap := h₆ } := I5.flown rfl I1.bare fl₅.1 fl₆.1 up₆ trk c1 c2
  obtain ⟨oe, ws, hoe, hoec, hoed, _⟩ := fl₆.first
  have nfr : ∀ b ∈ frs (X.env :: X.outer), b ≠ ea := fun b hb z => by
   obtain ⟨_, o', ho', hnf⟩ := fl₆.2.2.1.mem hb
   rw [z, hoe] at ho'
   cases ho'
   exact hnf _ hoed
  have sub : ∀ b ∈ X.fs, b ∈ frs (X.env :: X.outer) := fun b hb => by
   unfold frs
   rw [List.filterMap_cons, hfr]
   exact List.mem_cons_of_mem _ hb
  have n0 : X.s₀.heap.get? ea = none := by
   cases e : X.s₀.heap.get? ea with
   | none => rfl
   | some o =>
    by_cases hb : ea ∈ X.fs
    ·exact absurd rfl (nfr ea (sub ea hb))
    ·obtain ⟨u, hu⟩ := c1 ea o e hb (by rw [hex]; simp)
     rw [fl.2.1] at hu; cases hu
  have nL : ea ≠ X.env.locals := (nfr X.env.locals (by unfold frs; rw [List.filterMap_cons, hfr]; exact List.mem_cons_self)).symm
  have nC : ∀ y c, X.env.cells.lookup y = some c -> c ≠ ea := fun y c e z => by
   obtain ⟨v, o, ho, hdd⟩ := I6.cell y c e
   rw [z] at ho
   have ho' : h₆.get? ea = some o := ho
   rw [hoe] at ho'
   cases ho'
   rw [hoed] at hdd
   cases hdd
  have nP : ∀ p ∈ X.pn ++ pins, p.1 ≠ ea := fun p hp z => by
   obtain ⟨u, hu⟩ := c2 p hp
   rw [z, fl.2.1] at hu; cases hu
  have I7 : Inv X pins σ1 (upd H1 ea (.ext (ExcAt ea cls))) { s₁ with heap := h₆ } := I6.trackX nea n0 nL nC nP
   ⟨⟨oe, ws, hoe, hoec, hoed⟩, ⟨oe, hoe⟩, fun g1 g2 ⟨o, v, a1, a2, a3⟩ k => ⟨o, v, k o a1, a2, a3⟩⟩
  have I8 := I7.weak (σ' := List.replicate X.N.length none) (by rw [List.length_replicate]; exact I7.len.symm) (fun j v e => by
   rw [List.getElem?_replicate] at e
   split at e <;> cases e)
  refine jl (X := X.inH ea) (I8.inH ea) hN hi (.inl hl) (v := .ref ea) rfl (fun s' I9 => ?_) (.inr hl)
  refine wpAny_mono (hh ea pins s' _ _ _ I9 hth) (fun f s'' q => ?_) (fun _ _ z => z.elim)
  have fin : ∀ {σ' : St} {H' : Hp} {Q : Shared -> Prop}, Inv (X.inH ea) pins σ' H' s'' -> (∀ s3, Inv X pins (List.replicate X.N.length none) H' s3 -> Q s3) -> wpAny (model X.prog X.w) X.A (do bindName X.env n .none; unbindBehindTheSuite X.env n hpos) (fun _ s3 => Q s3) X.xe s'' := fun {σ' H' Q} J k => by
   obtain ⟨m, hn, _⟩ := id J.loc
   refine wpAny_nameGoes hkn hn (by rw [I.ok.kind]; rfl) fun h' m' hn' hs => k _ ?_
   exact (J.outH I.ok).unbound hs hn'
  cases f with
  | next => obtain ⟨σ', H', J, q⟩ := q; exact fin J fun s3 J3 => ⟨_, H', J3, q⟩
  | brk => obtain ⟨σ', H', J, q⟩ := q; exact fin J fun s3 J3 => ⟨_, H', J3, q⟩
  | cont => obtain ⟨σ', H', J, q⟩ := q; exact fin J fun s3 J3 => ⟨_, H', J3, q⟩
  | ret u => obtain ⟨v, σ', H', J, r, q⟩ := q; exact fin J fun s3 J3 => ⟨v, _, H', J3, r, q⟩
end L2
set_option Elab.async false
set_option linter.all false
set_option maxRecDepth 100000
set_option maxHeartbeats 400000
namespace L2
open PySem PySem.Spec PyProof.Rows PySem.W PySem.Calls PySem.Builtin PySem.Builtin.ObjectAttr PySem.Builtin.Getset_descriptor
section
variable {K : Frag} {C x : Addr}
theorem sX {M : Model} {h : Heap} (X : K.In h) (e : ExcT K C) : Looks M h (find (.ref x) (.ref C) "__class__") (.bind (.builtin "getset_descriptor.__get__") (.builtin "object.__class__")) := by
 have L1 := looks_findIn (M := M) X e.cl
 have L2' : Looks M h (getOf (some (.builtin "object.__class__"))) (some (.builtin "getset_descriptor.__get__")) := looks_specialIn X e.gn
 have L3 := looks_takesIn (M := M) X e.tk
 exact L1.andThen (L2'.andThen ((show Looks M h (dataDescriptor? (some (.builtin "object.__class__")) (some (.builtin "getset_descriptor.__get__"))) (some (.builtin "getset_descriptor.__get__", .builtin "object.__class__")) from L3.andThen .now).andThen (Looks.tag .now)))
theorem exc_type {M : Model} {h : Heap} (p : ExcAt x (.ref C) h) : Looks M h (typeOf (.ref x)) (.ref C) := by
 obtain ⟨ob, vs, h1, h2, _⟩ := p
 exact h2 ▸ (Looks.ld h1).andThen .now
variable {prog : Program} {w : World} {A : Around} {E : Value -> Shared -> Prop} {s : Shared}
theorem sy {R : Result -> Shared -> Prop} (X : K.In s.heap) (e : ExcT K C) (p : ExcAt x (.ref C) s.heap) (h : R (.ok (.ret (.ref C))) s) :
  codeAny (model prog w) A (.call (.builtin "getset_descriptor.__get__") ⟨[.builtin "object.__class__", .ref x, .ref C], []⟩) R s := by
 obtain ⟨hh, g, dr, t, os⟩ := s
 have L0 := exc_type (M := model prog w) p
 have L1 := looks_mroIn (M := model prog w) X e.mo
 obtain ⟨ob, vs, o1, o2, _⟩ := p
 refine codeAny_call_builtin KF.slot_gs.plain KF.entry_gs (KF.slot_gs.check _ _ _ _ _ _ _ _ KF.type_class (KF.args_gs _ _ _) ?_)
 unfold Builtin.«getset_descriptor.__get__» descrGet
 rw [dga_obj]
 refine wpAny_bind (wpAny_pure ?_)
 unfold descrGetter descrCheckInstance descrNameAndClass isInstance
 simp only [KF.owner_class]
 repeat lk
 refine ⟨Code.quiet_builtin _ (by decide +kernel), codeAny_builtin KF.entry_class ?_⟩
 unfold Builtin.«object.__class__» shownTypeOf
 repeat lk
 exact h
theorem rY {tk : Tok} {Q : Fin -> Shared -> Prop} (X : K.In s.heap) (e : ExcT K C) (p : ExcAt x (.ref C) s.heap) (h : Q (.done (.ret (.ref C))) s) :
  wpAny (model prog w) A (Builtin.«object.__getattribute__» ⟨[.ref x, .str "__class__" tk], []⟩) Q E s := by
 obtain ⟨hh, g, dr, t, os⟩ := s
 have L0 := exc_type (M := model prog w) p
 have L4 := sX (x := x) (M := model prog w) X e
 unfold Builtin.«object.__getattribute__»
 refine wpAny_bind (wpAny_of_eq (a := (Value.ref x, [Value.str "__class__" tk])) rfl ?_)
 refine wpAny_bind (wpAny_of_eq (a := ("__class__" : Str)) rfl ?_)
 refine wpAny_bind (L0.at (wpAny_bind (L4.at ?_)))
 show wpAny _ _ (bindTo (.builtin "getset_descriptor.__get__") (.builtin "object.__class__") (.ref x) (.ref C)) _ _ _
 show wpAny _ _ (holding [.builtin "object.__class__"] (call (.builtin "getset_descriptor.__get__") [.builtin "object.__class__", .ref x, .ref C]) >>= ret) _ _ _
 refine wpAny_bind (wpAny_holding (wpAny_call (sy (s := ⟨hh, g, dr, t, os⟩) X e p ?_)))
 exact wpAny_pure h
theorem vZ {R : Result -> Shared -> Prop} {tk : Tok} (X : K.In s.heap) (e : ExcT K C) (p : ExcAt x (.ref C) s.heap) (h : R (.ok (.ret (.ref C))) s) :
  codeAny (model prog w) A (.call (.builtin "BaseException.__getattribute__") ⟨[.ref x, .str "__class__" tk], []⟩) R s := by
 obtain ⟨hh, g, dr, t, os⟩ := s
 have L0 := exc_type (M := model prog w) p
 have L1 := looks_mroIn (M := model prog w) X e.mb
 refine codeAny_call_builtin PySem.F.attr_ValueError.ga.plain PySem.F.entry_bexc_ga ?_
 have hk : builtinKind "BaseException.__getattribute__" = some .slot := by decide +kernel
 have hsplit : splitId "BaseException.__getattribute__" = some ("BaseException", "__getattribute__") := by decide +kernel
 have ha := PySem.F.args_bexc_ga (.ref x) (.str "__class__" tk)
 have fin := rY (prog := prog) (w := w) (A := A.in1) (E := fun e s' => R (Except.error e) s') (s := ⟨hh, g, dr, t, os⟩) (x := x) (tk := tk) (Q := fun fin s' => match fin with
  | Fin.done f => R (Except.ok f) s'
  | Fin.again c' => c'.quiet = true /\ codeAny (model prog w) A c' R s') X e p h
 simp only [checkBuiltinCall, hk, hsplit]
 refine wpAny_bind ?_
 unfold isInstance
 refine wpAny_bind (L0.at (L1.at ?_))
 simp only [Bool.not_true, Bool.false_eq_true, if_false]
 exact wpAny_of_eq ha fin
theorem qY {Q : Option Value -> Shared -> Prop} (X : K.In s.heap) (e : ExcT K C) (p : ExcAt x (.ref C) s.heap) (h : Q (some (.ref C)) { s with toks := s.toks + 1 }) : wpAny (model prog w) A (getAttr? (.ref x) "__class__") Q E s := by
 obtain ⟨hh, g, d, t, os⟩ := s
 have L0 := exc_type (M := model prog w) p
 have L1 := looks_findIn (M := model prog w) X e.ga
 have L3 := looks_findIn (M := model prog w) X e.gt
 have b1 := PySem.F.attr_ValueError.ga.bind (.ref x)
 unfold getAttr? getAttrBy? getAttrBy
 refine wpAny_bind (wpAny_mkText (wpAny_bind (wpAny_attempt (wpAny_holding (wpAny_bind (L0.at (wpAny_bind (L1.at ?_))))))))
 have hx2 : (Value.builtin "BaseException.__getattribute__" == Value.builtin "object.__getattribute__") = false := by decide +kernel
 dsimp only
 rw [hx2, Bool.and_false, if_neg Bool.false_ne_true]
 unfold getAttrByItsOwn hookBefore
 show wpAny _ _ (typeLookup (.ref C) "__getattr__" >>= _) _ _ _
 refine wpAny_bind (L3.at ?_)
 refine wpAny_bind (wpAny_attempt (wpAny_holding ?_))
 unfold callGetattribute boundAndCalled
 rw [Bool.false_and, if_neg Bool.false_ne_true]
 refine wpAny_bind (wpAny_of_eq b1 ?_)
 refine wpAny_call (vZ (s := ⟨hh, g, d, t + 1, os⟩) X e p ?_)
 refine handed_on rfl ?_
 exact wpAny_pure h
theorem m9 (hc : (clsIn K C).isSome = true) (e : ExcT K C) : KitX K (.ref x) (.ref C) (ExcAt x (.ref C)) where
 ty := fun _ _ _ p => exc_type p
 it := fun _ _ X _ => by
  obtain ⟨cdD, hcD⟩ := Option.isSome_iff_exists.mp hc
  unfold clsIn at hcD
  split at hcD
  ·rename_i c' d' cd' sl' ho
   intro A' Q' E' s' k q
   unfold isType loadHead
   exact wpAny_bind (wpAny_loadPart (k _ _ (X _ _ ho)) (wpAny_pure q))
  ·cases hcD
 ne := fun h tp dd its n sl X htp => by
  obtain ⟨cdD, hcD⟩ := Option.isSome_iff_exists.mp hc
  refine Bool.eq_false_iff.mpr fun q => ?_
  have e : C = tp := Value.ref.inj (beq_iff_eq.mp q)
  subst e
  unfold clsIn at hcD
  split at hcD
  ·rename_i c' d' cd' sl' ho
   have z := (X _ _ ho).symm.trans htp
   cases z
  ·cases hcD
 ca := fun X p k => qY X e p k
theorem ExcT.cls (e : ExcT K C) : (clsIn K C).isSome = true := by
 have := e.mo
 unfold mroIn at this
 cases h : clsIn K C with
 | none => rw [h] at this; cases this
 | some _ => rfl
end
def ug (K : PySem.W.Frag) : List V -> Hp -> VK -> Prop := fun xs H Q => ∃ ea C c b, xs = [.ref ea, c] /\ H ea = some (.ext (ExcAt ea (.ref C))) /\ ExcT K C /\ ((∃ D, c = .ref D /\ kitOne K (.ref C) (.ref D) = some b) \/ ∃ T, c = .ty T /\ kitOne K (.ref C) (.type T) = some b) /\ Q (.bl b) H
theorem nF {X : Cx} : CallR X (.builtin "isinstance") (ug X.K) := by
 intro pins s σ H xs us Q I r h
 obtain ⟨ea, C, c, b, rfl, he, ex, hk, q⟩ := h
 obtain ⟨p, _, _⟩ := (show ObjOk X.prog X.w H s.heap ea (.ext (ExcAt ea (.ref C))) from I.hok ea _ he)
 cases r with
 | cons r1 rr =>
  cases rr with
  | cons r2 rr =>
   cases rr
   cases r1
   rcases hk with ⟨D, rfl, e⟩ | ⟨T, rfl, e⟩
   ·cases r2
    exact kia_one (m9 ex.cls ex) I.kIn p e (fun z => nomatch z) fun tk => ⟨.bl b, H, I.tok _, rfl, q⟩
   ·cases r2
    exact kia_one (m9 ex.cls ex) I.kIn p e (fun z => nomatch z) fun tk => ⟨.bl b, H, I.tok _, rfl, q⟩
theorem jK {X : Cx} (K : PySem.W.Frag) (h : X.K = K := by rfl) : CallR X (.builtin "isinstance") (ug K) := by subst h; exact nF
end L2
set_option Elab.async false
set_option linter.all false
set_option maxRecDepth 100000
set_option maxHeartbeats 400000
namespace L2
open PySem PySem.Spec PyProof.Rows
mutual
def Lay (H : Hp) : D -> V -> Prop
 | .non, v => v = .non
 | .bl b, v => v = .bl b
 | .int i, v => v = .int i
 | .str x, v => v = .str x
 | .tup ds, v => ∃ a vs, v = .ref a /\ H a = some (.tup vs) /\ Lays H ds vs
 | .lst ds, v => ∃ a vs, v = .ref a /\ H a = some (.lst vs) /\ Lays H ds vs
def Lays (H : Hp) : List D -> List V -> Prop
 | [], vs => vs = []
 | d :: ds, vs => ∃ v r, vs = v :: r /\ Lay H d v /\ Lays H ds r
end
mutual
theorem Lay.mono {H H' : Hp} (e : Same H H') : ∀ {d : D} {v : V}, Lay H d v -> Lay H' d v
 | .non, _, h => h
 | .bl _, _, h => h
 | .int _, _, h => h
 | .str _, _, h => h
 | .tup ds, _, h => by
  unfold Lay at h ⊢
  obtain ⟨a, vs, h1, h2, h3⟩ := h
  exact ⟨a, vs, h1, e _ _ h2, Lays.mono e h3⟩
 | .lst ds, _, h => by
  unfold Lay at h ⊢
  obtain ⟨a, vs, h1, h2, h3⟩ := h
  exact ⟨a, vs, h1, e _ _ h2, Lays.mono e h3⟩
theorem Lays.mono {H H' : Hp} (e : Same H H') : ∀ {ds : List D} {vs : List V}, Lays H ds vs -> Lays H' ds vs
 | [], _, h => h
 | d :: ds, _, h => by
  unfold Lays at h ⊢
  obtain ⟨v, r, h1, h2, h3⟩ := h
  exact ⟨v, r, h1, Lay.mono e h2, Lays.mono e h3⟩
end
mutual
theorem Lay.rep {K : PySem.W.Frag} {H : Hp} : ∀ {d : D} {v : V}, Lay H d v -> Rep K H d v
 | .non, _, h => h
 | .bl _, _, h => h
 | .int _, _, h => h
 | .str _, _, h => h
 | .tup ds, _, h => by
  unfold Lay at h
  obtain ⟨a, vs, h1, h2, h3⟩ := h
  unfold Rep
  exact ⟨a, vs, h1, SqT.of h2, Lays.rep h3⟩
 | .lst ds, _, h => by
  unfold Lay at h
  obtain ⟨a, vs, h1, h2, h3⟩ := h
  unfold Rep
  exact ⟨a, vs, h1, SqL.of h2, Lays.rep h3⟩
theorem Lays.rep {K : PySem.W.Frag} {H : Hp} : ∀ {ds : List D} {vs : List V}, Lays H ds vs -> Reps K H ds vs
 | [], _, h => h
 | d :: ds, _, h => by
  unfold Lays at h
  obtain ⟨v, r, h1, h2, h3⟩ := h
  unfold Reps
  exact ⟨v, r, h1, Lay.rep h2, Lays.rep h3⟩
end
mutual
theorem Lay.uniq {H : Hp} : ∀ {d e : D} {v : V}, Lay H d v -> Lay H e v -> d = e
 | .non, e, _, h, k => by unfold Lay at h; subst h; cases e <;> unfold Lay at k <;> first | rfl | (cases k; done) | (obtain ⟨_, _, z, _⟩ := k; cases z)
 | .bl b, e, _, h, k => by unfold Lay at h; subst h; cases e <;> unfold Lay at k <;> first | (cases k; done) | (cases k; rfl) | (obtain ⟨_, _, z, _⟩ := k; cases z)
 | .int b, e, _, h, k => by unfold Lay at h; subst h; cases e <;> unfold Lay at k <;> first | (cases k; done) | (cases k; rfl) | (obtain ⟨_, _, z, _⟩ := k; cases z)
 | .str b, e, _, h, k => by unfold Lay at h; subst h; cases e <;> unfold Lay at k <;> first | (cases k; done) | (cases k; rfl) | (obtain ⟨_, _, z, _⟩ := k; cases z)
 | .tup ds, e, _, h, k => by
  unfold Lay at h
  obtain ⟨a, vs, rfl, h2, h3⟩ := h
  cases e with
  | tup es =>
   unfold Lay at k
   obtain ⟨b, ws, z, k2, k3⟩ := k
   cases z
   rw [h2] at k2
   cases k2
   rw [Lays.uniq h3 k3]
  | lst es => unfold Lay at k; obtain ⟨b, ws, z, k2, k3⟩ := k; cases z; rw [h2] at k2; cases k2
  | non => unfold Lay at k; cases k
  | bl _ => unfold Lay at k; cases k
  | int _ => unfold Lay at k; cases k
  | str _ => unfold Lay at k; cases k
 | .lst ds, e, _, h, k => by
  unfold Lay at h
  obtain ⟨a, vs, rfl, h2, h3⟩ := h
  cases e with
  | lst es =>
   unfold Lay at k
   obtain ⟨b, ws, z, k2, k3⟩ := k
   cases z
   rw [h2] at k2
   cases k2
   rw [Lays.uniq h3 k3]
  | tup es => unfold Lay at k; obtain ⟨b, ws, z, k2, k3⟩ := k; cases z; rw [h2] at k2; cases k2
  | non => unfold Lay at k; cases k
  | bl _ => unfold Lay at k; cases k
  | int _ => unfold Lay at k; cases k
  | str _ => unfold Lay at k; cases k
theorem Lays.uniq {H : Hp} : ∀ {ds es : List D} {vs : List V}, Lays H ds vs -> Lays H es vs -> ds = es
 | [], es, _, h, k => by
  unfold Lays at h
  subst h
  cases es with
  | nil => rfl
  | cons e es => unfold Lays at k; obtain ⟨_, _, z, _⟩ := k; cases z
 | d :: ds, es, _, h, k => by
  unfold Lays at h
  obtain ⟨v, r, rfl, h2, h3⟩ := h
  cases es with
  | nil => unfold Lays at k; cases k
  | cons e es =>
   unfold Lays at k
   obtain ⟨v', r', z, k2, k3⟩ := k
   cases z
   rw [Lay.uniq h2 k2, Lays.uniq h3 k3]
end
theorem Lays.len {H : Hp} : ∀ {ds : List D} {vs : List V}, Lays H ds vs -> vs.length = ds.length
 | [], _, h => by unfold Lays at h; rw [h]; rfl
 | d :: ds, _, h => by
  unfold Lays at h
  obtain ⟨v, r, rfl, _, h3⟩ := h
  rw [List.length_cons, List.length_cons, h3.len]
theorem Lays.append {H : Hp} : ∀ {ds es : List D} {vs ws : List V}, Lays H ds vs -> Lays H es ws -> Lays H (ds ++ es) (vs ++ ws)
 | [], _, _, _, h, k => by unfold Lays at h; rw [h]; exact k
 | d :: ds, _, _, _, h, k => by
  unfold Lays at h
  obtain ⟨v, r, rfl, h2, h3⟩ := h
  show Lays H (d :: (ds ++ _)) (v :: (r ++ _))
  unfold Lays
  exact ⟨v, _, rfl, h2, h3.append k⟩
theorem Lays.get {H : Hp} : ∀ {ds : List D} {vs : List V} {i : Nat} {d : D}, Lays H ds vs -> ds[i]? = some d -> ∃ v, vs[i]? = some v /\ Lay H d v
 | [], _, i, _, _, e => by simp at e
 | d :: ds, _, i, e, h, k => by
  unfold Lays at h
  obtain ⟨v, r, rfl, h2, h3⟩ := h
  cases i with
  | zero => simp at k; subst k; exact ⟨v, rfl, h2⟩
  | succ i => obtain ⟨u, a, b⟩ := h3.get (i := i) (by simpa using k); exact ⟨u, by simpa using a, b⟩
theorem Lays.mem {H : Hp} : ∀ {ds : List D} {vs : List V} {v : V}, Lays H ds vs -> v ∈ vs -> ∃ d, d ∈ ds /\ Lay H d v
 | [], _, _, h, k => by unfold Lays at h; rw [h] at k; cases k
 | d :: ds, _, v, h, k => by
  unfold Lays at h
  obtain ⟨u, r, rfl, h2, h3⟩ := h
  rcases List.mem_cons.mp k with rfl | k
  ·exact ⟨d, List.mem_cons_self, h2⟩
  ·obtain ⟨e, a, b⟩ := h3.mem k
   exact ⟨e, List.mem_cons_of_mem _ a, b⟩
def tyD : D -> String
 | .non => "NoneType"
 | .bl _ => "bool"
 | .int _ => "int"
 | .str _ => "str"
 | .tup _ => "tuple"
 | .lst _ => "list"
theorem Lay.ty {K : PySem.W.Frag} {H : Hp} {d : D} {v : V} (h : Lay H d v) : TyOf K H v (.type (tyD d)) := by
 cases d with
 | non => unfold Lay at h; subst h; exact .non
 | bl b => unfold Lay at h; subst h; exact .bl b
 | int i => unfold Lay at h; subst h; exact .int i
 | str x => unfold Lay at h; subst h; exact .str x
 | tup ds => unfold Lay at h; obtain ⟨a, vs, rfl, e, _⟩ := h; exact .tup e
 | lst ds => unfold Lay at h; obtain ⟨a, vs, rfl, e, _⟩ := h; exact .lst e
def Kept (H H' : Hp) (d : D) (v : V) : Prop := ∀ l o o', H l = some o -> Lay (upd H' l o') d v
def wN (H H' : Hp) (d : List D) (v : List V) : Prop := ∀ l o o', H l = some o -> Lays (upd H' l o') d v
def y_ (c : St -> Prop) (d : D) : TE := fun σ H Q => c σ /\ ∀ v H', Same H H' -> Lay H' d v -> Kept H H' d v -> Q v H'
def yM (c : St -> Prop) (d : List D) : TA := fun σ H Q => c σ /\ ∀ vs H', Same H H' -> Lays H' d vs -> wN H H' d vs -> Q vs H'
def yes : St -> Prop := fun _ => True
def isI (k : Nat) (m : Int) : St -> Prop := fun σ => σ[k]? = some (some (.int m))
section
variable {X : Cx} {pos : Pos} {c : St -> Prop}
theorem PE.of {e : Expr} {t t' : TE} (h : PE X e t) (k : ∀ σ H Q, t' σ H Q -> t σ H Q) : PE X e t' := fun pins s σ H Q I q => h pins s σ H Q I (k σ H Q q)
theorem PA.of {e : List Expr} {t t' : TA} (h : PA X e t) (k : ∀ σ H Q, t' σ H Q -> t σ H Q) : PA X e t' := fun pos pins s σ H Q I q => h pos pins s σ H Q I (k σ H Q q)
end
end L2
namespace L2
open PySem PySem.Spec PyProof.Rows
theorem PS.nox {X : Cx} {st : Stmt} {t : TS} (h : PS X.nox st t) : PS X st t := fun pins s σ H D I hw =>
 wpAny_mono (h pins s σ H D (I.wish _) hw) (fun _ _ q => q.unwish) fun _ _ z => False.elim z
def yr (X : Cx) (tf : TE) (ta : TA) : TE := fun σ H Q => tf σ H fun v H1 => ∃ (f : Addr) (fd : FuncData) (k : Nat) (ps : List Str) (sp : Sp) (E : XK), v = .ref f /\ FnOk X.prog X.w X.K X.mg X.base (CX1 X.prog X.w) k f fd ps sp /\ Room k X.A /\ PySem.W.keepIn X.K (.ref f) = true /\ Binds X.K fd ps [] /\
 cz (CX1 X.prog X.w) X E /\ ta σ H1 fun vs H2 => sp vs H2 Q E
theorem nj {H : Hp} : ∀ (r : List Int), Lays H (r.map D.int) (r.map V.int)
 | [] => by simp only [List.map_nil]; unfold Lays; rfl
 | x :: r => by
  simp only [List.map_cons]
  unfold Lays
  exact ⟨_, _, rfl, by unfold Lay; rfl, nj r⟩
theorem nG {H : Hp} : ∀ {T : List (List Int)} {vs : List V}, Paired (IsRow H) vs T -> Lays H (T.map bT) vs
 | _, _, .nil => by simp only [List.map_nil]; unfold Lays; rfl
 | _, _, .cons (b := r) h t => by
  simp only [List.map_cons]
  unfold Lays
  refine ⟨_, _, rfl, ?_, nG t⟩
  obtain ⟨a, rfl, ha⟩ := h
  unfold bT Lay
  exact ⟨a, _, rfl, ha, nj r⟩
theorem uA {H : Hp} {T : List (List Int)} {a : Addr} (h : IsTab H a T) : Lay H (gh T) (.ref a) := by
 obtain ⟨vs, ha, hv⟩ := h
 unfold gh Lay
 exact ⟨a, vs, rfl, ha, nG hv⟩
end L2
set_option Elab.async false
set_option linter.all false
set_option maxRecDepth 100000
set_option maxHeartbeats 4000000
namespace L2
open PySem PySem.Spec PyProof.Rows
def dN (B : Heap) (l : List Env) (e : Addr) (cls a0 fl : Value) (h : Heap) : Prop := B.StaysIn h /\ B.get? e = none /\ h.FunFrames B l /\ h.TracedAtW B e cls a0 fl
section
variable {M : Model} {A : Around} {E : Value -> Shared -> Prop} {s : Shared} {B : Heap} {e L : Addr} {cls a0 fl : Value} {env : Env} {outer l : List Env}
theorem nM {v : Value} {Q : Unit -> Shared -> Prop} {T : Addr} {oe oT : Obj} {vs ts : Array Value} (x1 : B.StaysIn s.heap) (x2 : B.get? e = none) (x3 : s.heap.FunFrames B l)
  (he : s.heap.get? e = some oe) (hc : oe.cls = cls /\ vs[0]? = some a0) (hd : oe.data = .fields vs) (h1 : vs[1]? = some (.ref T)) (hn : B.get? T = none) (hne : T ≠ e) (hT : s.heap.get? T = some oT) (hdT : oT.data = .fields ts) (h3 : ts[3]? = some fl)
  (k : ∀ h', dN B l e cls a0 v h' -> s.heap.UpToSlots h' -> h'.get? e = some oe -> Q () { s with heap := h' }) : wpAny M A (setField (.ref T) 3 v) Q E s := by
 have w : 3 < ts.size := (Array.getElem?_eq_some_iff.mp h3).1
 have ot : ∀ b, b ≠ T -> (s.heap.update T (Obj.mapFields (·.setIfInBounds 3 v))).get? b = s.heap.get? b := fun b hb => Heap.get?_update_other _ _ (Ne.symm hb)
 have nr : ∀ b o, s.heap.get? b = some o -> (∀ us, o.data ≠ .fields us) -> b ≠ T := fun b o hb hnf q => by
  rw [q, hT] at hb
  cases hb
  exact hnf ts hdT
 refine wpAny_setField hT hdT w (k _ ⟨fun b o hb => ?_, x2, x3.of_keeps fun b o hb hnf => ⟨o, (ot b (nr b o hb hnf)).trans hb, rfl⟩, ?_⟩ (fun b o hb hnf => ⟨o.slots, (ot b (nr b o hb hnf)).trans hb⟩) ((ot e (Ne.symm hne)).trans he))
 ·refine (ot b fun q => ?_).trans (x1 b o hb)
  rw [q, hn] at hb
  cases hb
 ·exact ⟨oe, vs, T, _, _, (ot e (Ne.symm hne)).trans he, hc, hd, h1, hn, hne, Heap.get?_update_self _ hT (Obj.isFreed_of_fields (Obj.data_mapFields hdT _)), Obj.data_mapFields hdT _, by simp [w]⟩
theorem oH {Q : Unit -> Shared -> Prop} (hfr : A.frames = some (env :: outer)) (hf : env.frame = some L) (x : dN B (env :: outer) e cls a0 fl s.heap)
  (k : ∀ h', dN B (env :: outer) e cls a0 (rawInt L) h' -> s.heap.UpToSlots h' -> Q () { s with heap := h' }) : wpAny M A (noteFrame (.ref e) env) Q E s := by
 obtain ⟨x1, x2, x3, x4⟩ := x
 by_cases q : (fl == rawInt L) = true
 ·have q' : fl = rawInt L := by simpa using q
  subst q'
  exact wpAny_noteFrame_againW hf x4 (k s.heap ⟨x1, x2, x3, x4⟩ fun b o hb _ => ⟨o.slots, hb⟩)
 ·obtain ⟨oe, vs, T, oT, ts, he, hc, hd, h1, hn, hne, hT, hdT, h3⟩ := x4
  unfold noteFrame
  simp only [hf]
  refine wpAny_bind (wpAny_field he hd h1 ?_)
  have yes : (Value.ref T != Value.none) = true := by simp
  rw [if_pos yes]
  refine wpAny_bind (wpAny_field hT hdT h3 ?_)
  rw [if_neg q]
  refine wpAny_bind (nM (v := .none) x1 x2 x3 he hc hd h1 hn hne hT hdT h3 fun h1' y up e1 => ?_)
  have hcl := hc.1
  subst hcl
  refine wpAny_entryW (s := { s with heap := h1' }) hfr y.2.2.1 hf e1 y.1 x2 hd (Array.getElem?_eq_some_iff.mp h1).1 hc.2 fun h2 z => ?_
  obtain ⟨z1, z2, z3, z4⟩ := z
  exact k h2 ⟨z1, x2, z2, z3⟩ (up.trans z4)
theorem jt {o : Option Addr} {Q : Unit -> Shared -> Prop} (x : dN B l e cls a0 fl s.heap) (k : ∀ h' fl', dN B l e cls a0 fl' h' -> s.heap.UpToSlots h' -> (o = none -> fl' = .none) -> Q () { s with heap := h' }) : wpAny M A (setFlight (.ref e) o) Q E s := by
 obtain ⟨x1, x2, x3, oe, vs, T, oT, ts, he, hc, hd, h1, hn, hne, hT, hdT, h3⟩ := x
 unfold setFlight
 refine wpAny_bind (wpAny_field he hd h1 ?_)
 have yes : (Value.ref T != Value.none) = true := by simp
 rw [if_pos yes]
 exact nM x1 x2 x3 he hc hd h1 hn hne hT hdT h3 fun h' y up _ => k h' _ y up fun z => by rw [z]; rfl
theorem vD {α : Type} {what : String} {env' : Env} {Q : α -> Shared -> Prop} (x : dN B l e cls a0 fl s.heap) (k : ∀ h' fl', dN B l e cls a0 fl' h' -> s.heap.UpToSlots h' -> E (.ref e) { s with heap := h' }) : wpAny M A (PySem.passOn what (.ref e) env' : Sem α) Q E s := by
 have x' := x
 obtain ⟨x1, x2, x3, oe, vs, T, oT, ts, he, hc, hd, h1, _⟩ := x'
 unfold PySem.passOn
 refine wpAny_bind (wpAny_field he hd h1 ?_)
 have no : ¬ (Value.ref T == Value.none) = true := by simp
 rw [if_neg no]
 exact wpAny_bind (jt x fun h' fl' y up _ => wpAny_throw (k h' fl' y up))
theorem qL {Q : Unit -> Shared -> Prop} (hfr : A.frames = some (env :: outer)) (hf : env.frame = some L) (x : dN B (env :: outer) e cls a0 fl s.heap)
  (k : ∀ h', Heap.FlyingW B outer e cls a0 h' -> s.heap.UpToSlots h' -> Q () { s with heap := h' }) : wpAny M A (leaving env (.ref e)) Q E s := by
 unfold leaving
 refine wpAny_bind (oH hfr hf x fun h1 y up => ?_)
 refine jt (s := { s with heap := h1 }) y fun h2 fl' z up2 zz => ?_
 rw [zz rfl] at z
 obtain ⟨z1, z2, ⟨_, _, z3⟩, z4⟩ := z
 exact k h2 ⟨z1, z2, z3, z4⟩ (up.trans up2)
theorem u6 {env' : Env} {x : Value} (h : env'.frame = env.frame) : noteFrame x env' = noteFrame x env := by
 unfold noteFrame PySem.frameOf
 rw [h]
theorem sY {h h' : Heap} {C : Addr} {m : Str -> Option Value} (x : dN B l e cls a0 fl h) (n : h.Ns C m) (hl : C ∉ frs l) (k : Heap.SameBut C h h') : dN (PySem.W.hideAll B [C]) l e cls a0 fl h' := by
 obtain ⟨x1, x2, x3, oe, vs, T, oT, ts, he, hc, hd, h1, hn, hne, hT, hdT, h3⟩ := x
 have st : (PySem.W.hideAll B [C]).StaysIn B := fun b o q => PySem.W.of_hideAll _ q
 have nf : ∀ b o us, h.get? b = some o -> o.data = .fields us -> b ≠ C := fun b o us hb hdd z => by
  obtain ⟨o', es, ep, ho, r⟩ := n
  rw [z] at hb
  rw [hb] at ho
  cases ho
  have r' := hdd.symm.trans r.1
  cases r'
 have fr : ∀ l : List Env, C ∉ frs l -> h.FunFrames B l -> h'.FunFrames (PySem.W.hideAll B [C]) l := fun l => by
  induction l with
  | nil => exact fun _ _ => trivial
  | cons a r ih =>
   rintro hn ⟨hk, ⟨L', o, hf, hb, ho, hdd⟩, hr⟩
   have ne : L' ≠ C := fun z => hn (by unfold frs; rw [List.filterMap_cons, hf, z]; exact List.mem_cons_self)
   refine ⟨hk, ⟨L', o, hf, ?_, (k.2 L' ne).trans ho, hdd⟩, ih (fun z => hn ?_) hr⟩
   ·exact PySem.W.fresh_of_stays st hb
   ·unfold frs at z ⊢
    rw [List.filterMap_cons, hf]
    exact List.mem_cons_of_mem _ z
 refine ⟨fun b o hb => ?_, PySem.W.fresh_of_stays st x2, fr l hl x3, oe, vs, T, oT, ts, (k.2 e (nf _ _ _ he hd)).trans he, hc, hd, h1, PySem.W.fresh_of_stays st hn, hne, (k.2 T (nf _ _ _ hT hdT)).trans hT, hdT, h3⟩
 refine (k.2 b fun z => ?_).trans (x1 b o (PySem.W.of_hideAll _ hb))
 rw [z, PySem.W.hideAll_none _ (List.mem_singleton.mpr rfl)] at hb
 cases hb
end
theorem qC {env : Env} {prog : Program} {w : World} {A : Around} {R : Result -> Shared -> Prop} {E' : Value -> Shared -> Prop} (hE : ∀ x s, E' x s -> notedBy (model prog w) A env (fun x s' => R (.error x) s') x s) {s : Shared} {elt target iter : Expr} {ifs : List Expr} {scope : Scope} {pos : Pos} {it acc : Value} (I : Nat -> Shared -> Prop)
  (turn : ∀ n s, I n s -> wpAny (model prog w) A (pyNext it) (fun r s₁ => match r with
   | none => R (.ok .next) s₁
   | some v => wpAny (model prog w) A (letOwnedTupleGo target it v) (fun _ s₀ => wpAny (model prog w) A (assign target env v) (fun _ s₂ =>
     wpAny (model prog w) A (forIn ifs true fun c r => if r = true then do let ok <- isTrue c env (eval c env); pure (ForInStep.yield ok) else pure (ForInStep.yield r)) (fun ok s₃ =>
      if ok = true then wpAny (model prog w) A (eval elt env) (fun x s₄ =>
       wpAny (model prog w) A (call (.builtin "list.append") [acc, x]) (fun _ s₅ => ∃ m, m < n /\ I m s₅) E' s₄) E' s₃
      else ∃ m, m < n /\ I m s₃) E' s₂) E' s₀) E' s₁) E' s)
  (n : Nat) (h : I n s) : codeAny (model prog w) A (.compLoop (.ListComp elt [⟨target, iter, ifs, 0⟩] scope pos) 0 it acc env) R s := by
 refine codeAny_loop rfl I (fun n s hI => ?_) n h
 show wpAny _ A ((compTurn (.ListComp elt [⟨target, iter, ifs, 0⟩] scope pos) 0 it acc env).onRaise (fun x => do noteFrame x env; theTreesLotGoes x)) _ _ s
 refine wpAny_noted ?_
 rw [compTurn_list]
 refine wpAny_mono (E := E') ?_ (fun _ _ q => q) (fun x s z => hE x s z)
 refine wpAny_bind (wpAny_standAt (wpAny_bind (wpAny_mono (turn n s hI) (fun r s₁ h₁ => ?_) fun _ _ h' => h')))
 cases r with
 | none => exact wpAny_pure h₁
 | some v =>
  refine wpAny_bind (wpAny_mono h₁ (fun _ s₀ h₀ => ?_) fun _ _ h' => h')
  refine wpAny_bind (wpAny_mono h₀ (fun _ s₂ h₂ => wpAny_bind (wpAny_mono h₂ (fun ok s₃ h₃ => ?_) fun _ _ h' => h')) fun _ _ h' => h')
  cases ok with
  | false => exact wpAny_pure ⟨rfl, h₃⟩
  | true =>
   exact wpAny_bind (wpAny_bind (wpAny_mono h₃ (fun x s₄ h₄ => wpAny_bind (wpAny_mono h₄ (fun _ s₅ h₅ => wpAny_pure (wpAny_pure ⟨rfl, h₅⟩)) fun _ _ h' => h')) fun _ _ h' => h'))
abbrev bN (X : Cx) (pins : List (Addr × Obj)) (scope : Scope) (N' : List Str) (fp : List Addr) (s2 : Shared) (C : Addr) (H : Hp) (xe' : Value -> Shared -> Prop) : Cx := { aW X pins scope N' fp s2 C H with xe := xe' }
def XE (X : Cx) (pins : List (Addr × Obj)) (C : Addr) (E : XK) : Value -> Shared -> Prop := fun e s' => ∃ (ea : Addr) (cls a0 : Value) (B : Heap) (H1 : Hp) (σ1 : St), e = .ref ea /\ Inv X pins σ1 H1 s' /\ Heap.FlyingW B X.stack ea cls a0 s'.heap /\
 (∀ b o, H1 b = some o -> ∃ u, B.get? b = some u) /\ (∀ b o, X.s₀.heap.get? b = some o -> b ∉ X.fs -> b ∉ X.ex -> ∃ u, B.get? b = some u) /\ (∀ p ∈ X.pn ++ pins, ∃ u, B.get? p.1 = some u) /\ bW X pins H1 C /\ (∃ m, s'.heap.Ns C m) /\ E cls none H1
section
variable {X : Cx} {pins pl : List (Addr × Obj)} {σ σ' : St} {H H1 : Hp} {s s2 : Shared} {scope : Scope} {N' : List Str} {fp : List Addr} {C : Addr} {xe' : Value -> Shared -> Prop} {E : XK}
theorem Inv.xon (I : Inv (aW X pins scope N' fp s2 C H) pl σ H1 s) : Inv (bN X pins scope N' fp s2 C H xe') pl σ H1 s :=
 ⟨⟨I.ok.mod, I.ok.kind, I.ok.glob, I.ok.blt, I.ok.above, I.ok.inj, I.ok.has, I.ok.cab, I.ok.hd, I.ok.frames, I.ok.stk, I.ok.exf, I.ok.bs, I.ok.bsz, I.ok.noex, I.ok.exfs, I.ok.funs, I.ok.frf⟩, I.os, I.bare, I.base, I.loc, I.cell, I.free, I.freeC, I.pin, I.hok, I.len⟩
theorem Inv.xoff (I : Inv (bN X pins scope N' fp s2 C H xe') pl σ H1 s) : Inv (aW X pins scope N' fp s2 C H) pl σ H1 s :=
 ⟨⟨I.ok.mod, I.ok.kind, I.ok.glob, I.ok.blt, I.ok.above, I.ok.inj, I.ok.has, I.ok.cab, I.ok.hd, I.ok.frames, I.ok.stk, I.ok.exf, I.ok.bs, I.ok.bsz, I.ok.noex, I.ok.exfs, I.ok.funs, I.ok.frf⟩, I.os, I.bare, I.base, I.loc, I.cell, I.free, I.freeC, I.pin, I.hok, I.len⟩
theorem wJ (I0 : Inv X pins σ H s2) (f : ∀ b ∈ fp, bW X pins H b) (hC : s2.heap.objs.size <= C) : cz (CX1 X.prog X.w) (bN X pins scope N' fp s2 C H (XE X pins C E)) E := by
 intro pins' σ' H3 s e s' I h
 obtain ⟨ea, cls, a0, B, H', rfl, os, bare, fl, un, hok, trk, cov, hE⟩ := h
 have I' := I.call' os un hok bare (ch := []) (fun b z => absurd z (by simp))
 have hch : ∀ b ∈ fp, (b ∈ X.ex \/ X.s₀.heap.objs.size <= b) /\ b ≠ X.env.locals /\ (∀ x c, X.env.cells.lookup x = some c -> c ≠ b) /\ ∀ p ∈ X.pn ++ pins, p.1 ≠ b := fun b hb => ⟨(f b hb).2.2.2.1, (f b hb).2.1, (f b hb).2.2.2.2.1, (f b hb).2.2.2.2.2⟩
 have IX : Inv X pins σ H3 s := I0.call' (ch := fp) I.os I.base I.hok I.bare hch
 have IX' : Inv X pins σ H' s' := I0.call' (ch := fp) I'.os I'.base I'.hok I'.bare hch
 obtain ⟨c1, c2⟩ := IX.covers cov
 obtain ⟨m, hn, _⟩ := I'.loc
 exact ⟨ea, cls, a0, B, H', σ, rfl, IX', fl, trk, c1, c2, I0.fpOk hC I'.free, ⟨m, hn⟩, hE⟩
end
section
variable {P : Program} {w : World} {K : PySem.W.Frag} {mg : Str -> Option Value} {base : Heap} {N : List Str} {qual : Str} {scope : Scope} {f : Addr} {cd : Value} {A : Around} {outer : List Env} {s₀ : Shared} {H₀ : Hp} {E : XK}
theorem wj {X : Cx} (hX : X = bD (CX1 P w) P w K mg base N qual scope f cd A outer s₀ H₀ E) {pins : List (Addr × Obj)} {C : Addr} {x : Value} {s : Shared} {env' : Env} {use : Option (Value -> Sem Unit)} {Q : Value -> Shared -> Prop} {acc : Value} (hf : env'.frame = X.env.frame) (h : XE X pins C E x s) :
  notedBy (model X.prog X.w) X.A env' (fun x s' => compPost (model X.prog X.w) X.A X.xe use Q acc C (.error x) s') x s := by
 obtain ⟨ea, cls, a0, B, H1, σ1, rfl, I, fl, trk, c1, c2, fC, ⟨m, hn⟩, hE⟩ := h
 have I0 : Inv (bD (CX1 P w) P w K mg base N qual scope f cd A outer s₀ H₀ E) pins σ1 H1 s := hX ▸ I
 subst hX
 have afr := I.ok.frames
 show wpAny _ _ (noteFrame (.ref ea) env') _ _ s
 rw [u6 hf]
 refine oH (outer := outer) (L := s₀.heap.objs.size) afr rfl ⟨fl.1, fl.2.1, fl.2.2.1, fl.2.2.2.at⟩ fun h1 y up => ?_
 have nC : C ∉ frs (envOfC qual scope s₀.heap.objs.size f cd :: outer) := fun z => by
  rcases List.mem_cons.mp (I.stkSub C z) with q | q
  ·exact fC.2.1 q
  ·exact fC.2.2.1 q
 refine ⟨m, up.ns hn, fun h2 sb env2 _ => ?_⟩
 have y2 := sY y (up.ns hn) nC sb
 have I1 := I.flown (s2 := { s with heap := h1 }) (B := B) rfl I.bare fl.1 y.1 up trk c1 c2
 have I2 := I1.turned (t' := s.toks) (h' := h2) (it := C) (fun b o hb e => sb.extBut b o hb e) fC.1 fC.2.1 fC.2.2.2.1 fC.2.2.2.2.1 fC.2.2.2.2.2
 have hd : ∀ b u, B.get? b = some u -> b ≠ C -> ∃ v, (PySem.W.hideAll B [C]).get? b = some v := fun b u e ne => ⟨u, PySem.W.hideAll_get _ e (by simpa using ne)⟩
 have trk2 : ∀ b o, H1 b = some o -> ∃ u, (PySem.W.hideAll B [C]).get? b = some u := fun b o e => by
  obtain ⟨u, hu⟩ := trk b o e
  exact hd b u hu fun z => by rw [z, fC.1] at e; cases e
 have c12 : ∀ b o, s₀.heap.get? b = some o -> b ∉ (bD (CX1 P w) P w K mg base N qual scope f cd A outer s₀ H₀ E).fs -> b ∉ (bD (CX1 P w) P w K mg base N qual scope f cd A outer s₀ H₀ E).ex -> ∃ u, (PySem.W.hideAll B [C]).get? b = some u := fun b o e q1 q2 => by
  obtain ⟨u, hu⟩ := c1 b o e q1 q2
  refine hd b u hu fun z => ?_
  rcases fC.2.2.2.1 with q | q
  ·exact nomatch q
  ·have lt := Heap.lt_size e
   rw [z] at lt
   exact Nat.lt_irrefl _ (Nat.lt_of_lt_of_le lt q)
 have c22 : ∀ p ∈ (bD (CX1 P w) P w K mg base N qual scope f cd A outer s₀ H₀ E).pn ++ pins, ∃ u, (PySem.W.hideAll B [C]).get? p.1 = some u := fun p hp => by
  obtain ⟨u, hu⟩ := c2 p hp
  exact hd _ u hu (fC.2.2.2.2.2 p hp)
 refine vD (s := { s with heap := h2 }) y2 fun h3 fl3 y3 up3 => ?_
 show wpAny (model P w) _ (leaving _ (.ref ea)) _ _ { s with heap := h3 }
 refine qL (s := { s with heap := h3 }) (L := s₀.heap.objs.size) afr rfl y3 fun h4 fl4 up4 => ?_
 exact I2.left (s2 := { s with heap := h4 }) rfl rfl rfl y2.1 fl4 (up3.trans up4) trk2 c12 c22 hE
end
theorem rC {E0 : XK} {X : Cx} {pins : List (Addr × Obj)} {σ : St} {H : Hp} {s2 : Shared} {E : Value -> Shared -> Prop} {scope : Scope} {N' : List Str} {src : List (Option Nat)} {fp : List Addr} {it : Addr} {tn : Nat -> Heap -> Prop} {J : It} {tg elt iter : Expr} {ifs : List Expr} {pos : Pos} {g : TG} {tt : TT} {te : TE}
  {Fin : List V -> Hp -> Prop} {RR : Value -> Addr -> Result -> Shared -> Prop} (hc : X.calm = true) (k : CompOk scope X.env.scope X.N N' src) (I : Inv X pins σ H s2) (T : Turn X.prog X.w X.K tg J fp it tn) (st0 : tn 0 s2.heap) (f : ∀ b ∈ fp, bW X pins H b)
  (hg : ∀ C, PG (bN X pins scope N' fp s2 C H (XE X pins C E0)) tg g) (ht : ∀ C, PTs (bN X pins scope N' fp s2 C H (XE X pins C E0)) ifs tt) (he : ∀ C, cz (CX1 X.prog X.w) (bN X pins scope N' fp s2 C H (XE X pins C E0)) E0 -> PE (bN X pins scope N' fp s2 C H (XE X pins C E0)) elt te)
  (h : cV J g tt te (bG src σ) H Fin)
  (hXE : ∀ D C x s env', env'.frame = X.env.frame -> XE X pins C E0 x s -> notedBy (model X.prog X.w) X.A env' (fun x s' => RR (.ref D) C (.error x) s') x s)
  (hRR : ∀ D C s' H' ys its n, Inv X pins σ H' s' -> bW X pins H' D -> bW X pins H' C -> C ≠ D -> (∃ m, s'.heap.Ns C m) -> s'.heap.get? D = some (lobj its n) -> Vals ys its -> ys.length <= sizeLine -> Fin ys H' -> RR (.ref D) C (.ok .next) s') :
  wpAny (model X.prog X.w) X.A (newList []) (fun acc s₃ => wpAny (model X.prog X.w) X.A (newFunctionEnv scope X.env.globals (cX scope X.env) [] X.env.qual none .none (some X.env)) (fun cenv s₄ =>
   codeAny (model X.prog X.w) X.A (.compStart (.ListComp elt [⟨tg, iter, ifs, 0⟩] scope pos) 0 (.ref it) acc { cenv with scope := relabel scope X.env }) (RR acc cenv.locals) s₄) E s₃) E s2 := by
 refine wpAny_newObj_type (iZ fun h₁ hns₁ old₁ own₁ => ?_)
 dsimp only at hns₁ old₁ own₁ ⊢
 generalize hH2 : s2.heap.push { cls := .type "list", dict := none, data := .seq ([] : List Value).toArray } = H2 at hns₁ old₁ own₁ ⊢
 have hC : H2.objs.size = s2.heap.objs.size + 1 := by rw [<- hH2, Heap.size_push]
 have hDC : s2.heap.objs.size ≠ H2.objs.size := by rw [hC]; exact Nat.ne_of_lt (Nat.lt_succ_self _)
 have hCle : s2.heap.objs.size <= H2.objs.size := by rw [hC]; exact Nat.le_succ _
 have old : ∀ b o, s2.heap.get? b = some o -> h₁.get? b = some o := fun b o e => old₁ b o (hH2 ▸ Heap.get?_push_of_some _ e)
 have hacc : h₁.get? s2.heap.objs.size = some (lobj [] 0) := old₁ _ _ (hH2 ▸ Heap.get?_push_size _ rfl)
 generalize hDe : s2.heap.objs.size = D at hDC hacc
 generalize hCe : H2.objs.size = C at hDC hC hCle hns₁ own₁ ⊢
 have fo : ∀ b ∈ fp, ∃ o, s2.heap.get? b = some o := fun b hb => let ⟨o, e, _⟩ := T.obj 0 _ st0 b hb; ⟨o, e⟩
 have fD : ∀ b ∈ fp, b ≠ D := fun b hb => by obtain ⟨o, e⟩ := fo b hb; rw [<- hDe]; exact Nat.ne_of_lt (Heap.lt_size e)
 have fC : ∀ b ∈ fp, b ≠ C := fun b hb => by obtain ⟨o, e⟩ := fo b hb; exact Nat.ne_of_lt (Nat.lt_of_lt_of_le (Heap.lt_size e) hCle)
 have stk : ∀ b, s2.heap.objs.size <= b -> b ∉ frs X.stack := fun b hb z => by
  rcases List.mem_cons.mp (I.stkSub b z) with q | q
  ·rw [q] at hb; exact absurd (Nat.lt_of_lt_of_le I.lt hb) (Nat.lt_irrefl _)
  ·exact I.nofs hb q
 have I0 : Inv (bN X pins scope N' fp s2 C H (XE X pins C E0)) [] (bG src σ) H { s2 with heap := h₁ } := (nO (tk := s2.toks) k I f fo hCle hns₁ old own₁).xon
 have hDn : H D = none := I.hok.fresh (by rw [hDe]; exact Nat.le_refl _)
 have nD : D ≠ C /\ D ∉ frs X.stack := ⟨hDC, stk D (by rw [hDe]; exact Nat.le_refl _)⟩
 have cellF : ∀ x c, (bQ scope X.env C).lookup x = some c -> ∀ b, b < C -> (∀ x c, X.env.cells.lookup x = some c -> c ≠ b) -> c ≠ b := fun x c e b hb hx z => by
  rcases bz e with q | ⟨_, q⟩
  ·have := (own₁.empty _ _ q).2
   exact Nat.ne_of_gt (Nat.lt_of_lt_of_le hb (Nat.le_trans (Nat.le_succ C) this)) z
  ·exact hx x c (fX q) z
 have hDC2 : D < C := by rw [hC, <- hDe]; exact Nat.lt_succ_self _
 have cellD : ∀ x c, (bQ scope X.env C).lookup x = some c -> c ≠ D := fun x c e => cellF x c e D hDC2 fun x c e z => by
  obtain ⟨v, q⟩ := I.cell x c e
  have := q.lt
  rw [z, <- hDe] at this
  exact Nat.lt_irrefl _ this
 have pnD : ∀ p ∈ X.pn ++ pins, p.1 ≠ D := fun p hp z => by
  have := Heap.lt_size (I.pin p hp).1
  rw [z, <- hDe] at this
  exact Nat.lt_irrefl _ this
 have nocell : ∀ (its : List Value) (n : Nat) (v : Option Value), (lobj its n).data ≠ .cell v := fun its n v z => by
  have z' : Data.seq its.toArray n = Data.cell v := z
  cases z'
 have pinD : ∀ {σ' : St} {H' : Hp} {s' : Shared} {its : List Value} {n : Nat} {pl : List (Addr × Obj)}, Inv (bN X pins scope N' fp s2 C H (XE X pins C E0)) pl σ' H' s' -> s'.heap.get? D = some (lobj its n) -> H' D = none -> Inv (bN X pins scope N' fp s2 C H (XE X pins C E0)) [(D, lobj its n)] σ' H' s' :=
  fun {σ' H' s' its n pl} J1 e hn => J1.pins_of fun p hp => by
   have hp' : p = (D, lobj its n) := List.mem_singleton.mp hp
   subst hp'
   exact ⟨e, hn, nD.1, nD.2, nocell _ _⟩
 obtain ⟨W, ⟨m0, w0⟩, turn⟩ := h
 have ps0 : cz (CX1 X.prog X.w) (bN X pins scope N' fp s2 C H (XE X pins C E0)) E0 := wJ I f hCle
 have ltf : ∀ b ∈ fp, b < C := fun b hb => by obtain ⟨o, e⟩ := fo b hb; exact Nat.lt_of_lt_of_le (Heap.lt_size e) hCle
 have loop : ∀ s₃ : Shared, s₃ = { s2 with heap := h₁ } ->
   codeAny (model X.prog X.w) X.A (.compLoop (.ListComp elt [⟨tg, iter, ifs, 0⟩] scope pos) 0 (.ref it) (.ref D) (compEnvC scope (bQ scope X.env C) C X.env)) (RR (.ref D) C) s₃ := by
  rintro s₃ rfl
  refine qC (E' := XE X pins C E0) (fun x s z => hXE D C x s (compEnvC scope (bQ scope X.env C) C X.env) rfl z) (fun n s' => ∃ i σ' H' ys its l, Inv (bN X pins scope N' fp s2 C H (XE X pins C E0)) [(D, lobj its l)] σ' H' s' /\ tn i s'.heap /\ (∀ b ∈ fp, H' b = none) /\ Vals ys its /\ ys.length <= sizeLine /\ W i n ys H' ) ?_ m0
   ⟨0, bG src σ, H, [], [], 0, pinD I0 hacc hDn, T.keep _ _ _ st0 fun b _ o e => old b o e, fun b hb => (f b hb).1, .nil, Nat.zero_le _, w0⟩
  rintro n s3 ⟨i, σ3, H3, ys, its, l, I3, st3, fr3, rv, hz, w3⟩
  have stat : ∀ {H' : Hp} {its' : List Value} {l' : Nat}, (∀ b ∈ fp, H' b = none) -> ∀ b ∈ fp, bW (bN X pins scope N' fp s2 C H (XE X pins C E0)) [(D, lobj its' l')] H' b := fun hn b hb =>
   ⟨hn b hb, fC b hb, (fun z => by
     rcases List.mem_cons.mp (I.stkSub b z) with q | q
     ·exact (f b hb).2.1 q
     ·exact (f b hb).2.2.1 q), .inl hb, fun x c e => cellF x c e b (ltf b hb) (f b hb).2.2.2.2.1, fun p hp => by
    rcases List.mem_append.mp hp with z | z
    ·exact (f b hb).2.2.2.2.2 p z
    ·rw [List.mem_singleton.mp z]
     exact Ne.symm (fD b hb)⟩
  have IX3 : Inv X pins σ H3 s3 := I.call' (ch := fp) I3.os I3.base I3.hok I3.bare fun b hb => ⟨(f b hb).2.2.2.1, (f b hb).2.1, (f b hb).2.2.2.2.1, (f b hb).2.2.2.2.2⟩
  have I3c : Inv (bN X pins scope N' fp s2 C H (XE X pins C E0)) [(D, lobj its l)] (bG src σ) H3 s3 := (je k IX3 I3.xoff).xon
  rcases turn i n ys H3 w3 with ⟨stop, fin⟩ | ⟨go, hlt, NN, hNN, step⟩
  ·refine wpAny_mono (T.done (bN X pins scope N' fp s2 C H (XE X pins C E0)) rfl rfl rfl hc i _ s3 σ3 H3 (XE X pins C E0) I3 (stat fr3) st3 stop) (fun r s4 ⟨hr, I4⟩ => ?_) fun _ _ z => z
   subst hr
   have eD := (I4.pin (D, lobj its l) (List.mem_append_right _ List.mem_cons_self))
   have IX : Inv X pins σ H3 s4 := I.call' (ch := fp) I4.os I4.base I4.hok I4.bare fun b hb => ⟨(f b hb).2.2.2.1, (f b hb).2.1, (f b hb).2.2.2.2.1, (f b hb).2.2.2.2.2⟩
   obtain ⟨m4, hn4, _⟩ := I4.loc
   exact hRR D C s4 H3 ys its l IX (I.fpOk (by rw [hDe]; exact Nat.le_refl _) eD.2.1) (I.fpOk hCle I4.free) (Ne.symm hDC) ⟨m4, hn4⟩ eD.1 rv hz fin
  ·refine wpAny_mono (T.item (bN X pins scope N' fp s2 C H (XE X pins C E0)) rfl rfl rfl hc i _ s3 (bG src σ) H3 (XE X pins C E0) I3c (stat fr3) st3 go) (fun r s4 ⟨u, hr, h4⟩ => ?_) fun _ _ z => z
   subst hr
   refine wpAny_mono h4 (fun _ s5 ⟨x, H5, I5, r5, y5, st5, fr5⟩ => ?_) fun _ _ z => z
   have I5' := I5.pinned (stat fr5) (T.obj _ _ st5)
   refine wpAny_mono (hg C _ s5 (bG src σ) H5 x u _ I5' r5 (step x H5 y5)) (fun _ s6 ⟨σ6, H6, I6, q6⟩ => ?_) fun _ _ z => z
   refine wpAny_mono (ht C _ s6 σ6 H6 _ I6 q6) (fun b s7 ⟨H7, I7, q7⟩ => ?_) fun _ _ z => z
   have back : ∀ {σ8 : St} {H8 : Hp} {s8 : Shared}, Inv (bN X pins scope N' fp s2 C H (XE X pins C E0)) ([(D, lobj its l)] ++ cU fp s5.heap) σ8 H8 s8 -> tn (i + 1) s8.heap /\ (∀ b ∈ fp, H8 b = none) := fun {σ8 H8 s8} I8 => by
    have pk : ∀ b ∈ fp, ∀ o, s5.heap.get? b = some o -> s8.heap.get? b = some o /\ H8 b = none := fun b hb o e => by
     have q := I8.pin (b, o) (List.mem_append_right _ (List.mem_append_right _ (eN hb e)))
     exact ⟨q.1, q.2.1⟩
    refine ⟨T.keep _ _ _ st5 fun b hb o e => (pk b hb o e).1, fun b hb => ?_⟩
    obtain ⟨o, e, _⟩ := T.obj _ _ st5 b hb
    exact (pk b hb o e).2
   cases b with
   | false =>
    obtain ⟨m', hm, w7⟩ := hNN _ _ q7
    obtain ⟨b1, b2⟩ := back I7
    exact ⟨m', hm, i + 1, σ6, H7, ys, its, l, I7.unpinned, b1, b2, rv, hz, w7⟩
   | true =>
    refine wpAny_mono (he C ps0 _ s7 σ6 H7 _ I7 q7) (fun y s8 ⟨v8, H8, I8, r8, q8⟩ => ?_) fun _ _ z => z
    obtain ⟨m', hm, w8⟩ := hNN _ _ q8
    obtain ⟨b1, b2⟩ := back I8
    have eD := (I8.pin (D, lobj its l) (List.mem_append_right _ (List.mem_append_left _ List.mem_cons_self)))
    have hl := rv.length
    refine append_at (hsz := by show its.toArray.size <= sizeLine; rw [List.size_toArray]; omega) eD.1 fun h9 hs9 hD9 => ?_
    have I8' : Inv (bN X pins scope N' fp s2 C H (XE X pins C E0)) (cU fp s5.heap) σ6 H8 s8 := I8.pins_of fun p hp => I8.pin p (List.mem_append_right _ (List.mem_append_right _ hp))
    have I9 : Inv (bN X pins scope N' fp s2 C H (XE X pins C E0)) (cU fp s5.heap) σ6 H8 { s8 with heap := h9 } := I8'.turned (t' := s8.toks) (fun b o hb e => hs9.extBut b o hb e) eD.2.1 nD.1 (.inr (by show s2.heap.objs.size <= D; rw [hDe]; exact Nat.le_refl _)) cellD fun p hp => by
     rcases List.mem_append.mp hp with z | z
     ·exact pnD p z
     ·exact fD _ (h_ z).1
    have e9 : ({ cls := .type "list", data := .seq (its.toArray.push y) (l + 1) } : Obj) = lobj (its ++ [y]) (l + 1) := by
     show ({ cls := .type "list", data := .seq (its.toArray.push y) (l + 1) } : Obj) = { cls := .type "list", data := .seq (its ++ [y]).toArray (l + 1) }
     rw [List.push_toArray]
    rw [e9] at hD9
    refine ⟨m', hm, i + 1, σ6, H8, ys ++ [v8], its ++ [y], l + 1, pinD I9 hD9 eD.2.1, T.keep _ _ _ b1 fun b hb o e => hs9.extBut b o (fD b hb) e, b2, rv.append (.cons r8 .nil), by rw [List.length_append, List.length_singleton]; omega, w8⟩
 subst hDe
 exact codeAny_compStart_list (loop _ rfl) (T.self _ 0 _ _ _ (T.keep _ _ _ st0 fun b _ o e => old b o e) (loop _ rfl))
section
variable {X : Cx} {scope : Scope} {N' : List Str} {src : List (Option Nat)} {tg elt iter : Expr} {ifs : List Expr} {pos : Pos} {wi : TI} {g : TG} {tt : TT} {te : TE}
 {P : Program} {w : World} {K : PySem.W.Frag} {mg : Str -> Option Value} {base : Heap} {N : List Str} {qual : Str} {scope0 : Scope} {f0 : Addr} {cd : Value} {A : Around} {outer : List Env} {s₀ : Shared} {H₀ : Hp} {E : XK}
theorem sS (hX : X = bD (CX1 P w) P w K mg base N qual scope0 f0 cd A outer s₀ H₀ E) {i : Nat} {x : Str} {px spos : Pos} (hc : X.calm = true) (hN : X.N.Nodup) (hi' : X.N[i]? = some x) (hx : X.env.scope.names.lookup x = some .local) (hk : ie scope X.env.scope X.N N' src = true) (hi : PI X tg iter wi)
  (hg : ∀ pins fp s2 C H, PG (bN X pins scope N' fp s2 C H (XE X pins C E)) tg g) (ht : ∀ pins fp s2 C H, PTs (bN X pins scope N' fp s2 C H (XE X pins C E)) ifs tt) (he : ∀ pins fp s2 C H, cz (CX1 X.prog X.w) (bN X pins scope N' fp s2 C H (XE X pins C E)) E -> PE (bN X pins scope N' fp s2 C H (XE X pins C E)) elt te)
  (hsw : swapsWith (.ListComp elt [⟨tg, iter, ifs, 0⟩] scope pos) (some (.Name x px)) spos.line X.env = pure true := by rfl)
  (hs : ∀ x, foldedSetIterable iter X.env x = pure x := by intro _; rfl) : PS X (.Assign [.Name x px] (.ListComp elt [⟨tg, iter, ifs, 0⟩] scope pos) spos) (qO (qJ wi src g tt te) (eO i)) := by
 intro pins s σ H D0 I h
 have k := CompOk.of hk
 rw [exec_Assign_Name_used _ _ _ _ hsw]
 refine wpAny_bind (wpAny_standAt (wpAny_bind ?_))
 show wpAny _ X.A (do let _ <- comprehension (.ListComp elt [⟨tg, iter, ifs, 0⟩] scope pos) scope X.env _ (newList []) false (eval iter X.env) (some (assign (.Name x px) X.env))) _ _ s
 refine wpAny_bind (wpAny_mono (wpAny_comprehension_free (use := some (assign (.Name x px) X.env)) (Q := fun _ s' => SP X pins D0 .next s') rfl hs (gf k I) k.kind k.loc
  (thn (hi pins s σ H _ I h) fun xv s1 h1 => thn h1 fun itv s2 h2 => ?_)) (fun _ s' hq => wpAny_pure (wpAny_pure hq)) fun _ _ e => e)
 obtain ⟨it, fp, tn, J, H2, e, I2, T, st2, f2, q2⟩ := h2
 subst e
 refine rC (E0 := E) hc k I2 T st2 f2 (hg pins fp s2 · H2) (ht pins fp s2 · H2) (fun C h => he pins fp s2 C H2 h) q2 (fun D C x s env' hfr hx => wj hX hfr hx) ?_
 intro D C s' H' ys its n I' fD fC hCD hns hD rv hz fin
 obtain ⟨m, hn⟩ := hns
 show wpAny _ X.A (assign (.Name x px) X.env (.ref D)) _ _ _
 refine wpAny_assign_Name (g_ I' hN hi' (.inl hx) (show RelV (.ref D) (.ref D) from rfl) (fun s3 I3 hsb => ?_) (.inr hx))
 obtain ⟨a, hsb, ha⟩ := hsb
 have haC : C ≠ a := fun z => by
  rcases ha with q | q
  ·exact fC.2.1 (z.trans q)
  ·exact fC.2.2.2.2.1 x a q z.symm
 have haD : D ≠ a := fun z => by
  rcases ha with q | q
  ·exact fD.2.1 (z.trans q)
  ·exact fD.2.2.2.2.1 x a q z.symm
 refine ⟨m, hn.sameBut hsb haC, fun h' hs' => ?_⟩
 have I4 : Inv X pins (σ.set i (some (.ref D))) H' { s3 with heap := h' } := I3.turned (t' := s3.toks) (fun b o hb e => hs'.extBut b o hb e) fC.1 fC.2.1 fC.2.2.2.1 fC.2.2.2.2.1 fC.2.2.2.2.2
 exact ⟨_, upd H' D (.lst ys), I4.track fD ⟨hz, its, n, rv, hs'.extBut _ _ (Ne.symm hCD) (hsb.extBut _ _ haD hD)⟩, fin D fD.1⟩
end
end L2
set_option Elab.async false
set_option linter.all false
set_option maxRecDepth 100000
set_option maxHeartbeats 4000000
namespace L2
open PySem PySem.Spec PyProof.Rows
section
variable {κ : Type} [DecidableEq κ]
def bB (kvs : List (κ × V)) (k : κ) : Option V := (kvs.find? fun kv => decide (kv.1 = k)).map (·.2)
def putK (kvs : List (κ × V)) (k : κ) (v : V) : List (κ × V) :=
 if (kvs.any fun kv => decide (kv.1 = k)) = true then kvs.map (fun kv => if kv.1 = k then (kv.1, v) else kv) else kvs ++ [(k, v)]
def jN (kvs : List (κ × V)) (k : κ) : List (κ × V) := kvs.filter fun kv => decide (kv.1 ≠ k)
theorem bO {p : κ × V} {r : List (κ × V)} {k : κ} (e : p.1 = k) : bB (p :: r) k = some p.2 := by simp [bB, List.find?_cons, e]
theorem bM {p : κ × V} {r : List (κ × V)} {k : κ} (e : ¬ p.1 = k) : bB (p :: r) k = bB r k := by simp [bB, List.find?_cons, e]
theorem gW (k : κ) : ∀ kvs : List (κ × V), (kvs.any fun kv => decide (kv.1 = k)) = (bB kvs k).isSome
 | [] => rfl
 | p :: r => by
  rw [List.any_cons]
  by_cases e : p.1 = k
  ·simp only [bO e, decide_eq_true e, Bool.true_or, Option.isSome_some]
  ·rw [bM e, decide_eq_false e, Bool.false_or]; exact gW k r
theorem oO (k j : κ) (y : V) : ∀ kvs : List (κ × V), bB (kvs.map fun kv => if kv.1 = k then (kv.1, y) else kv) j = (bB kvs j).map fun x => if j = k then y else x
 | [] => rfl
 | p :: r => by
  have ih := oO k j y r
  rw [List.map_cons]
  by_cases h : p.1 = k
  ·rw [if_pos h]
   by_cases e : p.1 = j
   ·rw [bO (p := (p.1, y)) e, bO e, Option.map_some, if_pos (e.symm.trans h)]
   ·rw [bM (p := (p.1, y)) e, bM e, ih]
  ·rw [if_neg h]
   by_cases e : p.1 = j
   ·rw [bO (p := p) e, bO e, Option.map_some, if_neg (fun z => h (e.trans z))]
   ·rw [bM (p := p) e, bM e, ih]
theorem lr (k j : κ) (y : V) : ∀ kvs : List (κ × V), bB kvs k = none -> bB (kvs ++ [(k, y)]) j = if j = k then some y else bB kvs j
 | [], _ => by
  by_cases e : k = j
  ·rw [if_pos e.symm]; exact bO (p := (k, y)) e
  ·rw [if_neg (fun z => e z.symm)]; exact bM (p := (k, y)) e
 | p :: r, hn => by
  rw [List.cons_append]
  have hk : ¬ p.1 = k := fun z => by rw [bO z] at hn; cases hn
  rw [bM hk] at hn
  have ih := lr k j y r hn
  by_cases e : p.1 = j
  ·rw [bO e, bO e, if_neg (fun z => hk (e.trans z))]
  ·rw [bM e, bM e, ih]
theorem tL (kvs : List (κ × V)) (k j : κ) (y : V) : bB (putK kvs k y) j = if j = k then some y else bB kvs j := by
 unfold putK
 by_cases a : (kvs.any fun kv => decide (kv.1 = k)) = true
 ·rw [if_pos a, oO]
  rw [gW] at a
  by_cases e : j = k
  ·obtain ⟨x, hx⟩ := Option.isSome_iff_exists.mp a
   rw [if_pos e, e, hx, Option.map_some, if_pos rfl]
  ·rw [if_neg e]
   cases bB kvs j with
   | none => rfl
   | some x => rw [Option.map_some, if_neg e]
 ·rw [if_neg a]
  refine lr k j y kvs ?_
  rw [gW] at a
  cases q : bB kvs k with
  | none => rfl
  | some x => rw [q] at a; exact (a rfl).elim
theorem gj (kvs : List (κ × V)) (k : κ) (v : V) : (putK kvs k v).length <= kvs.length + 1 := by
 unfold putK
 split
 ·rw [List.length_map]; omega
 ·rw [List.length_append, List.length_cons, List.length_nil]; omega
theorem RelO.isSome_eq {o : Option V} {u : Option Value} (r : RelO o u) : o.isSome = u.isSome := by
 cases o with
 | none => cases u with
  | none => rfl
  | some _ => exact (show False from r).elim
 | some _ => cases u with
  | none => exact (show False from r).elim
  | some _ => rfl
theorem RelO.getD {o : Option V} {u : Option Value} {d : V} {d' : Value} (r : RelO o u) (rd : RelV d d') : RelV (o.getD d) (u.getD d') := by
 cases o with
 | none => cases u with
  | none => exact rd
  | some _ => exact (show False from r).elim
 | some _ => cases u with
  | none => exact (show False from r).elim
  | some _ => exact r
theorem KV.val {kvs : List (κ × V)} {vs : List (κ × Value)} (r : KV kvs vs) (k : κ) : RelO (bB kvs k) (valueAt vs k) := by
 unfold KV at r
 induction r with
 | nil => exact True.intro
 | @cons p q ps qs h t ih =>
  obtain ⟨h1, h2⟩ := h
  by_cases e : p.1 = k
  ·have e' : q.1 = k := h1.symm.trans e
   have b : valueAt (q :: qs) k = some q.2 := by simp [valueAt, List.find?_cons, e']
   rw [bO e, b]; exact h2
  ·have e' : ¬ q.1 = k := fun z => e (h1.trans z)
   have b : valueAt (q :: qs) k = valueAt qs k := by simp [valueAt, List.find?_cons, e']
   rw [bM e, b]; exact ih
theorem KV.any {kvs : List (κ × V)} {vs : List (κ × Value)} (r : KV kvs vs) (k : κ) : (kvs.any fun kv => decide (kv.1 = k)) = vs.any fun kv => decide (kv.1 = k) := by
 unfold KV at r
 induction r with
 | nil => rfl
 | cons h t ih => rw [List.any_cons, List.any_cons, ih, h.1]
theorem KV.repl {kvs : List (κ × V)} {vs : List (κ × Value)} (r : KV kvs vs) (k : κ) {y : V} {u : Value} (ry : RelV y u) :
  KV (kvs.map fun kv => if kv.1 = k then (kv.1, y) else kv) (vs.map fun kv => if kv.1 = k then (kv.1, u) else kv) := by
 unfold KV at r ⊢
 induction r with
 | nil => exact .nil
 | @cons p q ps qs h t ih =>
  rw [List.map_cons, List.map_cons]
  refine .cons ?_ ih
  obtain ⟨h1, h2⟩ := h
  by_cases e : p.1 = k
  ·rw [if_pos e, if_pos (h1.symm.trans e)]; exact ⟨h1, ry⟩
  ·rw [if_neg e, if_neg (fun z => e (h1.trans z))]; exact ⟨h1, h2⟩
theorem KV.put {kvs : List (κ × V)} {vs : List (κ × Value)} (r : KV kvs vs) (k : κ) {y : V} {u : Value} (ry : RelV y u) : KV (putK kvs k y) (stored vs k u) := by
 unfold putK stored
 rw [r.any k]
 by_cases e : (vs.any fun kv => decide (kv.1 = k)) = true
 ·rw [if_pos e, if_pos e]; exact r.repl k ry
 ·rw [if_neg e, if_neg e]; exact Paired.snoc r ⟨rfl, ry⟩
theorem KV.drop {kvs : List (κ × V)} {vs : List (κ × Value)} (r : KV kvs vs) (k : κ) : KV (jN kvs k) (without vs k) := by
 unfold KV at r ⊢
 unfold jN without
 induction r with
 | nil => exact .nil
 | @cons p q ps qs h t ih =>
  obtain ⟨h1, h2⟩ := h
  rw [List.filter_cons, List.filter_cons]
  by_cases e : p.1 = k
  ·have a : ¬ decide (p.1 ≠ k) = true := by simp [e]
   have b : ¬ decide (q.1 ≠ k) = true := by simp [h1.symm.trans e]
   rw [if_neg a, if_neg b]; exact ih
  ·have e' : ¬ q.1 = k := fun z => e (h1.trans z)
   have a : decide (p.1 ≠ k) = true := by simp [e]
   have b : decide (q.1 ≠ k) = true := by simp [e']
   rw [if_pos a, if_pos b]; exact .cons ⟨h1, h2⟩ ih
theorem KV.keys {kvs : List (κ × V)} {vs : List (κ × Value)} (r : KV kvs vs) : kvs.map (·.1) = vs.map (·.1) := by
 unfold KV at r
 induction r with
 | nil => rfl
 | cons h t ih => rw [List.map_cons, List.map_cons, ih, h.1]
theorem KV.length {kvs : List (κ × V)} {vs : List (κ × Value)} (r : KV kvs vs) : kvs.length = vs.length := Paired.length r
end
theorem mO {P : Program} {w : World} {k : Key} {u : Value} (r : RelV (kV k) u) : (bK P w).is k u = true := by
 cases k with
 | inl i => obtain ⟨t, e⟩ := (show ∃ t, u = Value.int i t from r); subst e; exact o_ P w i t
 | inr x => obtain ⟨t, e⟩ := (show ∃ t, u = Value.str x t from r); subst e; exact pF P w x t
theorem lq {P : Program} {w : World} : ∀ {ks : List Key} {us : List Value}, Vals (ks.map kV) us -> ItemsAre (bK P w) ks us
 | [], _, r => by rw [List.map_nil] at r; cases r; exact .nil
 | k :: ks, _, r => by
  rw [List.map_cons] at r
  cases r with
  | cons h t => exact .cons (mO h) (lq t)
abbrev KT (H : Hp) : List (List Key × V) -> List (List Key × Addr × Value) -> Prop := Paired fun p q => p.1 = q.1 /\ H q.2.1 = some (.tup (p.1.map kV)) /\ RelV p.2 q.2.2
theorem KT.val {H : Hp} {kvs : List (List Key × V)} {xs : List (List Key × Addr × Value)} (r : KT H kvs xs) (k : List Key) : RelO (bB kvs k) ((atKey xs k).map (·.2)) := by
 induction r with
 | nil => exact True.intro
 | @cons p q ps qs h t ih =>
  obtain ⟨h1, _, h2⟩ := h
  by_cases e : p.1 = k
  ·have e' : q.1 = k := h1.symm.trans e
   have b : atKey (q :: qs) k = some q.2 := by simp [atKey, List.find?_cons, e']
   rw [bO e, b]; exact h2
  ·have e' : ¬ q.1 = k := fun z => e (h1.trans z)
   have b : atKey (q :: qs) k = atKey qs k := by simp [atKey, List.find?_cons, e']
   rw [bM e, b]; exact ih
theorem KT.repl {H : Hp} {kvs : List (List Key × V)} {xs : List (List Key × Addr × Value)} (r : KT H kvs xs) (k : List Key) {y : V} {u : Value} (ry : RelV y u) :
  KT H (kvs.map fun kv => if kv.1 = k then (kv.1, y) else kv) (xs.map (putAt k u)) := by
 induction r with
 | nil => exact .nil
 | @cons p q ps qs h t ih =>
  rw [List.map_cons, List.map_cons]
  refine .cons ?_ ih
  obtain ⟨h1, h2, h3⟩ := h
  unfold putAt
  by_cases e : p.1 = k
  ·rw [if_pos e, if_pos (h1.symm.trans e)]; exact ⟨h1, h2, ry⟩
  ·rw [if_neg e, if_neg (fun z => e (h1.trans z))]; exact ⟨h1, h2, h3⟩
theorem KT.put {H : Hp} {kvs : List (List Key × V)} {xs : List (List Key × Addr × Value)} (r : KT H kvs xs) (k : List Key) {b : Addr} {y : V} {u : Value} (hb : H b = some (.tup (k.map kV))) (ry : RelV y u) :
  KT H (putK kvs k y) (storedH xs k b u) := by
 have e : (kvs.any fun kv => decide (kv.1 = k)) = (atKey xs k).isSome := by
  rw [gW, (r.val k).isSome_eq, Option.isSome_map]
 unfold putK storedH
 rw [e]
 by_cases q : (atKey xs k).isSome = true
 ·rw [if_pos q, if_pos q]; exact r.repl k ry
 ·rw [if_neg q, if_neg q]; exact Paired.snoc r ⟨rfl, hb, ry⟩
theorem KT.keeps {H H' : Hp} {kvs : List (List Key × V)} {xs : List (List Key × Addr × Value)} (r : KT H kvs xs) (ht : ∀ b ys, H b = some (.tup ys) -> H' b = some (.tup ys)) : KT H' kvs xs :=
 Paired.mapP r fun _ _ z => ⟨z.1, ht _ _ z.2.1, z.2.2⟩
section
variable {P : Program} {w : World} {H : Hp} {h : Heap} {a : Addr}
theorem ut {u : HO} (ok : HOk P w H h) (e : Rd H a u) : ObjOk P w H h a u := e.ok ok
theorem mK {kvs : List (Key × V)} (ok : HOk P w H h) (e : Rd H a (.dK kvs)) : kvs.length <= sizeLine /\ (a == sysModules) = false /\ ∃ vs, KV kvs vs /\ h.DictOf (bK P w) a vs :=
 show ObjOk P w H h a (.dK kvs) from ut ok e
theorem wI {kvs : List (Key × V)} (ok : HOk P w H h) (e : H a = some (.dK kvs)) : kvs.length <= sizeLine /\ (a == sysModules) = false /\ ∃ vs, KV kvs vs /\ h.DictOf (bK P w) a vs := mK ok (.inl e)
theorem jU {ks : List Key} (ok : HOk P w H h) (e : H a = some (.tup (ks.map kV))) : (tupleKind (bK P w)).is h ks a := by
 obtain ⟨_, its, r, o, h1, h2, n, h3⟩ := (show ObjOk P w H h a (.tup (ks.map kV)) from ok a _ e)
 exact ⟨o, its.toArray, n, h1, h2, h3, by simpa using lq r⟩
theorem mH {kvs : List (List Key × V)} (ok : HOk P w H h) (e : Rd H a (.dT kvs)) : kvs.length <= sizeLine /\ (a == sysModules) = false /\
  ∃ xs, KT H kvs xs /\ h.DictOfH (tupleKind (bK P w)) a xs := by
 obtain ⟨z, y, xs, r, o, es, ep, h1, h2, h3, h4, h5⟩ := (show ObjOk P w H h a (.dT kvs) from ut ok e)
 refine ⟨z, y, xs, r, o, es, ep, h1, h2, h3, h4, fun x hx => ?_, h5⟩
 have all : ∀ {l : List (List Key × V)} {m : List (List Key × Addr × Value)}, KT H l m -> ∀ x ∈ m, (tupleKind (bK P w)).is h x.1 x.2.1 := by
  intro l m q
  induction q with
  | nil => intro x hx; exact nomatch hx
  | @cons p q ps qs hq t ih =>
   intro x hx
   rcases List.mem_cons.mp hx with e | hx
   ·subst e
    exact jU ok (by rw [<- hq.1]; exact hq.2.1)
   ·exact ih x hx
 exact all r x hx
theorem w6 {kvs : List (List Key × V)} (ok : HOk P w H h) (e : H a = some (.dT kvs)) : kvs.length <= sizeLine /\ (a == sysModules) = false /\
  ∃ xs, KT H kvs xs /\ h.DictOfH (tupleKind (bK P w)) a xs := mH ok (.inl e)
end
def DGet (H : Hp) (a : Addr) (y : V) (r : Option V) : Prop :=
 (∃ kvs k, Rd H a (.dK kvs) /\ y = kV k /\ r = bB kvs k) \/ ∃ kvs k b, Rd H a (.dT kvs) /\ y = .ref b /\ H b = some (.tup (k.map kV)) /\ r = bB kvs k
def DPut (H : Hp) (a : Addr) (y v : V) (H' : Hp) : Prop :=
 (∃ kvs k, H a = some (.dK kvs) /\ y = kV k /\ kvs.length < sizeLine /\ H' = upd H a (.dK (putK kvs k v))) \/
 ∃ kvs k b, H a = some (.dT kvs) /\ y = .ref b /\ H b = some (.tup (k.map kV)) /\ kvs.length < sizeLine /\ H' = upd H a (.dT (putK kvs k v))
theorem DGet.k {H : Hp} {a : Addr} {kvs : List (Key × V)} {k : Key} (e : H a = some (.dK kvs)) : DGet H a (kV k) (bB kvs k) := .inl ⟨kvs, k, .inl e, rfl, rfl⟩
theorem DGet.t {H : Hp} {a b : Addr} {kvs : List (List Key × V)} {k : List Key} (e : H a = some (.dT kvs)) (eb : H b = some (.tup (k.map kV))) : DGet H a (.ref b) (bB kvs k) := .inr ⟨kvs, k, b, .inl e, rfl, eb, rfl⟩
theorem DPut.k {H : Hp} {a : Addr} {kvs : List (Key × V)} {k : Key} {v : V} (e : H a = some (.dK kvs)) (hl : kvs.length < sizeLine) : DPut H a (kV k) v (upd H a (.dK (putK kvs k v))) := .inl ⟨kvs, k, e, rfl, hl, rfl⟩
theorem DPut.t {H : Hp} {a b : Addr} {kvs : List (List Key × V)} {k : List Key} {v : V} (e : H a = some (.dT kvs)) (eb : H b = some (.tup (k.map kV))) (hl : kvs.length < sizeLine) :
  DPut H a (.ref b) v (upd H a (.dT (putK kvs k v))) := .inr ⟨kvs, k, b, e, rfl, eb, hl, rfl⟩
section
variable {X : Cx} {pins : List (Addr × Obj)} {σ : St} {H : Hp} {s : Shared} {a : Addr} {y v : V} {u r : Value} {o : Option V} {A : Around} {E : Value -> Shared -> Prop}
theorem Inv.big (I : Inv X pins σ H s) : sysModules < s.heap.objs.size := by
 have h : mainGlobals < s.heap.objs.size := (I.mod.glob.keeps I.bk).lt
 exact Nat.lt_trans (by decide) h
theorem rJ {Q : Value -> Shared -> Prop} (hu : A.units + 1 < cLine) (I : Inv X pins σ H s) (g : DGet H a y (some v)) (ry : RelV y u) (h : ∀ w' s', Inv X pins σ H s' -> RelV v w' -> Q w' s') :
  wpAny (model X.prog X.w) A (getItem (.ref a) u) Q E s := by
 rcases g with ⟨kvs, k, e, ey, l⟩ | ⟨kvs, k, b, e, ey, eb, l⟩
 ·subst ey
  obtain ⟨z, hd, vs, rel, dd⟩ := mK I.hok e
  obtain ⟨w', hw, rw'⟩ := RelO.some_of (v := v) (o := valueAt vs k) (by rw [l]; exact rel.val k)
  exact wpAny_getItem_of (mO ry) dd.mapOf hw (h w' _ (I.tok _) rw')
 ·subst ey
  cases (show u = Value.ref b from ry)
  obtain ⟨z, hd, xs, rel, dd⟩ := mH I.hok e
  obtain ⟨w', hw, rw'⟩ := RelO.some_of (v := v) (o := (atKey xs k).map (·.2)) (by rw [l]; exact rel.val k)
  obtain ⟨p, hp, hp2⟩ := Option.map_eq_some_iff.mp hw
  refine wpAny_getItem_heap (tupleKind_room_in1 hu) (jU I.hok eb) dd hp ?_
  rw [hp2]
  exact h w' _ (I.tok _) rw'
theorem xm {Q : Value -> Shared -> Prop} (hu : A.units + 1 < cLine) (I : Inv X pins σ H s) (g : DGet H a y o) (ry : RelV y u) (h : ∀ s', Inv X pins σ H s' -> Q (.bool o.isSome) s') :
  wpAny (model X.prog X.w) A (compareOp .In u (.ref a)) Q E s := by
 rcases g with ⟨kvs, k, e, ey, l⟩ | ⟨kvs, k, b, e, ey, eb, l⟩
 ·subst ey
  obtain ⟨z, hd, vs, rel, dd⟩ := mK I.hok e
  refine wpAny_in_of (mO ry) hd dd.mapOf ?_
  rw [<- (rel.val k).isSome_eq, <- l]
  exact h _ (I.tok _)
 ·subst ey
  cases (show u = Value.ref b from ry)
  obtain ⟨z, hd, xs, rel, dd⟩ := mH I.hok e
  refine wpAny_in_heap (tupleKind_room_in1 hu) (jU I.hok eb) hd dd ?_
  have q := (rel.val k).isSome_eq
  rw [Option.isSome_map] at q
  rw [<- q, <- l]
  exact h _ (I.tok _)
theorem qi {h' : Heap} {t' : Nat} {ob : HO} (I : Inv X pins σ H s) (mu : Mut (H a)) (hs : Heap.SameBut a s.heap h') (he : ∃ q, h'.get? a = some q) (new : ObjOk X.prog X.w (upd H a ob) h' a ob) :
  Inv X pins σ (upd H a ob) { s with heap := h', toks := t' } :=
 I.write (x := a) (e := a) mu (.inl rfl) (fun b q hb z => (hs.2 b hb).trans z) he new
theorem wg {P : Program} {w : World} {H' : Hp} {h' : Heap} {kvs : List (Key × V)} {vs : List (Key × Value)} (z : kvs.length <= sizeLine) (hd : (a == sysModules) = false) (rel : KV kvs vs) (dd : h'.DictOf (bK P w) a vs) :
  ObjOk P w H' h' a (.dK kvs) := ⟨z, hd, vs, rel, dd⟩
theorem sr {H' : Hp} {Q : Unit -> Shared -> Prop} (hu : A.units + 1 < cLine) (I : Inv X pins σ H s) (g : DPut H a y v H') (ry : RelV y u) (rv : RelV v r) (h : ∀ s', Inv X pins σ H' s' -> Q () s') :
  wpAny (model X.prog X.w) A (setItem (.ref a) u r) Q E s := by
 rcases g with ⟨kvs, k, e, ey, l, eH⟩ | ⟨kvs, k, b, e, ey, eb, l, eH⟩
 ·subst ey eH
  obtain ⟨z, hd, vs, rel, dd⟩ := wI I.hok e
  have hz : vs.length <= sizeLine := by rw [<- rel.length]; exact z
  have hl : (putK kvs k v).length <= sizeLine := by have := gj kvs k v; omega
  refine wpAny_setItem_pairs (hsz := hz) (mO ry) dd fun h' dd' hs => h _ ?_
  have he : ∃ q, h'.get? a = some q := let ⟨q, _, _, hq, _⟩ := dd'; ⟨q, hq⟩
  exact qi I (by rw [e]; exact True.intro) hs he (wg hl hd (rel.put k rv) dd')
 ·subst ey eH
  cases (show u = Value.ref b from ry)
  obtain ⟨z, hd, xs, rel, dd⟩ := w6 I.hok e
  have hz : xs.length <= sizeLine := by rw [<- Paired.length rel]; exact z
  have hl : (putK kvs k v).length <= sizeLine := by have := gj kvs k v; omega
  refine wpAny_setItem_heap (hsz := hz) (tupleKind_room_in1 hu) (jU I.hok eb) dd fun h' dd' hs => h _ ?_
  obtain ⟨q, es, ep, hq, h2, h3, h4, _, h5⟩ := dd'
  refine qi I (by rw [e]; exact True.intro) hs ⟨q, hq⟩ ⟨hl, hd, _, (rel.put k eb rv).keeps fun c ys ec => ?_, q, es, ep, hq, h2, h3, h4, h5⟩
  rw [aH (qz ec e (fun z => nomatch z))]
  exact ec
end
section
variable {X : Cx} {pins : List (Addr × Obj)} {σ : St} {H : Hp} {s : Shared} {a : Addr} {kvs : List (Key × V)} {k : Key} {u : Value} {A : Around} {E : Value -> Shared -> Prop}
end
def vV (i : Expr) : Prop := ∀ ov iv, subscripted i false ov iv = operate [ov, iv] (getItem ov iv)
theorem uP {prog : Program} {w : World} {A : Around} {E : Value -> Shared -> Prop} {s : Shared} {env : Env} {value slice : Expr} {pos : Pos} {T id : String} {Q : Value -> Shared -> Prop}
  (hl : typeLookup (.type T) "__getitem__" = pure (some (.builtin id))) (hs : vV slice)
  (h : wpAny (model prog w) A (eval value env) (fun o s₁ => wpAny (model prog w) A (eval slice env) (fun i s₂ => s₂.TypeIs o T /\ wpAny (model prog w) A (getItem o i) Q E s₂) E s₁) E s) :
  wpAny (model prog w) A (eval (.Subscript value slice pos) env) Q E s := by
 refine Subscript_ (wpAny_mono h (fun o s₁ h₁ => wpAny_mono h₁ (fun i s₂ h₂ => ?_) fun _ _ x => x) fun _ _ x => x)
 obtain ⟨hT, h₂⟩ := h₂
 unfold subscriptTail
 refine wpAny_bind ?_
 rw [getitemInPython_of_ne hT.not_modules]
 refine wpAny_bind (wpAny_specialOf hT hl ?_)
 have fin : wpAny (model prog w) A (subscripted slice false o i) (fun r s₃ => wpAny (model prog w) A (letTemporaryGo value o r >>= fun _ => pure r) Q E s₃) E s₂ := by
  rw [hs o i]
  exact wpAny_operating (wpAny_mono h₂ (fun r s₃ h₃ => wpAny_bind (wpAny_letTemporaryGo (wpAny_pure h₃))) fun _ _ x => x)
 first
  | exact wpAny_pure (wpAny_bind fin)
  | exact wpAny_bind (wpAny_pure (wpAny_bind fin))
  | exact wpAny_bind fin
theorem pq {X : Cx} {pins : List (Addr × Obj)} {σ : St} {H : Hp} {s : Shared} {a : Addr} {y : V} {o : Option V} (I : Inv X pins σ H s) (g : DGet H a y o) : s.TypeIs (.ref a) "dict" := by
 rcases g with ⟨kvs, k, e, _, _⟩ | ⟨kvs, k, b, e, _, _, _⟩
 ·obtain ⟨_, _, vs, _, dd⟩ := mK I.hok e
  exact dd.typeIs
 ·obtain ⟨_, _, xs, _, dd⟩ := mH I.hok e
  exact dd.typeIs
def wV (td ty : TE) : TE := fun σ H Q => td σ H fun x H1 => ty σ H1 fun y H2 => ∃ a v, x = .ref a /\ DGet H2 a y (some v) /\ Q v H2
def xx (ty td : TE) : TE := fun σ H Q => ty σ H fun y H1 => td σ H1 fun x H2 => ∃ a o, x = .ref a /\ DGet H2 a y o /\ Q (.bl o.isSome) H2
def ym (ty td : TE) : TE := fun σ H Q => ty σ H fun y H1 => td σ H1 fun x H2 => ∃ a o, x = .ref a /\ DGet H2 a y o /\ Q (.bl (!o.isSome)) H2
def wQ (td ty tv : TE) : TS := fun D σ H => tv σ H fun v H1 => td σ H1 fun x H2 => ty σ H2 fun y H3 => ∃ a H4, x = .ref a /\ DPut H3 a y v H4 /\ D.nx σ H4
def yL (td ty tv : TE) (rd : V -> V -> Hp -> VK -> Prop) : TS := fun D σ H => td σ H fun x H1 => ty σ H1 fun y H2 => ∃ a v, x = .ref a /\ DGet H2 a y (some v) /\
 tv σ H2 fun y2 H3 => rd v y2 H3 fun z H4 => ∃ H5, DPut H4 a y z H5 /\ D.nx σ H5
def yH (td ty : TE) : TS := fun D σ H => td σ H fun x H1 => ty σ H1 fun y H2 => ∃ a kvs k, x = .ref a /\ H2 a = some (.dK kvs) /\ y = kV k /\ (bB kvs k).isSome = true /\ D.nx σ (upd H2 a (.dK (jN kvs k)))
section
variable {X : Cx} {o i e value : Expr} {pos pos' tpos : Pos} {td ty tv : TE}
theorem uX (hu : X.A.units + 1 < cLine) (ho : PE X o td) (hi : PE X i ty) (hs : vV i) : PE X (.Subscript o i pos) (wV td ty) := by
 intro pins s σ H Q I h
 refine uP PySem.F.slot_dict_getitem.lookup hs (thn (ho pins s σ H _ I h) fun u s1 ⟨x, H1, I1, rx, q1⟩ => thn (hi pins s1 σ H1 _ I1 q1) fun iv s2 ⟨y, H2, I2, ry, a, v, ex, g, q2⟩ => ?_)
 subst ex
 obtain rfl : u = Value.ref a := rx
 exact ⟨pq I2 g, rJ hu I2 g ry fun w' s3 I3 rw' => ⟨v, H2, I3, rw', q2⟩⟩
theorem vJ (hu : X.A.units + 1 < cLine) (hi : PE X i ty) (ho : PE X o td) : PC X .In i o (xx ty td) := by
 intro pins s σ H Q I h
 refine thn (hi pins s σ H _ I h) fun iv s1 ⟨y, H1, I1, ry, q1⟩ => thn (ho pins s1 σ H1 _ I1 q1) fun u s2 ⟨x, H2, I2, rx, a, ov, ex, g, q2⟩ => ?_
 subst ex
 obtain rfl : u = Value.ref a := rx
 exact xm hu I2 g ry fun s3 I3 => ⟨.bl ov.isSome, H2, I3, rfl, q2⟩
theorem uL (hu : X.A.units + 1 < cLine) (ho : PE X o td) (hi : PE X i ty) (hv : PE X value tv) (hs : swapsWith value (some (.Subscript o i pos')) pos.line X.env = pure false) :
  PS X (.Assign [.Subscript o i pos'] value pos) (wQ td ty tv) := by
 intro pins s σ H D I h
 refine wpAny_Assign_Subscript (thn (hv pins s σ H _ I h) fun r s1 ⟨v, H1, I1, rv, q1⟩ => thn (ho pins s1 σ H1 _ I1 q1) fun u s2 ⟨x, H2, I2, rx, q2⟩ => thn (hi pins s2 σ H2 _ I2 q2) fun iv s3 ⟨y, H3, I3, ry, a, H4, ex, g, q3⟩ => ?_) hs
 subst ex
 obtain rfl : u = Value.ref a := rx
 exact sr hu I3 g ry rv fun s4 I4 => ⟨σ, H4, I4, q3⟩
end
theorem t7 {P : Program} {w : World} {H : Hp} (h : Heap) (hb : sysModules < h.objs.size) : ObjOk P w H (h.push { cls := .type "dict", data := .dict #[] }) h.objs.size (.dK []) :=
 ⟨Nat.zero_le _, beq_eq_false_iff_ne.mpr (Ne.symm (Nat.ne_of_lt hb)), [], .nil, Heap.DictOf.new h⟩
def vR : TE := fun _ H Q => ∀ p, H p = none -> Q (.ref p) (upd H p (.dK []))
def yF : TE := fun _ H Q => ∀ p, H p = none -> Q (.ref p) (upd H p (.dT []))
section
variable {X : Cx} {pos : Pos}
theorem tX : PE X (.Dict [] [] pos) vR := fun pins s σ H Q I h =>
 wpAny_Dict_empty ⟨.ref s.heap.objs.size, _, I.laid (a := s.heap.objs.size) (o := .dK []) (t' := s.toks) (fun _ _ q => Heap.get?_push_of_some _ q) (Nat.le_refl _) (t7 s.heap I.big), rfl, h _ (I.hok.fresh (Nat.le_refl _))⟩
end
def oV : List (TE × TE) -> St -> Hp -> (List (V × V) -> Hp -> Prop) -> Prop
 | [], _, H, Q => Q [] H
 | (tk, tv) :: r, σ, H, Q => tk σ H fun x H1 => tv σ H1 fun y H2 => oV r σ H2 fun ps H3 => Q ((x, y) :: ps) H3
abbrev VV : List (V × V) -> List (Value × Value) -> Prop := Paired fun p q => RelV p.1 q.1 /\ RelV p.2 q.2
def PPs (X : Cx) (pos : Pos) (keys : List (Option Expr)) (values : List Expr) (trs : List (TE × TE)) : Prop :=
 ∀ (pins : List (Addr × Obj)) (s : Shared) (σ : St) (H : Hp) (Q : List (V × V) -> Hp -> Prop), Inv X pins σ H s -> oV trs σ H Q ->
  wpAny (model X.prog X.w) X.A (evalPairs (pairTrees keys values X.env pos)) (fun vs s' => ∃ ps H', Inv X pins σ H' s' /\ VV ps vs /\ Q ps H') X.xe s
def wA (kvs more : List (Key × V)) : List (Key × V) := more.foldl (fun acc kv => putK acc kv.1 kv.2) kvs
def yS (trs : List (TE × TE)) : TE := fun σ H Q => ∀ p, H p = none -> oV trs σ (upd H p (.dK [])) fun ps H2 => H2 p = some (.dK []) /\ ∃ kvs : List (Key × V), ps = kvs.map (fun kv => (kV kv.1, kv.2)) /\ kvs.length <= 15 /\ Q (.ref p) (upd H2 p (.dK (wA [] kvs)))
structure M1 (X : Cx) (o : Expr) (m : Str) (apos : Pos) (e : Expr) (cpos : Pos) : Prop where
 base : attributeBase o m X.env (eval o X.env) = eval o X.env
 few : ((backTo cpos (starEach [e] X.env)).all (fun x => !x.1) && (backToKw cpos (keywordEach [] X.env)).all (fun x => x.1.isSome)
  && decide (([e] : List Expr).length + ([] : List Keyword).length + (if ([] : List Keyword).isEmpty then 0 else 1) < 30)) = true
 line : (apos.endLine == cpos.line) = true
 trees : backTo cpos (starEach [e] X.env) = [(false, eval e X.env)]
structure M2 (X : Cx) (o : Expr) (m : Str) (apos : Pos) (e f : Expr) (cpos : Pos) : Prop where
 base : attributeBase o m X.env (eval o X.env) = eval o X.env
 few : ((backTo cpos (starEach [e, f] X.env)).all (fun x => !x.1) && (backToKw cpos (keywordEach [] X.env)).all (fun x => x.1.isSome)
  && decide (([e, f] : List Expr).length + ([] : List Keyword).length + (if ([] : List Keyword).isEmpty then 0 else 1) < 30)) = true
 line : (apos.endLine == cpos.line) = true
 trees : backTo cpos (starEach [e, f] X.env) = [(false, eval e X.env), (false, eval f X.env)]
def IsD (H : Hp) (a : Addr) : Prop := (∃ kvs, Rd H a (.dK kvs)) \/ ∃ kvs, Rd H a (.dT kvs)
section
variable {X : Cx} {pins : List (Addr × Obj)} {σ : St} {H : Hp} {s : Shared} {a : Addr} {y d : V} {u r : Value} {o : Option V} {A : Around} {E : Value -> Shared -> Prop}
end
def yx (td ty : TE) : TE := fun σ H Q => td σ H fun x H1 => ∃ a, x = .ref a /\ IsD H1 a /\ ty σ H1 fun y H2 => ∃ o, DGet H2 a y o /\ Q (o.getD .non) H2
def yE (td ty tx : TE) : TE := fun σ H Q => td σ H fun x H1 => ∃ a, x = .ref a /\ IsD H1 a /\ ty σ H1 fun y H2 => tx σ H2 fun z H3 => ∃ o, DGet H3 a y o /\ Q (o.getD z) H3
def yw (td ty : TE) : TE := fun σ H Q => td σ H fun x H1 => ∃ a, x = .ref a /\ IsD H1 a /\ ty σ H1 fun y H2 => ∃ kvs k v, H2 a = some (.dK kvs) /\ y = kV k /\ bB kvs k = some v /\ Q v (upd H2 a (.dK (jN kvs k)))
def yt (td ty tx : TE) : TE := fun σ H Q => td σ H fun x H1 => ∃ a, x = .ref a /\ IsD H1 a /\ ty σ H1 fun y H2 => tx σ H2 fun z H3 => ∃ kvs k, H3 a = some (.dK kvs) /\ y = kV k /\
 (∀ v, bB kvs k = some v -> Q v (upd H3 a (.dK (jN kvs k)))) /\ (bB kvs k = none -> Q z H3)
section
variable {X : Cx} {o e f : Expr} {apos cpos : Pos} {td ty tx : TE}
end
section
variable {X : Cx} {pins : List (Addr × Obj)} {σ : St} {H : Hp} {s : Shared} {a : Addr} {kvs : List (Key × V)} {A : Around} {E : Value -> Shared -> Prop}
end
section
variable {X : Cx} {pins : List (Addr × Obj)} {σ : St} {H : Hp} {s : Shared} {a : Addr} {y : V} {u : Value} {A : Around} {E : Value -> Shared -> Prop}
end
end L2
set_option Elab.async false
set_option linter.all false
set_option maxRecDepth 100000
set_option maxHeartbeats 4000000
namespace L2
open PySem PySem.Spec PyProof.Rows
theorem jM : ∀ {ts : List Str} {its : List Value}, Vals (ts.map V.str) its -> ∃ l : List (Str × Tok), its = strValues l /\ l.map (·.1) = ts
 | [], its, r => by
  rw [List.map_nil] at r
  cases r
  exact ⟨[], rfl, rfl⟩
 | t :: ts, its, r => by
  rw [List.map_cons] at r
  cases r with
  | cons r1 r2 =>
   obtain ⟨k, rfl⟩ := r1
   obtain ⟨l, rfl, e⟩ := jM r2
   exact ⟨(t, k) :: l, rfl, by rw [List.map_cons, e]⟩
theorem jB : ∀ (l : List (Str × Tok)), Vals ((l.map (·.1)).map V.str) (strValues l)
 | [] => .nil
 | (x, t) :: r => .cons ⟨t, rfl⟩ (jB r)
def rJoin (K : PySem.W.Frag) : V -> List V -> Hp -> VK -> Prop := fun x xs H Q => ∃ z a ts, x = .str z /\ xs = [.ref a] /\ SqL K H a (ts.map V.str) /\ JoinOk z ts = true /\ Q (.str (Txt.join z ts)) H
def vo : V -> List V -> Hp -> VK -> Prop := fun x xs H Q => ∃ z y : Str, x = .str z /\ xs = [.str y] /\ (y.length == 0) = false /\ z.length + 2 <= sizeLine /\ ∀ p, H p = none -> Q (.ref p) (upd H p (.lst ((Txt.split z y).map V.str)))
section
variable {X : Cx}
theorem ux : MtR X "str.join" (rJoin X.K) := by
 intro pins s σ H x xs v us Q I rx rs h
 obtain ⟨z, a, ts, rfl, rfl, hq, hj, q⟩ := h
 obtain ⟨t, rfl⟩ := rx
 obtain ⟨u, rfl, ru⟩ := vals1 rs
 cases ru
 obtain ⟨its, r, p, hz⟩ := I.list hq
 obtain ⟨l, rfl, e⟩ := jM r
 exact SC.join p.isList e hj fun t' k => ⟨.str (Txt.join z ts), H, I.tok _, ⟨_, rfl⟩, q⟩
theorem gJ : MtR X "str.split" vo := by
 intro pins s σ H x xs v us Q I rx rs h
 obtain ⟨z, y, rfl, rfl, hy, hz, q⟩ := h
 obtain ⟨t, rfl⟩ := rx
 obtain ⟨u, rfl, t', rfl⟩ := vals1 rs
 have hl := split_le z y
 have fin : ∀ (l : List (Str × Tok)) (k : Nat), l.map (·.1) = Txt.split z y -> EP X pins σ Q (.ref s.heap.objs.size) { s with toks := k, heap := s.heap.push { cls := .type "list", data := .seq (strValues l).toArray } } := fun l k e => by
  refine ⟨.ref s.heap.objs.size, _, I.laid (o := .lst ((Txt.split z y).map V.str)) (fun b ob hb => Heap.get?_push_of_some _ hb) (Nat.le_refl _) ?_, rfl, q _ (I.hok.fresh (Nat.le_refl _))⟩
  refine ⟨?_, _, 0, ?_, Heap.get?_push_size _ rfl⟩
  ·rw [List.length_map]
   omega
  ·rw [<- e]
   exact jB l
 have hx : z.length <= sizeLine := by omega
 have one : Txt.split z y = [z] -> EP X pins σ Q (.ref s.heap.objs.size) { s with heap := s.heap.push { cls := .type "list", data := .seq #[.str z t] } } := fun e => fin [(z, t)] s.toks e.symm
 cases h1 : (decide (z.length < y.length) || decide (Builtin.Str.strKind z < Builtin.Str.strKind y))
 ·cases hf : (Builtin.Str.occurrences z y 0 z.length (z.length + 1)).isEmpty
  ·have e : Txt.split z y = Builtin.Str.partsBetween z (Builtin.Str.occurrences z y 0 z.length (z.length + 1)) y.length := by
    unfold Txt.split
    rw [if_neg (by rw [h1]; exact Bool.false_ne_true), if_neg (by rw [hf]; exact Bool.false_ne_true)]
   refine call_meets F.slot_str_split (typeIs_str _ _ _) F.entry_str_split (F.args_str_split_2 _ _) (meets_str_split_sep z y t t' h1 hy hf hx (by rw [<- e]; omega)) ?_
   have w := fin (numbered s.toks (Txt.split z y)) (s.toks + (Txt.split z y).length) (numbered_texts _ _)
   rw [<- strsFrom_eq, e] at w
   exact w
  ·refine call_meets F.slot_str_split (typeIs_str _ _ _) F.entry_str_split (F.args_str_split_2 _ _) (meets_str_split_not_found z y t t' h1 hy hf) (one ?_)
   unfold Txt.split
   rw [if_neg (by rw [h1]; exact Bool.false_ne_true), if_pos hf]
 ·refine call_meets F.slot_str_split (typeIs_str _ _ _) F.entry_str_split (F.args_str_split_2 _ _) (meets_str_split_cannot_occur z y t t' h1) (one ?_)
  unfold Txt.split
  rw [if_pos h1]
def xM : V -> Option Int -> Option Int -> Hp -> VK -> Prop := fun x lo hi H Q => ∃ z : Str, x = .str z /\ z.length <= sizeLine /\ Q (.str (Txt.slice z lo hi)) H
theorem part_of {v : Value} {o : Option Int} (p : IsPart v o) : ∃ l : Option (Int × Tok), v = partValue l /\ l.map (·.1) = o := by
 cases p with
 | none => exact ⟨none, rfl, rfl⟩
 | int i t => exact ⟨some (i, t), rfl, rfl⟩
theorem gw : SlR X xM := by
 intro pins s σ H x v vl vu lo hi sl Q I rx hs pl pu h
 obtain ⟨z, rfl, hz, q⟩ := h
 obtain ⟨t, rfl⟩ := rx
 obtain ⟨l, rfl, rfl⟩ := part_of pl
 obtain ⟨u, rfl, rfl⟩ := part_of pu
 refine ⟨"str", _, F.slot_str_getitem.lookup, typeIs_str _ _ _, wpAny_getItem_str_slice (l := l) (u := u) (st := none) hs rfl ?_⟩
 exact post_val_or_str ⟨Nat.le_trans (Txt.slice_le z _ _) hz, fun t' k => ⟨.str (Txt.slice z (l.map (·.1)) (u.map (·.1))), H, I.tok _, ⟨_, rfl⟩, q⟩⟩
theorem g8 : CallR X (.type "int") (fun xs H Q => ∃ (z : Str) (n : Int), xs = [.str z] /\ PySem.intText? z = some n /\ z.length <= 640 /\ Q (.int n) H) := by
 intro pins s σ H xs us Q I r h
 obtain ⟨z, n, rfl, hn, hl, q⟩ := h
 obtain ⟨u, rfl, t, rfl⟩ := vals1 r
 exact PySem.W.KIN.call_text hn hl ⟨.int n, H, I.tok _, ⟨_, rfl⟩, q⟩
theorem qy : OpR X (binaryOp .Mult) (fun x y H Q => ∃ (z : Str) (n : Int), x = .str z /\ y = .int n /\ MulOk z n /\ Q (.str (Txt.mul z n)) H) := by
 intro pins s σ H x y v u Q I rx ry h
 obtain ⟨z, n, rfl, rfl, hk, q⟩ := h
 obtain ⟨t, rfl⟩ := rx
 obtain ⟨t', rfl⟩ := ry
 exact SB.mul hk fun t' k => ⟨.str (Txt.mul z n), H, I.tok _, ⟨_, rfl⟩, q⟩
end
def Its (z : Str) : It := ⟨fun i _ => i < z.cps.size, fun i H x H' => H' = H /\ ∃ c, z.cps[i]? = some c /\ x = .str ⟨#[c]⟩, fun i _ => z.cps.size <= i⟩
theorem nR {P : Program} {w : World} {K : PySem.W.Frag} {tg : Expr} (it : Addr) (ty : String) (hty : ty = "str_ascii_iterator" \/ ty = "str_iterator") (z : Str) (t : Tok) : Turn P w K tg (Its z) [it] it (fun i h => h.IsStrIter it ty z t i) where
 mem := by simp
 obj := fun i h st b hb => by
  have e : b = it := by simpa using hb
  subst e
  obtain ⟨o, e, c, d⟩ := st
  exact ⟨o, e, fun v z => by rw [d] at z; cases z⟩
 keep := fun i h h' st k => by
  obtain ⟨o, e, r⟩ := st
  exact ⟨o, k it (by simp) o e, r⟩
 item := by
  intro X hP hw hK hc i pins s σ H E I hf st hg
  subst hP hw hK
  obtain ⟨f0, f1, f2, f3, f4, f5⟩ := hf it (by simp)
  have hg : i < z.cps.size := hg
  have go : ∀ (h' : Heap), h'.IsStrIter it ty z t (i + 1) -> Heap.SameBut it s.heap h' -> ∃ u, some (Value.str ⟨#[z.cps[i]]⟩ s.toks) = some u /\ wpAny (model X.prog X.w) X.A (letOwnedTupleGo tg (.ref it) u) (fun _ s2 => ∃ x H', Inv X pins σ H' s2 /\ RelV x u /\ (Its z).yld i H x H' /\ s2.heap.IsStrIter it ty z t (i + 1) /\ ∀ b ∈ [it], H' b = none) E { s with heap := h', toks := s.toks + 1 } := fun h' st' sb => by
   have I1 : Inv X pins σ H { s with heap := h', toks := s.toks + 1 } := I.turned (t' := s.toks + 1) (fun b o hb e => (sb.2 b hb).trans e) f0 f1 f3 f4 f5
   obtain ⟨o, e, c, d⟩ := id st'
   refine ⟨_, rfl, qu (s := { s with heap := h', toks := s.toks + 1 }) e c d ?_ ⟨.str ⟨#[z.cps[i]]⟩, H, I1, ⟨_, rfl⟩, ⟨rfl, _, Array.getElem?_eq_getElem hg, rfl⟩, st', fun b hb => (hf b hb).1⟩⟩
   rcases hty with rfl | rfl <;> decide
  rcases hty with rfl | rfl
  ·exact wpAny_pyNext_ascii_item st (c := z.cps[i]) (Array.getElem?_eq_getElem hg) fun h' st' sb => go h' st' sb
  ·exact wpAny_pyNext_wide_item st (c := z.cps[i]) (Array.getElem?_eq_getElem hg) fun h' st' sb => go h' st' sb
 done := by
  intro X hP hw hK hc i pins s σ H E I hf st hg
  subst hP hw hK
  obtain ⟨f0, f1, f2, f3, f4, f5⟩ := hf it (by simp)
  rcases hty with rfl | rfl
  ·exact wpAny_pyNext_ascii_end (I.ok.hd hc) st (Array.getElem?_eq_none hg) fun h' eb => ⟨rfl, I.turned (t' := s.toks) (fun b o hb e => eb b o hb e) f0 f1 f3 f4 f5⟩
  ·exact wpAny_pyNext_wide_end (I.ok.hd hc) st (Array.getElem?_eq_none hg) fun h' eb => ⟨rfl, I.turned (t' := s.toks) (fun b o hb e => eb b o hb e) f0 f1 f3 f4 f5⟩
 self := fun _ _ _ _ _ st h => by
  rcases hty with rfl | rfl
  ·exact wpAny_pyIter_striter_ascii st h
  ·exact wpAny_pyIter_striter_wide st h
def xF (tl : TE) : TI := fun σ H R => tl σ H fun x H1 => ∃ z, x = .str z /\ R (Its z) H1
theorem ww {X : Cx} {tg l : Expr} {tl : TE} (hl : PE X l tl) : PI X tg l (xF tl) := by
 intro pins s σ H R I h
 refine thn (hl pins s σ H _ I h) fun v s1 ⟨x, H1, I1, r1, q1⟩ => ?_
 obtain ⟨z, rfl, q⟩ := q1
 obtain ⟨t, rfl⟩ := r1
 have f : ∀ b ∈ [s1.heap.objs.size], bW X pins H1 b := fun b hb => by
  have e : b = s1.heap.objs.size := by simpa using hb
  subst e
  exact I1.fpOk (Nat.le_refl _) (I1.hok.fresh (Nat.le_refl _))
 cases ha : z.cps.all (· < 128)
 ·exact wpAny_pyIter_wide ha ⟨s1.heap.objs.size, [s1.heap.objs.size], _, _, H1, rfl, I1.kept (t' := s1.toks) fun b o e => Heap.get?_push_of_some _ e, nR _ "str_iterator" (.inr rfl) z t, ⟨_, Heap.get?_push_size _ rfl, rfl, rfl⟩, f, q⟩
 ·exact wpAny_pyIter_ascii ha ⟨s1.heap.objs.size, [s1.heap.objs.size], _, _, H1, rfl, I1.kept (t' := s1.toks) fun b o e => Heap.get?_push_of_some _ e, nR _ "str_ascii_iterator" (.inl rfl) z t, ⟨_, Heap.get?_push_size _ rfl, rfl, rfl⟩, f, q⟩
theorem tZ {z : Str} {g : TG} {tt : TT} {te : TE} {σc : St} {H : Hp} {Fin : List V -> Hp -> Prop} (Pv : Nat -> List V -> Hp -> Prop) (h0 : Pv 0 [] H) (hl : ∀ i ys H, Pv i ys H -> ys.length <= i) (hz : z.cps.size <= sizeLine)
  (hs : ∀ i c ys H, z.cps[i]? = some c -> Pv i ys H -> g (.str ⟨#[c]⟩) σc H fun σ2 H2 => tt σ2 H2 fun b H3 => if b = true then te σ2 H3 fun y H4 => Pv (i + 1) (ys ++ [y]) H4 else Pv (i + 1) ys H3)
  (hd : ∀ ys H, Pv z.cps.size ys H -> Fin ys H) : cV (Its z) g tt te σc H Fin := by
 refine ⟨fun i m ys H => m = z.cps.size - i /\ i <= z.cps.size /\ Pv i ys H, ⟨z.cps.size, by simp, Nat.zero_le _, h0⟩, ?_⟩
 rintro i m ys H ⟨rfl, hi, p⟩
 have hy := hl i ys H p
 by_cases hlt : i < z.cps.size
 ·refine .inr ⟨hlt, by omega, Pv (i + 1), fun ys' H' p' => ⟨z.cps.size - (i + 1), by omega, rfl, hlt, p'⟩, fun x H' y => ?_⟩
  obtain ⟨rfl, c, e, rfl⟩ := y
  exact hs i c ys _ e p
 ·have e : i = z.cps.size := by omega
  subst e
  exact .inl ⟨Nat.le_refl _, hd ys H p⟩
end L2
set_option Elab.async false
set_option linter.all false
set_option maxRecDepth 100000
set_option maxHeartbeats 4000000
namespace Tx
open PySem
def sh (n : Int) : Str := Str.ofString (toString n)
def nums : List Int := (List.range 201).map fun (k : Nat) => (k : Int) - 100
def numO (w : Str) : Option Int := nums.find? fun n => decide (sh n = w)
def figs (l : List Nat) : List Nat := if l.take 1 = [45] then l.drop 1 else l
def dig (c : Nat) : Bool := decide (48 <= c) && decide (c <= 57)
def worth (l : List Nat) : Int := (intText? ⟨l.toArray⟩).getD 0
def lawL (l : List Nat) : Option Int :=
 if ¬ (0 < (figs l).length /\ (figs l).length < 4) \/ ¬ (figs l).all dig = true then none
 else if ((figs l).take 1 = [48] /\ l ≠ [48]) \/ worth (figs l) > 100 then none else some (worth l)
def digs : List Nat := [48, 49, 50, 51, 52, 53, 54, 55, 56, 57]
def words : List (List Nat) := digs.map (fun a => [a]) ++ digs.flatMap (fun a => digs.map fun b => [a, b]) ++ digs.flatMap fun a => digs.flatMap fun b => digs.map fun c => [a, b, c]
theorem tG : (words.all fun f => (intText? ⟨f.toArray⟩).isSome && (intText? ⟨(45 :: f).toArray⟩).isSome) = true := by decide +kernel
def okW (l : List Nat) : Bool := match lawL l with
 | none => true
 | some m => decide ((sh m).cps.toList = l) && decide (-100 <= m) && decide (m <= 100)
theorem u9 : (words.all fun f => okW f && okW (45 :: f)) = true := by decide +kernel
theorem v6 : (nums.all fun n => decide (lawL (sh n).cps.toList = some n)) = true := by decide +kernel
theorem dig_mem {c : Nat} (h : dig c = true) : c ∈ digs := by
 unfold dig at h
 rw [Bool.and_eq_true] at h
 have h1 : 48 <= c := of_decide_eq_true h.1
 have h2 : c <= 57 := of_decide_eq_true h.2
 have h3 : c = 48 \/ c = 49 \/ c = 50 \/ c = 51 \/ c = 52 \/ c = 53 \/ c = 54 \/ c = 55 \/ c = 56 \/ c = 57 := by omega
 rcases h3 with rfl | rfl | rfl | rfl | rfl | rfl | rfl | rfl | rfl | rfl <;> decide
theorem lu {f : List Nat} (h0 : 0 < f.length) (h4 : f.length < 4) (hd : f.all dig = true) : f ∈ words := by
 have hm := List.all_eq_true.mp hd
 unfold words
 match f, h0, h4, hm with
 | [a], _, _, hm => exact List.mem_append_left _ (List.mem_append_left _ (List.mem_map.mpr ⟨a, dig_mem (hm a (by simp)), rfl⟩))
 | [a, b], _, _, hm => exact List.mem_append_left _ (List.mem_append_right _ (List.mem_flatMap.mpr ⟨a, dig_mem (hm a (by simp)), List.mem_map.mpr ⟨b, dig_mem (hm b (by simp)), rfl⟩⟩))
 | [a, b, c], _, _, hm => exact List.mem_append_right _ (List.mem_flatMap.mpr ⟨a, dig_mem (hm a (by simp)), List.mem_flatMap.mpr ⟨b, dig_mem (hm b (by simp)), List.mem_map.mpr ⟨c, dig_mem (hm c (by simp)), rfl⟩⟩⟩)
theorem figs_cases (l : List Nat) : (figs l = l /\ ¬ l.take 1 = [45]) \/ (l = 45 :: figs l /\ l.take 1 = [45]) := by
 unfold figs
 by_cases h : l.take 1 = [45]
 ·rw [if_pos h]
  refine .inr ⟨?_, h⟩
  cases l with
  | nil => cases h
  | cons a r =>
   have : a = 45 := by simpa using h
   rw [this]
   rfl
 ·rw [if_neg h]
  exact .inl ⟨rfl, h⟩
theorem reads {l : List Nat} (h0 : 0 < (figs l).length) (h4 : (figs l).length < 4) (hd : (figs l).all dig = true) : intText? ⟨(figs l).toArray⟩ = some (worth (figs l)) /\ intText? ⟨l.toArray⟩ = some (worth l) := by
 have h := List.all_eq_true.mp tG _ (lu h0 h4 hd)
 rw [Bool.and_eq_true] at h
 obtain ⟨h1, h2⟩ := h
 have e1 : intText? ⟨(figs l).toArray⟩ = some (worth (figs l)) := by
  unfold worth
  cases e : intText? ⟨(figs l).toArray⟩ with
  | none => rw [e] at h1; cases h1
  | some n => rfl
 refine ⟨e1, ?_⟩
 rcases figs_cases l with ⟨e, _⟩ | ⟨e, _⟩
 ·rw [e] at e1
  exact e1
 ·unfold worth
  rw [<- e] at h2
  cases e' : intText? ⟨l.toArray⟩ with
  | none => rw [e'] at h2; cases h2
  | some n => rfl
theorem uW {l : List Nat} {m : Int} (h : lawL l = some m) : (sh m).cps.toList = l /\ -100 <= m /\ m <= 100 := by
 have h' := h
 unfold lawL at h'
 split at h'
 ·cases h'
 ·rename_i hc
  have hc1 : 0 < (figs l).length /\ (figs l).length < 4 := Classical.byContradiction fun z => hc (.inl z)
  have hc2 : (figs l).all dig = true := Classical.byContradiction fun z => hc (.inr z)
  have w := List.all_eq_true.mp u9 _ (lu hc1.1 hc1.2 hc2)
  rw [Bool.and_eq_true] at w
  have ok : okW l = true := by
   rcases figs_cases l with ⟨e, _⟩ | ⟨e, _⟩
   ·rw [<- e]; exact w.1
   ·rw [e]; exact w.2
  unfold okW at ok
  rw [h] at ok
  simp only [Bool.and_eq_true, decide_eq_true_eq] at ok
  exact ⟨ok.1.1, ok.1.2, ok.2⟩
theorem str_of {w : Str} : w = ⟨w.cps.toList.toArray⟩ := by cases w; simp
theorem mem_nums {n : Int} : n ∈ nums ↔ -100 <= n /\ n <= 100 := by
 unfold nums
 rw [List.mem_map]
 constructor
 ·rintro ⟨k, hk, rfl⟩
  have := List.mem_range.mp hk
  omega
 ·rintro ⟨h1, h2⟩
  exact ⟨(n + 100).toNat, List.mem_range.mpr (by omega), by omega⟩
theorem ig {w : Str} {n : Int} (h : numO w = some n) : sh n = w /\ -100 <= n /\ n <= 100 := by
 unfold numO at h
 have h1 := List.find?_some h
 have h2 := List.mem_of_find?_eq_some h
 exact ⟨of_decide_eq_true h1, mem_nums.mp h2⟩
theorem iM {n : Int} (h1 : -100 <= n) (h2 : n <= 100) : lawL (sh n).cps.toList = some n := of_decide_eq_true (List.all_eq_true.mp v6 n (mem_nums.mpr ⟨h1, h2⟩))
theorem lawL_eq (w : Str) : lawL w.cps.toList = numO w := by
 cases h : numO w with
 | some n =>
  obtain ⟨rfl, h1, h2⟩ := ig h
  exact iM h1 h2
 | none =>
  cases h' : lawL w.cps.toList with
  | none => rfl
  | some m =>
   obtain ⟨e, h1, h2⟩ := uW h'
   have e' : sh m = w := by
    rw [str_of (w := sh m), e, <- str_of]
   have := List.find?_eq_none.mp h m (mem_nums.mpr ⟨h1, h2⟩)
   exact absurd (decide_eq_true e') this
theorem sh_inj {m n : Int} (h1 : -100 <= m) (h2 : m <= 100) (h3 : -100 <= n) (h4 : n <= 100) (h : sh m = sh n) : m = n := by
 have a := iM h1 h2
 rw [h, iM h3 h4] at a
 exact (Option.some.inj a).symm
theorem sh_len {n : Int} (h1 : -100 <= n) (h2 : n <= 100) : (sh n).length <= 4 := by
 have := List.all_eq_true.mp (show (nums.all fun n => decide ((sh n).length <= 4)) = true by decide +kernel) n (mem_nums.mpr ⟨h1, h2⟩)
 exact of_decide_eq_true this
theorem slice_head (w : Str) : Txt.slice w none (some 1) = ⟨(w.cps.toList.take 1).toArray⟩ := by
 by_cases h : 1 <= w.length
 ·have := PyProof.Rows.slice_closes_toL (x := w) (j := 1) (by decide) (by omega)
  have e := eq_of_beq this
  rw [e]
  rfl
 ·have h0 : w.cps = #[] := Array.eq_empty_of_size_eq_zero (show w.length = 0 by omega)
  obtain ⟨c⟩ := w
  subst h0
  rfl
theorem slice_tail (w : Str) : Txt.slice w (some 1) none = ⟨(w.cps.toList.drop 1).toArray⟩ := by
 by_cases h : 1 <= w.length
 ·rw [PyProof.Rows.slice_from_eq (x := w) (i := 1) (b := w.length) (by decide) (by omega) rfl]
  congr 1
  congr 1
  refine List.take_of_length_le ?_
  have : w.cps.toList.length = w.length := Array.length_toList
  rw [List.length_drop, this]
  have e : (1 : Int).toNat = 1 := rfl
  rw [e]
  omega
 ·have h0 : w.cps = #[] := Array.eq_empty_of_size_eq_zero (show w.length = 0 by omega)
  obtain ⟨c⟩ := w
  subst h0
  rfl
def okWs (r : List Str) : Bool := r.all fun w => (numO w).isSome
def valWs (r : List Str) : List Int := r.map fun w => (numO w).getD 0
def semi : Str := Str.ofString "; "
def blank : Str := Str.ofString " "
def rowsT (t : Str) : List (List Str) := (Txt.split t semi).map fun r => Txt.split r blank
def valT (t : Str) : List (List Int) := (rowsT t).map valWs
def lensOk {α : Type} (T : List (List α)) : Bool := decide (T.length <= 4) && decide ((T.headD []).length <= 4) && T.all fun r => decide (r.length = (T.headD []).length)
def okT (t : Str) : Bool := (rowsT t).all okWs && lensOk (rowsT t)
def wrow (r : List Int) : Str := Txt.join blank (r.map sh)
def wr (T : List (List Int)) : Str := Txt.join semi (T.map wrow)
theorem join_split (x y : Str) : Txt.join y (Txt.split x y) = x := by
 show Builtin.Str.glued y _ = x
 rw [StrLaws.glued_eq_join]
 exact StrLaws.join_split x y
theorem sO {r : List Str} (h : okWs r = true) : (valWs r).map sh = r := by
 unfold valWs
 rw [List.map_map]
 refine (List.map_congr_left fun w hw => ?_).trans (List.map_id r)
 have := List.all_eq_true.mp h w hw
 cases e : numO w with
 | none => rw [e] at this; cases this
 | some n =>
  show sh ((numO w).getD 0) = w
  rw [e]
  exact (ig e).1
theorem wr_val {t : Str} (h : (rowsT t).all okWs = true) : wr (valT t) = t := by
 unfold wr valT
 rw [List.map_map]
 have e : (rowsT t).map (wrow ∘ valWs) = Txt.split t semi := by
  unfold rowsT
  rw [List.map_map]
  refine (List.map_congr_left fun r hr => ?_).trans (List.map_id _)
  have := List.all_eq_true.mp h (Txt.split r blank) (List.mem_map.mpr ⟨r, hr, rfl⟩)
  show Txt.join blank ((valWs (Txt.split r blank)).map sh) = r
  rw [sO this]
  exact join_split r blank
 rw [e]
 exact join_split t semi
theorem rows_pos (t : Str) : 1 <= (rowsT t).length := by
 unfold rowsT
 rw [List.length_map]
 exact PyProof.Rows.split_pos t semi
theorem row_pos {t : Str} {r : List Str} (h : r ∈ rowsT t) : 1 <= r.length := by
 obtain ⟨x, _, rfl⟩ := List.mem_map.mp h
 exact PyProof.Rows.split_pos x blank
theorem k_ {α β : Type} (f : List α -> List β) (hf : ∀ r, (f r).length = r.length) (T : List (List α)) : ((T.map f).headD []).length = (T.headD []).length := by
 cases T with
 | nil => rfl
 | cons r T => exact hf r
theorem lensOk_map {α β : Type} (f : List α -> List β) (hf : ∀ r, (f r).length = r.length) (T : List (List α)) : lensOk (T.map f) = lensOk T := by
 unfold lensOk
 rw [k_ f hf, List.length_map, List.all_map]
 congr 1
 congr 1
 funext r
 simp [hf]
theorem val_len (r : List Str) : (valWs r).length = r.length := List.length_map ..
theorem val_in {t : Str} (h : (rowsT t).all okWs = true) : ∀ r ∈ valT t, ∀ x ∈ r, -100 <= x /\ x <= 100 := by
 intro r hr x hx
 obtain ⟨ws, hw, rfl⟩ := List.mem_map.mp hr
 obtain ⟨w, hw', rfl⟩ := List.mem_map.mp hx
 have := List.all_eq_true.mp (List.all_eq_true.mp h ws hw) w hw'
 cases e : numO w with
 | none => rw [e] at this; cases this
 | some n => exact (ig e).2
theorem good_val {t : Str} (h : okT t = true) : ∃ m n, L2.Good (valT t) m n := by
 unfold okT at h
 rw [Bool.and_eq_true] at h
 obtain ⟨h1, h2⟩ := h
 have h2' := h2
 rw [<- lensOk_map valWs val_len] at h2
 have h2 : lensOk (valT t) = true := h2
 unfold lensOk at h2
 simp only [Bool.and_eq_true, decide_eq_true_eq, List.all_eq_true] at h2
 obtain ⟨⟨a, b⟩, c⟩ := h2
 have p := rows_pos t
 have pl : (valT t).length = (rowsT t).length := List.length_map ..
 refine ⟨(valT t).length, ((valT t).headD []).length, ⟨by omega, a, ?_, b, rfl, c, val_in h1⟩⟩
 unfold valT
 rw [k_ valWs val_len]
 cases e : rowsT t with
 | nil => rw [e] at p; simp at p
 | cons r R => exact row_pos (t := t) (by rw [e]; exact List.mem_cons_self)
end Tx
set_option Elab.async false
set_option linter.all false
set_option maxRecDepth 100000
set_option maxHeartbeats 4000000
namespace L2
open PySem PySem.Spec PyProof.Rows
theorem jD {X : Cx} (K : PySem.W.Frag) (h : X.K = K := by rfl) : MtR X "str.join" (rJoin K) := by subst h; exact ux
theorem uO {X : Cx} {x : Str} {ps : List Str} {k : Nat} {sp : Sp} {p pos : Pos} (D : Def X.prog X.w X.K X.mg X.base x ps k sp) (hr : Room k X.A) (hg : Gl X x) (hdb : (x == ("__debug__" : Str)) = false := by decide) : PE X (.Call (.Name x p) [] [] pos) (jH sp [] E0 tH) := by
 obtain ⟨f, fd, F, hm, hk, hb⟩ := D.ex
 exact tQ F hr hg hm hk hb .nil uv hdb
theorem dR {X : Cx} (K : PySem.W.Frag) {o e : Expr} {es : List Expr} {to : TE} {t : TA} {name : Str} {apos cpos : Pos} {T id : String} {r : V -> List V -> Hp -> VK -> Prop} (pa : PlainAttrs T) (slot : Slot T name id) (hty : typeOf (.builtin id) = pure (.type "method_descriptor")) (hm : MtR X id r) (ho : PE X o to) (ha : PA X (e :: es) t)
  (hK : X.K = K := by rfl) (hbase : attributeBase o name X.env (eval o X.env) = eval o X.env := by rfl)
  (hfew : ((backTo cpos (starEach (e :: es) X.env)).all (fun x => !x.1) && (backToKw cpos (keywordEach [] X.env)).all (fun x => x.1.isSome) && decide ((e :: es).length + ([] : List Keyword).length + (if ([] : List Keyword).isEmpty then 0 else 1) < 30)) = true := by rfl)
  (hline : (apos.endLine == cpos.line) = true := by rfl) (hs : starEach (e :: es) X.env = (false, eval e X.env) :: starEach es X.env := by rfl) (hplain : (backTo cpos (starEach es X.env)).any (·.1) = false := by rfl) :
  PE X (.Call (.Attribute o name apos) (e :: es) [] cpos) (tBM K T r to t) := by
 subst hK
 exact mJ pa slot hty hm ho ha hbase hfew hline hs hplain
theorem qF {k : Nat} {A : Around} (r : Room k A) : A.units + 1 < cLine := by have := r.units; omega
def IsNums (H : Hp) (a : Addr) : Prop := ∃ kvs, H a = some (.dK kvs) /\ ∀ w : Str, bB kvs (.inr w) = (Tx.numO w).map V.int
theorem IsNums.mono {H H' : Hp} {a : Addr} (s : Same H H') (h : IsNums H a) : IsNums H' a := let ⟨k, e, q⟩ := h; ⟨k, s _ _ e, q⟩
theorem IsNums.get {H : Hp} {a : Addr} (h : IsNums H a) (w : Str) : DGet H a (.str w) ((Tx.numO w).map V.int) := by
 obtain ⟨kvs, e, q⟩ := h
 rw [<- q w]
 exact DGet.k (k := .inr w) e
theorem q9 {kvs : List (Key × V)} {i : Nat} (hi : i < 201) (h : ∀ w : Str, bB kvs (.inr w) = ((Tx.nums.take i).find? fun n => decide (Tx.sh n = w)).map V.int) :
  ∀ w : Str, bB (putK kvs (.inr (Tx.sh (-100 + (i : Int)))) (.int (-100 + (i : Int)))) (.inr w) = ((Tx.nums.take (i + 1)).find? fun n => decide (Tx.sh n = w)).map V.int := by
 intro w
 have hn : Tx.nums[i]? = some (-100 + (i : Int)) := by
  unfold Tx.nums
  rw [List.getElem?_map, List.getElem?_range hi]
  exact congrArg some (by show (i : Int) - 100 = _; omega)
 have hl : i < Tx.nums.length := (List.getElem?_eq_some_iff.mp hn).1
 have e : Tx.nums.take (i + 1) = Tx.nums.take i ++ [-100 + (i : Int)] := by
  rw [List.take_add_one, hn]
  first | done | rfl
 rw [tL, e, List.find?_append, h w]
 by_cases hw : w = Tx.sh (-100 + (i : Int))
 ·rw [if_pos (by rw [hw])]
  cases hf : (Tx.nums.take i).find? fun n => decide (Tx.sh n = w) with
  | none =>
   rw [List.find?_singleton, if_pos (decide_eq_true hw.symm)]
   rfl
  | some m =>
   have h0 := List.find?_some hf
   have h1 : Tx.sh m = w := of_decide_eq_true h0
   have h2 := Tx.mem_nums.mp (List.mem_of_mem_take (List.mem_of_find?_eq_some hf))
   have : m = -100 + (i : Int) := Tx.sh_inj h2.1 h2.2 (by omega) (by omega) (h1.trans hw)
   subst this
   rfl
 ·rw [if_neg (fun z => hw (Sum.inr.inj z)), List.find?_singleton, if_neg (fun z => hw (of_decide_eq_true z).symm), Option.or_none]
theorem tU : Tx.nums.length = 201 := by unfold Tx.nums; rw [List.length_map, List.length_range]
end L2
set_option Elab.async false
set_option linter.all false
set_option maxRecDepth 100000
set_option maxHeartbeats 4000000
namespace K13
open PySem L2
def top (i : Nat) : Stmt := PySem.Challenge.pw_unseen_k13_texts.main.body.getD i (.Pass ⟨0, 0, 0, 0⟩)
structure Blt (mg : Str -> Option Value) : Prop where
 LEAST_NUMBER : ∃ t, mg "LEAST_NUMBER" = some (.int (-100) t)
 MOST_CARDS : ∃ t, mg "MOST_CARDS" = some (.int (4) t)
 MOST_NUMBER : ∃ t, mg "MOST_NUMBER" = some (.int (100) t)
 all_ : mg "all" = none
 any_ : mg "any" = none
 bool_ : mg "bool" = none
 int_ : mg "int" = none
 isinstance_ : mg "isinstance" = none
 len_ : mg "len" = none
 list_ : mg "list" = none
 range_ : mg "range" = none
 str_ : mg "str" = none
 zip_ : mg "zip" = none
def qd (K : PySem.W.Frag) : Sp := fun vs H Q _ => ∃ (a : Addr) (ns : List Int) (k : Int), vs = [.ref a, .int k] /\ SqL K H a (ns.map V.int) /\ 0 <= k /\ Q (.int (ns.getD k.toNat 0)) H
def jZ : Sp := fun vs H Q _ => ∃ c k m : Int, vs = [.int c, .int k, .int m] /\ 0 < m /\ Q (.int (Fr.draw c k m)) H
def m6 : Sp := fun vs H Q _ => ∃ i : Int, vs = [.int i] /\ Q (.bl true) H
def lX : Sp := fun vs H Q _ => ∃ i : Int, vs = [.int i] /\ -100 <= i /\ i <= 100 /\ Q (.bl true) H
def qX : Sp := fun vs H Q _ => ∃ (a : Addr) (r : List Int), vs = [.ref a] /\ H a = some (.lst (r.map V.int)) /\ 1 <= r.length /\ r.length <= 4 /\ (∀ x ∈ r, -100 <= x /\ x <= 100) /\ ∀ H', Same H H' -> Q (.bl true) H'
def oK : Sp := fun vs H Q _ => ∃ (a : Addr) (T : List (List Int)) (m n : Nat), vs = [.ref a] /\ IsTab H a T /\ Good T m n /\ ∀ H', Same H H' -> Q (.bl true) H'
def oU : Sp := fun vs H Q _ => ∃ (a : Addr) (T : List (List Int)) (m n : Nat), vs = [.ref a] /\ IsTab H a T /\ Good T m n /\ ∀ H', Same H H' -> Q .non H'
def lg : Sp := fun vs H Q _ => ∃ (c : Int) (m n : Nat), vs = [.int c, .int m, .int n] /\ 1 <= m /\ m <= 4 /\ 1 <= n /\ n <= 4 /\ ∀ a T H', Same H H' -> IsTab H' a T -> Good T m n -> Q (.ref a) H'
def nJ : Sp := fun vs H Q _ => ∃ c : Int, vs = [.int c] /\ ∀ (p : Addr) (m n : Nat) H', 1 <= m -> m <= 4 -> 1 <= n -> n <= 4 -> Same H H' -> H' p = some (.tup [.int m, .int n]) -> Q (.ref p) H'
def jy (K : PySem.W.Frag) : Sp := fun vs H Q _ => ∃ (a : Addr) (ns : List Int), vs = [.ref a] /\ SqL K H a (ns.map V.int) /\ ns.length <= 63 /\ ∀ H', Q (.bl true) H'
section
variable {P : Program} {w : World} {K : PySem.W.Frag} {mg : Str -> Option Value} {base : Heap}
abbrev eU : Stmt := top 8
theorem jb : FnScope ["thing"] ["thing"] (aG eU) := ⟨rfl, rfl, rfl, by decide +kernel, rfl, by decide +kernel, by decide +kernel⟩
theorem pH (F : FunM K mg "is_whole" eU ["thing"]) (T : Blt mg) : Def P w K mg base "is_whole" ["thing"] 1 m6 := by
 have S := jb
 refine Def.of F S (fun vs H Q E h => ?_) (fun f cdv A outer s H vs Q E hr h => ?_)
 ·obtain ⟨i, rfl, _⟩ := h
  rfl
 ·obtain ⟨i, rfl, k⟩ := h
  refine ⟨_, (aB (aK (jr (aF (gb K) (by rfl) T.isinstance_ aO (aa (pv 0) (aa (cA (v := .ty "int") rfl T.int_ iw rfl) ao aj) aj) (he := aj)) (iC (rR (aF (gb K) (by rfl) T.isinstance_ aO (aa (pv 0) (aa (cA (v := .ty "bool") rfl T.bool_ pR rfl) ao aj) aj) (he := aj))))))), ?_⟩
  refine ⟨_, rfl, _, _, _, _, rfl, TyOf.int i, rfl, _, rfl, ?_⟩
  refine bx ?_
  exact ⟨_, rfl, _, _, _, _, rfl, TyOf.int i, rfl, _, rfl, k⟩
abbrev dM : Stmt := top 13
theorem iI : FnScope ["number"] ["number"] (aG dM) := ⟨rfl, rfl, rfl, by decide +kernel, rfl, by decide +kernel, by decide +kernel⟩
theorem nZ (F : FunM K mg "is_within" dM ["number"]) (T : Blt mg) : Def P w K mg base "is_within" ["number"] 1 lX := by
 have S := iI
 refine Def.of F S (fun vs H Q E h => ?_) (fun f cdv A outer s H vs Q E hr h => ?_)
 ·obtain ⟨i, rfl, _⟩ := h
  rfl
 ·obtain ⟨i, rfl, h1, h2, k⟩ := h
  refine ⟨_, (aB (aK (m_ cY cY (peI T.LEAST_NUMBER rfl) (pv 0) (peI T.MOST_NUMBER rfl)))), ?_⟩
  refine ⟨_, rfl, _, _, rfl, rfl, _, rfl, ?_⟩
  refine ifP (decide_eq_true h1) ?_
  exact ⟨_, _, rfl, rfl, pW h2 k⟩
abbrev gF : Stmt := top 14
theorem lQ : FnScope ["thing"] ["thing"] (aG gF) := ⟨rfl, rfl, rfl, by decide +kernel, rfl, by decide +kernel, by decide +kernel⟩
theorem rK (F : FunM K mg "is_row" gF ["thing"]) (T : Blt mg) (dq : Def P w K mg base "is_whole" ["thing"] 1 m6) (cW : Def P w K mg base "is_within" ["number"] 1 lX) : Def P w K mg base "is_row" ["thing"] 2 qX := by
 have S := lQ
 refine Def.of F S (fun vs H Q E h => ?_) (fun f cdv A outer s H vs Q E hr h => ?_)
 ·obtain ⟨a, r, rfl, _⟩ := h
  rfl
 ·obtain ⟨a, r, rfl, ha, h1, h4, hn, k⟩ := h
  refine ⟨_, (aA (bw (PW.pt (cQ (bC (bH (aF (gb K) (by rfl) T.isinstance_ aO (aa (pv 0) (aa (cA (v := .ty "list") rfl T.list_ eY rfl) ao aj) aj) (he := aj)))) (cI (bC (e_ cY cY az (aF (dC K) (by rfl) T.len_ bI (aa (pv 0) ao aj) (he := aj)) (peI T.MOST_CARDS rfl))))))
    (aB (aK du)) aV)
   (aB (aK (aF (ik K) (by rfl) T.all_ dU (aa (bh rfl (N' := ["number"]) (src := [none]) rfl (piL K (pv 0)) (fun _ _ _ _ _ => (aN (i := 0) (show (["number"] : List Str).Nodup from by decide +kernel) rfl (Or.inl rfl))) (fun _ _ _ _ _ => a_) (fun _ _ _ _ _ => (jr (aR dq (hr.mono (by decide)) rfl (aa (pv 0) ao aj) (he := aj)) (iC (aR cW (hr.mono (by decide)) rfl (aa (pv 0) ao aj) (he := aj)))))) ao aJ) (he := aJ))))), ?_⟩
  refine ⟨_, rfl, _, _, _, _, rfl, TyOf.lst ha, rfl, _, rfl, ?_⟩
  refine bA ?_
  refine ⟨_, rfl, a, _, rfl, .inl (SqL.of ha), _, _, rfl, rfl, _, rfl, ?_⟩
  have hl : (r.map V.int).length = r.length := List.length_map ..
  refine ifP (decide_eq_true (by rw [hl]; omega)) ?_
  refine ⟨_, _, rfl, rfl, _, rfl, ?_⟩
  refine jP (by rw [hl]; omega) ?_
  refine ⟨_, rfl, a, rfl, ⟨_, SqL.of ha⟩, aX (xs := r.map V.int) (fun _ y _ => y = .bl true) (fun _ _ _ _ _ h => h) (SqL.of ha) (by rw [hl]; exact Nat.le_of_lt (aU (by omega))) ?_ ?_⟩
  ·intro x hx H1 s1 Q' q
   obtain ⟨i, hi, rfl⟩ := List.mem_map.mp hx
   refine ⟨_, rfl, i, rfl, _, rfl, ?_⟩
   refine bx ?_
   exact ⟨_, rfl, i, rfl, (hn i hi).1, (hn i hi).2, q _ H1 (Same.refl _) rfl⟩
  ·intro ys H' s' p q hq
   have e := fU p
   subst e
   refine ⟨q, _, rfl, SqL.of au, ?_⟩
   rw [jj]
   exact k _ (s'.trans (aq hq))
abbrev eQ : Stmt := top 15
theorem jc : FnScope ["thing"] ["thing"] (aG eQ) := ⟨rfl, rfl, rfl, by decide +kernel, rfl, by decide +kernel, by decide +kernel⟩
theorem pI (F : FunM K mg "is_table" eQ ["thing"]) (T : Blt mg) (fO : Def P w K mg base "is_row" ["thing"] 2 qX) : Def P w K mg base "is_table" ["thing"] 3 oK := by
 have S := jc
 refine Def.of F S (fun vs H Q E h => ?_) (fun f cdv A outer s H vs Q E hr h => ?_)
 ·obtain ⟨a, r, m, n, rfl, _⟩ := h
  rfl
 ·obtain ⟨a, U, m, n, rfl, ⟨vs, ha, hp⟩, g, k⟩ := h
  have hl : vs.length = m := by rw [hp.length, g.rows]
  have m1 := g.m1
  have m4 := g.m4
  have n1 := g.n1
  have n4 := g.n4
  refine ⟨_, (aA (bw (PW.pt (cQ (bC (bH (aF (gb K) (by rfl) T.isinstance_ aO (aa (pv 0) (aa (cA (v := .ty "list") rfl T.list_ eY rfl) ao aj) aj) (he := aj)))) (cI (bC (e_ cY cY az (aF (dC K) (by rfl) T.len_ bI (aa (pv 0) ao aj) (he := aj)) (peI T.MOST_CARDS rfl))))))
    (aB (aK du)) aV)
   (aA (bw (bC (bH (aF (ik K) (by rfl) T.all_ dU (aa (bh rfl (N' := ["row"]) (src := [none]) rfl (piL K (pv 0)) (fun _ _ _ _ _ => (aN (i := 0) (show (["row"] : List Str).Nodup from by decide +kernel) rfl (Or.inl rfl))) (fun _ _ _ _ _ => a_) (fun _ _ _ _ _ => (aR fO (hr.mono (by decide)) rfl (aa (pv 0) ao aj) (he := aj)))) ao aJ) (he := aJ))))
    (aB (aK du)) aV)
   (aB (aK (aF (ik K) (by rfl) T.all_ dU (aa (bh rfl (N' := ["row", "thing"]) (src := [none, some 0]) rfl (piL K (pv 0)) (fun _ _ _ _ _ => (aN (i := 0) (show (["row", "thing"] : List Str).Nodup from by decide +kernel) rfl (Or.inl rfl))) (fun _ _ _ _ _ => a_) (fun _ _ _ _ _ => (eZ fW (aF (dC K) (by rfl) T.len_ bI (aa (pv 0) ao aj) (he := aj)) (aF (dC K) (by rfl) T.len_ bI (aa (bR (ixL K) (pv 1) az (fun _ _ => rfl)) ao aY) (he := aY)) (aZ _)))) ao aJ) (he := aJ)))))), ?_⟩
  refine ⟨_, rfl, _, _, _, _, rfl, TyOf.lst ha, rfl, _, rfl, ?_⟩
  refine bA ?_
  refine ⟨_, rfl, a, _, rfl, .inl (SqL.of ha), _, _, rfl, rfl, _, rfl, ?_⟩
  refine ifP (decide_eq_true (by rw [hl]; omega)) ?_
  refine ⟨_, _, rfl, rfl, _, rfl, ?_⟩
  refine jP (by rw [hl]; omega) ?_
  refine ⟨_, rfl, a, rfl, ⟨_, SqL.of ha⟩, aX (xs := vs) (fun _ y _ => y = .bl true) (fun _ _ _ _ _ h => h) (SqL.of ha) (by rw [hl]; exact Nat.le_of_lt (aU (by omega))) ?_ ?_⟩
  ·intro x hx H1 s1 Q' q
   obtain ⟨r, hr', b, rfl, hb⟩ := hp.mem2 hx
   exact ⟨_, rfl, b, r, rfl, s1 _ _ hb, by rw [g.cols r hr']; exact n1, by rw [g.cols r hr']; exact n4, g.num r hr', fun H2 s2 => q _ H2 s2 rfl⟩
  ·intro ys H' s' p q hq
   have e := fU p
   subst e
   refine ⟨q, _, rfl, SqL.of au, ?_⟩
   rw [jj]
   refine ⟨_, rfl, ?_⟩
   refine bA ?_
   have s2 := s'.trans (aq (o := .lst ((List.replicate vs.length true).map V.bl)) hq)
   have ha2 := s2 _ _ ha
   refine ⟨_, rfl, a, rfl, ⟨_, SqL.of ha2⟩, aX (xs := vs) (fun _ y _ => y = .bl true) (fun _ _ _ _ _ h => h) (SqL.of ha2) (by rw [hl]; exact Nat.le_of_lt (aU (by omega))) ?_ ?_⟩
   ·intro x hx H1 s1 Q' q'
    obtain ⟨r, hr', b, rfl, hb⟩ := hp.mem2 hx
    have h0 : 0 < vs.length := by omega
    obtain ⟨r0, er0, b0, eb0, hb0⟩ := hp.get2 (List.getElem?_eq_getElem h0)
    have s3 := s2.trans s1
    refine ⟨_, rfl, b, _, rfl, .inl (SqL.of (s3 _ _ hb)), _, rfl, a, vs, 0, _, rfl, rfl, SqL.of (s3 _ _ ha), cG h0, b0, _, (by rw [eb0]), .inl (SqL.of (s3 _ _ hb0)), rfl, ?_⟩
    refine q' _ H1 (Same.refl _) (congrArg V.bl (decide_eq_true ?_))
    rw [List.length_map, List.length_map, g.cols r hr', g.cols r0 (List.mem_of_getElem? er0)]
   ·intro ys H3 s3 p q2 hq2
    have e := fU p
    subst e
    refine ⟨q2, _, rfl, SqL.of au, ?_⟩
    rw [jj]
    exact k _ ((s2.trans s3).trans (aq hq2))
abbrev d_ : Stmt := top 16
theorem kZ : FnScope ["thing"] ["thing"] (aG d_) := ⟨rfl, rfl, rfl, by decide +kernel, rfl, by decide +kernel, by decide +kernel⟩
theorem j8 (F : FunM K mg "check_table" d_ ["thing"]) (T : Blt mg) (gP : Def P w K mg base "is_table" ["thing"] 3 oK) : Def P w K mg base "check_table" ["thing"] 4 oU := by
 have S := kZ
 refine Def.of F S (fun vs H Q E h => ?_) (fun f cdv A outer s H vs Q E hr h => ?_)
 ·obtain ⟨a, r, m, n, rfl, _⟩ := h
  rfl
 ·obtain ⟨a, U, m, n, rfl, hU, g, k⟩ := h
  refine ⟨_, (aB (bw (bC (bH (aR gP (hr.mono (by decide)) rfl (aa (pv 0) ao aj) (he := aj))))
    (aB tu) aV)), ?_⟩
  refine ⟨_, rfl, a, U, m, n, rfl, hU, g, fun H' s' => ⟨_, rfl, ?_⟩⟩
  refine bA ?_
  exact k H' s'
abbrev dF : Stmt := top 24
theorem jL : FnScope ["_law_script", "_law_k"] ["_law_script", "_law_k"] (aG dF) := ⟨rfl, rfl, rfl, by decide +kernel, rfl, by decide +kernel, by decide +kernel⟩
theorem jx (F : FunM K mg "_law_cell_at" dF ["_law_script", "_law_k"]) (T : Blt mg) : Def P w K mg base "_law_cell_at" ["_law_script", "_law_k"] 1 (qd K) := by
 have S := jL
 refine Def.of F S (fun vs H Q E h => ?_) (fun f cdv A outer s H vs Q E hr h => ?_)
 ·obtain ⟨a, ns, k, rfl, _⟩ := h
  rfl
 ·obtain ⟨a, ns, k, rfl, hS, hk, q⟩ := h
  refine ⟨_, (aA (bw (bc qw (pv 1) (aF (dC K) (by rfl) T.len_ bI (aa (pv 0) ao aj) (he := aj)) (aZ _))
    (aB (aK (bR (ixL K) (pv 0) (pv 1) (fun _ _ => rfl)))) aV)
   (aB (aK az))), ?_⟩
  refine ⟨_, rfl, _, rfl, _, _, rfl, .inl hS, _, _, rfl, rfl, _, rfl, ?_⟩
  refine qG (fun hlt => ?_) (fun hge => ?_)
  ·have hlt' : k < (ns.length : Int) := by simpa using hlt
   have hn : k.toNat < ns.length := by omega
   have e : ns.getD k.toNat 0 = ns[k.toNat] := by simp [List.getD_eq_getElem?_getD, hn]
   refine ⟨_, rfl, _, rfl, _, _, _, _, rfl, rfl, hS, ?_, q⟩
   unfold atI ixN
   rw [if_pos hk, if_pos (by simpa using hlt')]
   simp [hn, List.getD_eq_getElem?_getD]
  ·have hge' : ¬ k < (ns.length : Int) := by simpa using hge
   have e : ns.getD k.toNat 0 = 0 := by
    rw [List.getD_eq_getElem?_getD, List.getElem?_eq_none (by omega)]
    rfl
   rw [e] at q
   exact q
abbrev f9 : Stmt := top 25
theorem oX : FnScope ["_law_cell", "_law_k", "_law_many", "_law_mixed"] ["_law_cell", "_law_k", "_law_many"] (aG f9) := ⟨rfl, rfl, rfl, by decide +kernel, rfl, by decide +kernel, by decide +kernel⟩
theorem nY (F : FunM K mg "_law_draw" f9 ["_law_cell", "_law_k", "_law_many"]) (T : Blt mg) : Def P w K mg base "_law_draw" ["_law_cell", "_law_k", "_law_many"] 1 jZ := by
 have S := oX
 refine Def.of F S (fun vs H Q E h => ?_) (fun f cdv A outer s H vs Q E hr h => ?_)
 ·obtain ⟨c, k, m, rfl, _⟩ := h
  rfl
 ·obtain ⟨c, k, m, rfl, hm, q⟩ := h
  refine ⟨_, (aA (bf (i := 3) S.nd rfl (Or.inl rfl) (aM dD (aM cH (aM cH (aM fJ (aM dD (pv 0) az) az) (aM fJ (pv 1) az)) az) az))
   (aB (aK (aM dD (aM dD (aM jW (aM fJ (pv 3) (pv 3)) az) az) (pv 2))))), ?_⟩
  refine ⟨_, rfl, _, _, rfl, rfl, (by show (0 : Int) < 1000000007; decide), _, _, rfl, rfl, .inr ⟨by decide, by decide⟩, _, rfl, _, _, rfl, rfl, .inr ⟨by decide, by decide⟩, _, _, rfl, rfl, _, _, rfl, rfl, _, _, rfl, rfl, (by show (0 : Int) < 1000000007; decide), ?_⟩
  have h1 := Int.emod_nonneg (c % 1000000007 * 48271 + k * 69621 + 7) (show (1000000007 : Int) ≠ 0 by decide)
  have h2 := Int.emod_lt_of_pos (c % 1000000007 * 48271 + k * 69621 + 7) (show (0 : Int) < 1000000007 by decide)
  exact ⟨_, rfl, _, rfl, _, _, rfl, rfl, .inl ⟨by omega, by omega⟩, _, _, rfl, rfl, ⟨by decide, by decide⟩, _, _, rfl, rfl, (by show (0 : Int) < 1000003; decide), _, rfl, _, _, rfl, rfl, hm, q⟩
abbrev dB : Stmt := top 27
theorem l_ : FnScope ["_law_cell"] ["_law_cell"] (aG dB) := ⟨rfl, rfl, rfl, by decide +kernel, rfl, by decide +kernel, by decide +kernel⟩
theorem ql : ∃ es1 es2 k1 k2 k3 p1 p2 p3 p4 p5 p6 p7 p8 p9 p10 p11 p12 p13 p14, bJ dB = [.Return (some (.Tuple [.Subscript (.Tuple es1 k1 p1) (.BinOp (.Name "_law_cell" p2) .Mod (.Constant (.int 8) 0 p3) p4) p5,
      .Subscript (.Tuple es2 k2 p6) (.BinOp (.BinOp (.Name "_law_cell" p7) .FloorDiv (.Constant (.int 8) 0 p8) p9) .Mod (.Constant (.int 8) 0 p10) p11) p12] k3 p13)) p14] /\ AllInts es1 [2, 3, 1, 3, 2, 4, 3, 2] /\ AllInts es2 [3, 2, 3, 1, 2, 4, 2, 3] :=
  ⟨_, _, _, _, _, _, _, _, _, _, _, _, _, _, _, _, _, _, _, rfl, .cons (.cons (.cons (.cons (.cons (.cons (.cons (.cons .nil))))))), .cons (.cons (.cons (.cons (.cons (.cons (.cons (.cons .nil)))))))⟩
theorem mq (F : FunM K mg "_law_shape" dB ["_law_cell"]) (T : Blt mg) : Def P w K mg base "_law_shape" ["_law_cell"] 1 nJ := by
 have S := l_
 refine Def.of F S (fun vs H Q E h => ?_) (fun f cdv A outer s H vs Q E hr h => ?_)
 ·obtain ⟨c, rfl, _⟩ := h
  rfl
 ·obtain ⟨c, rfl, k⟩ := h
  have a1 := Int.emod_nonneg c (show (8 : Int) ≠ 0 by decide)
  have a2 := Int.emod_lt_of_pos c (show (0 : Int) < 8 by decide)
  have b1 := Int.emod_nonneg (c / 8) (show (8 : Int) ≠ 0 by decide)
  have b2 := Int.emod_lt_of_pos (c / 8) (show (0 : Int) < 8 by decide)
  obtain ⟨m, hm, m1, m4⟩ := Tb.pickm a1 a2
  obtain ⟨n, hn, n1, n4⟩ := Tb.pickn b1 b2
  obtain ⟨es1, es2, k1, k2, k3, p1, p2, p3, p4, p5, p6, p7, p8, p9, p10, p11, p12, p13, p14, hb, i1, i2⟩ := ql
  rw [hb]
  refine ⟨_, (aB (aK (fH (aa (bR (ixT K) (fH (jV i1)) (aM dD (pv 0) az) (fun _ _ => rfl)) (aa (bR (ixT K) (fH (jV i2)) (aM dD (aM jW (pv 0) az) az) (fun _ _ => rfl)) ao aY) aY)))), ?_⟩
  refine ⟨(by show 8 <= sizeLine; decide), fun p hp => ?_⟩
  refine ⟨_, rfl, _, _, rfl, rfl, (by show (0 : Int) < 8; decide), p, _, _, _, rfl, rfl, SqT.of au, hm, ?_⟩
  refine ⟨(by show 8 <= sizeLine; decide), fun q hq => ?_⟩
  refine ⟨_, rfl, _, _, rfl, rfl, ⟨by decide, by decide⟩, _, _, rfl, rfl, (by show (0 : Int) < 8; decide), q, _, _, _, rfl, rfl, SqT.of au, hn, ?_⟩
  exact ⟨(by show 2 <= sizeLine; decide), fun r hr' => k r m n _ m1 m4 n1 n4 (((aq hp).trans (aq hq)).trans (aq hr')) au⟩
abbrev fc : Stmt := top 26
theorem mD : FnScope ["_law_cell", "_law_rows", "_law_columns", "_law_most", "_law_found", "_law_row", "_law_kind", "_law_less"] ["_law_cell", "_law_rows", "_law_columns"] (aG fc) := ⟨rfl, rfl, rfl, by decide +kernel, rfl, by decide +kernel, by decide +kernel⟩
theorem mG (F : FunM K mg "_law_table" fc ["_law_cell", "_law_rows", "_law_columns"]) (T : Blt mg) (bu : Def P w K mg base "_law_draw" ["_law_cell", "_law_k", "_law_many"] 1 jZ) : Def P w K mg base "_law_table" ["_law_cell", "_law_rows", "_law_columns"] 2 lg := by
 have S := mD
 refine Def.of F S (fun vs H Q E h => ?_) (fun f cdv A outer s H vs Q E hr h => ?_)
 ·obtain ⟨c, m, n, rfl, _⟩ := h
  rfl
 ·obtain ⟨c, m, n, rfl, m1, m4, n1, n4, k⟩ := h
  refine ⟨_, (aA (bf (i := 3) S.nd rfl (Or.inr rfl) (bR (ixT K) (fH (jV (.cons (.cons (.cons (.cons .nil)))))) (aR bu (hr.mono (by decide)) rfl (aa (pv 0) (aa az (aa az ao ak) ak) aj) (he := aj)) (fun _ _ => rfl)))
   (aA (bf (i := 4) S.nd rfl (Or.inr rfl) (cM ao))
   (aA (iH PassesOwn.never rfl (fV rfl T.range_ (aa (pv 1) ao aj)) (aN (i := 5) S.nd rfl (Or.inr rfl))
    (aB (iU (mJ PySem.F.plainAttrs_list PySem.F.slot_list_append PySem.F.type_list_append iu (pv 4) (aa (bh rfl (N' := ["_law_k", "_law_cell", "_law_row", "_law_most"]) (src := [none, some 0, some 5, some 3]) rfl (fV rfl T.range_ (aa (pv 2) ao aj)) (fun _ _ _ _ _ => (aN (i := 0) (show (["_law_k", "_law_cell", "_law_row", "_law_most"] : List Str).Nodup from by decide +kernel) rfl (Or.inl rfl))) (fun _ _ _ _ _ => a_) (fun _ _ _ _ _ => (aM jF (aR bu (hr.mono (by decide)) rfl (aa (aM cH (aM cH (pv 1) (aM fJ az (pv 2))) (aM fJ az (pv 0))) (aa az (aa (aM cH (aM fJ az (pv 3)) az) ao bV) ak) bV) (he := bV)) (pv 3)))) ao aJ)))))
   (aA (bf (i := 6) S.nd rfl (Or.inl rfl) (aR bu (hr.mono (by decide)) rfl (aa (pv 0) (aa az (aa az ao ak) ak) aj) (he := aj)))
   (aA (bw (bc fW (pv 6) az (aZ _))
    (aB (bf (i := 4) S.nd rfl (Or.inr rfl) (bh rfl (N' := ["_law_row", "_law_found", "_law_columns"]) (src := [none, some 4, some 2]) rfl (fV rfl T.range_ (aa (pv 1) ao aj)) (fun _ _ _ _ _ => (aN (i := 0) (show (["_law_row", "_law_found", "_law_columns"] : List Str).Nodup from by decide +kernel) rfl (Or.inl rfl))) (fun _ _ _ _ _ => a_) (fun _ _ _ _ _ => (aM mU (cF (slL K) (bR (ixL K) (pv 1) az (fun _ _ => rfl)) (di (aM dD (pv 0) (pv 2))) dm) (cF (slL K) (bR (ixL K) (pv 1) az (fun _ _ => rfl)) dm (di (aM dD (pv 0) (pv 2))))))))) aV)
   (aA (bw (PW.pt (oM (bc fW (pv 6) az (aZ _)) (kO (bc mQ (pv 1) az (aZ _)))))
    (aA (bf (i := 7) S.nd rfl (Or.inr rfl) (aM jF (aR bu (hr.mono (by decide)) rfl (aa (pv 0) (aa az (aa az ao ak) ak) aj) (he := aj)) az))
   (aB (nA (bh rfl (N' := ["_law_one", "_law_two", "_law_less"]) (src := [none, none, some 7]) rfl (wZ K rfl T.zip_ (aa (bR (ixL K) (pv 4) az (fun _ _ => rfl)) (aa (bR (ixL K) (pv 4) az (fun _ _ => rfl)) ao aY) aY)) (fun _ _ _ _ _ => (pgT K (n := 2) (dG (aN (i := 0) (show (["_law_one", "_law_two", "_law_less"] : List Str).Nodup from by decide +kernel) rfl (Or.inl rfl)) (dG (aN (i := 1) (show (["_law_one", "_law_two", "_law_less"] : List Str).Nodup from by decide +kernel) rfl (Or.inl rfl)) kh)))) (fun _ _ _ _ _ => a_) (fun _ _ _ _ _ => (aM jF (aM jW (aM cH (pv 0) (pv 1)) az) (pv 2)))) (v9 (pv 4) az set_list)))) aV)
   (aB (aK (pv 4))))))))), ?_⟩
  have a1 := Fr.draw_nn c 1 (show (0 : Int) < 4 by decide)
  have a2 := Fr.draw_lt c 1 (show (0 : Int) < 4 by decide)
  obtain ⟨v, hv, v1, v2⟩ := Tb.pick4 a1 a2
  refine ⟨(by show 4 <= sizeLine; decide), fun p hp => ⟨_, rfl, _, _, _, rfl, (by decide), p, _, _, _, rfl, rfl, SqT.of au, hv, ?_⟩⟩
  refine ⟨Nat.zero_le _, fun l hl => ?_⟩
  have hl0 : H l = none := (aq hp).free hl
  have s0 : Same H (upd (upd H p (.tup (([2, 5, 9, 98] : List Int).map V.int))) l (.lst [])) := (aq hp).trans (aq hl)
  refine ⟨_, rfl, _, rfl, by omega, by omega, iG (n := m) (fun i σ H1 => ∃ o5 vs U, σ = [some (.int c), some (.int m), some (.int n), some (.int v), some (.ref l), o5, none, none] /\ Same H H1 /\ H1 l = some (.lst vs) /\ Paired (RowNe l H1) vs U /\ U.length = i /\
    (∀ r ∈ U, r.length = n) /\ ∀ r ∈ U, ∀ x ∈ r, -98 <= x /\ x <= 98)
   ⟨_, [], [], rfl, s0, au, .nil, rfl, (fun _ h => nomatch h), fun _ h => nomatch h⟩ ?_ ?_⟩
  ·rintro i σ H1 hi ⟨o5, vs, U, rfl, s1, hL, hP, hU, hc, hb⟩
   refine ⟨_, rfl, .inl ⟨rfl, _, SqL.of hL⟩, _, rfl, _, rfl, by omega, by omega, iY (n := n) (fun _ y _ => ∃ x, y = .int x /\ -98 <= x /\ x <= 98) (fun _ _ _ _ _ h => h) (Nat.le_of_lt (aU (by omega))) ?_ ?_⟩
   ·intro j hj H2 s2 Q' q
    refine ⟨_, rfl, _, rfl, _, _, rfl, rfl, .inl ⟨by decide, by decide⟩, _, _, rfl, rfl, _, rfl, _, _, rfl, rfl, .inl ⟨by decide, by decide⟩, _, _, rfl, rfl, _, rfl, _, _, rfl, rfl, .inl ⟨by decide, by decide⟩, _, _, rfl, rfl, _, _, _, rfl, ?_, _, rfl, _, _, rfl, rfl, q _ H2 (Same.refl _) ⟨_, rfl, ?_⟩⟩
    ·omega
    ·have d1 := Fr.draw_nn (c + 31 * (0 + (i : Int)) + 7 * (j : Int)) 2 (show (0 : Int) < 2 * v + 1 by omega)
     have d2 := Fr.draw_lt (c + 31 * (0 + (i : Int)) + 7 * (j : Int)) 2 (show (0 : Int) < 2 * v + 1 by omega)
     exact ⟨by omega, by omega⟩
   ·intro ys H2 s2 pr q hq
    obtain ⟨r, rfl, rl, rb⟩ := ints_of (fun x => -98 <= x /\ x <= 98) pr
    rw [List.length_range] at rl
    have nql : q ≠ l := fun e => by rw [e, s2 _ _ hL] at hq; cases hq
    have hL2 : upd H2 q (.lst (r.map V.int)) l = some (.lst vs) := by rw [aH (Ne.symm nql)]; exact s2 _ _ hL
    have vl : vs.length = i := by rw [hP.length, hU]
    refine ⟨l, vs, .ref q, rfl, rfl, hL2, aU (by omega), ?_⟩
    refine ⟨_, vs ++ [.ref q], U ++ [r], rfl, ?_, au, ?_, ?_, ?_, ?_⟩
    ·exact gC ((s1.trans s2).trans (aq hq)) hl0
    ·refine (hP.imp2 fun _ _ z => ?_).app2 (.cons ⟨q, rfl, nql, ?_⟩ .nil)
     ·exact ((z.mono s2).mono (aq hq)).at
     ·rw [aH nql, au]
    ·rw [List.length_append, hU]; rfl
    ·intro r' hr'
     rcases List.mem_append.mp hr' with z | z
     ·exact hc r' z
     ·rw [List.mem_singleton.mp z]; exact rl
    ·intro r' hr'
     rcases List.mem_append.mp hr' with z | z
     ·exact hb r' z
     ·rw [List.mem_singleton.mp z]; exact rb
  ·rintro σ H1 ⟨o5, vs, U, rfl, s1, hL, hP, hU, hc, hb⟩
   refine ⟨_, rfl, _, _, _, rfl, (by decide), ?_⟩
   refine bZ ?_
   refine oG (fun σ' H' => ∃ (l' : Addr) (o5' : Option V) (vs' : List V) (U' : List (List Int)), σ' = [some (.int c), some (.int m), some (.int n), some (.int v), some (.ref l'), o5', some (.int (Fr.draw c 3 5)), none] /\ Same H H' /\ H l' = none /\ H' l' = some (.lst vs') /\ Paired (RowNe l' H') vs' U' /\ U'.length = m /\
    (∀ r ∈ U', r.length = n) /\ ∀ r ∈ U', ∀ x ∈ r, -98 <= x /\ x <= 98) (fun R hR => ?_) ?_
   ·refine ⟨_, rfl, rfl, _, rfl, ?_⟩
    refine qG (fun _ => ?_) (fun _ => hR _ _ ⟨l, o5, vs, U, rfl, s1, hl0, hL, hP, hU, hc, hb⟩)
    have vl : vs.length = m := by rw [hP.length, hU]
    have h0 : 0 < vs.length := by omega
    obtain ⟨r0, er0, b0, eb0, nb0, hb0⟩ := hP.get2 (List.getElem?_eq_getElem h0)
    have r0l := hc r0 (List.mem_of_getElem? er0)
    have r0b := hb r0 (List.mem_of_getElem? er0)
    refine ⟨_, rfl, _, rfl, by omega, by omega, iY (n := m) (fun _ y H' => ∃ r : List Int, OwnRow H1 H' y r /\ r.length = n /\ ∀ x ∈ r, -98 <= x /\ x <= 98) (fun _ _ _ _ z h => let ⟨r, h1, h2⟩ := h; ⟨r, h1.mono z, h2⟩) (Nat.le_of_lt (aU (by omega))) ?_ ?_⟩
    ·intro j hj H2 s2 Q' q
     have e1 := Int.emod_nonneg (j : Int) (show (n : Int) ≠ 0 by omega)
     have e2 := Int.emod_lt_of_pos (j : Int) (show (0 : Int) < (n : Int) by omega)
     have hlen : (r0.map V.int).length = n := by rw [List.length_map, r0l]
     refine ⟨_, rfl, l, vs, 0, _, rfl, rfl, SqL.of (s2 _ _ hL), cG h0, _, rfl, _, rfl, _, _, rfl, rfl, (by show (0 : Int) < (n : Int); omega), _, rfl, b0, _, (by rw [eb0]), SqL.of (s2 _ _ hb0), fun q1 hq1 => ?_⟩
     have s3 := s2.trans (aq (o := .lst (cJ (r0.map V.int) (some ((j : Int) % (n : Int))) none)) hq1)
     refine ⟨_, rfl, l, vs, 0, _, rfl, rfl, SqL.of (s3 _ _ hL), cG h0, _, rfl, _, rfl, _, _, rfl, rfl, (by show (0 : Int) < (n : Int); omega), _, rfl, b0, _, (by rw [eb0]), SqL.of (s3 _ _ hb0), fun q2 hq2 => ?_⟩
     have g1 : upd (upd H2 q1 (.lst (cJ (r0.map V.int) (some ((j : Int) % (n : Int))) none))) q2 (.lst (cJ (r0.map V.int) none (some ((j : Int) % (n : Int))))) q1 = some (.lst (cJ (r0.map V.int) (some ((j : Int) % (n : Int))) none)) := aq hq2 _ _ au
     have c1 := tW (xs := r0.map V.int) (k := (j : Int) % (n : Int)) e1 (by rw [hlen]; omega)
     have c2 := tE (xs := r0.map V.int) (k := (j : Int) % (n : Int)) e1 (by rw [hlen]; omega)
     have ln : (cJ (r0.map V.int) (some ((j : Int) % (n : Int))) none).length + (cJ (r0.map V.int) none (some ((j : Int) % (n : Int)))).length = n := by
      rw [c1, c2, List.length_drop, List.length_take, hlen]; omega
     refine ⟨q1, q2, _, _, rfl, rfl, g1, au, (by rw [ln]; exact Nat.le_of_lt (aU (by omega))), fun q3 hq3 => ?_⟩
     have s5 : Same H2 _ := (aq hq1).trans ((aq hq2).trans (aq (o := .lst (cJ (r0.map V.int) (some ((j : Int) % (n : Int))) none ++ cJ (r0.map V.int) none (some ((j : Int) % (n : Int))))) hq3))
     refine q _ _ s5 ⟨r0.drop ((j : Int) % (n : Int)).toNat ++ r0.take ((j : Int) % (n : Int)).toNat, ⟨q3, rfl, ?_, ?_⟩, ?_, ?_⟩
     ·exact (s2.trans ((aq hq1).trans (aq hq2))).free hq3
     ·rw [au, c1, c2, List.map_append, List.map_drop, List.map_take]
     ·rw [List.length_append, List.length_drop, List.length_take, r0l]; omega
     ·intro x hx
      rcases List.mem_append.mp hx with z | z
      ·exact r0b x (List.mem_of_mem_drop z)
      ·exact r0b x (List.mem_of_mem_take z)
    ·intro ys H2 s2 pr q hq
     obtain ⟨U', hp', hl', hx'⟩ := p_ (fun r => r.length = n /\ ∀ x ∈ r, -98 <= x /\ x <= 98) pr
     rw [List.length_range] at hl'
     refine hR _ _ ⟨q, o5, ys, U', rfl, (s1.trans s2).trans (aq hq), (s1.trans s2).free hq, au, ?_, hl', fun r hr' => (hx' r hr').1, fun r hr' => (hx' r hr').2⟩
     refine hp'.imp2 fun y r z => ?_
     obtain ⟨b, e, nb, hb'⟩ := z
     exact ⟨b, e, aQ hb' hq, aq hq _ _ hb'⟩
   ·rintro σ' H2 ⟨l', o5', vs', U', rfl, s2, hl', hL', hP', hU', hc', hb'⟩
    refine oG (fun σ' H' => ∃ (o7 : Option V) (vs' : List V) (U' : List (List Int)), σ' = [some (.int c), some (.int m), some (.int n), some (.int v), some (.ref l'), o5', some (.int (Fr.draw c 3 5)), o7] /\ Same H H' /\ H' l' = some (.lst vs') /\ Paired (RowNe l' H') vs' U' /\ U'.length = m /\
     (∀ r ∈ U', r.length = n) /\ ∀ r ∈ U', ∀ x ∈ r, -100 <= x /\ x <= 100) (fun R hR => ?_) ?_
    ·have no : R [some (.int c), some (.int m), some (.int n), some (.int v), some (.ref l'), o5', some (.int (Fr.draw c 3 5)), none] H2 :=
      hR _ _ ⟨none, vs', U', rfl, s2, hL', hP', hU', hc', fun r hr' x hx => by have := hb' r hr' x hx; omega⟩
     refine ⟨_, rfl, rfl, _, rfl, ?_⟩
     refine qG (fun _ => ?_) (fun _ => no)
     refine ⟨_, rfl, _, _, rfl, rfl, _, rfl, ?_⟩
     refine qG (fun h2 => ?_) (fun _ => no)
     have m3 : 2 < m := by
      have : (2 : Int) < (m : Int) := by simpa using h2
      omega
     have vl : vs'.length = m := by rw [hP'.length, hU']
     have h0 : 0 < vs'.length := by omega
     have h1 : 1 < vs'.length := by omega
     obtain ⟨r0, er0, b0, eb0, nb0, hb0⟩ := hP'.get2 (List.getElem?_eq_getElem h0)
     obtain ⟨r1, er1, b1, eb1, nb1, hb1⟩ := hP'.get2 (List.getElem?_eq_getElem h1)
     have l0 := hc' r0 (List.mem_of_getElem? er0)
     have l1 := hc' r1 (List.mem_of_getElem? er1)
     have x0 := hb' r0 (List.mem_of_getElem? er0)
     have x1 := hb' r1 (List.mem_of_getElem? er1)
     have d1 := Fr.draw_nn c 4 (show (0 : Int) < 3 by decide)
     have d2 := Fr.draw_lt c 4 (show (0 : Int) < 3 by decide)
     refine ⟨_, rfl, _, _, _, rfl, (by decide), _, _, rfl, rfl, ?_⟩
     refine ⟨_, rfl, l', vs', 0, _, rfl, rfl, SqL.of hL', cG h0, _, rfl, l', vs', 1, _, rfl, rfl, SqL.of hL', cG h1, b0, b1, (by rw [eb0, eb1]), ⟨_, SqL.of hb0⟩, ⟨_, SqL.of hb1⟩,
      sW (xs := r0.map V.int) (ys := r1.map V.int) (fun i zs H' => Same H2 H' /\ ∃ r : List Int, zs = r.map V.int /\ r.length = i /\ ∀ x ∈ r, -100 <= x /\ x <= 100) ⟨Same.refl _, [], rfl, rfl, fun _ h => nomatch h⟩ ?_ (by rw [List.length_map]; exact Nat.le_of_lt (aU (by omega))) ?_ ?_⟩
     ·rintro i zs H3 ⟨s3, r, rfl, rl, _⟩
      exact ⟨SqL.of (s3 _ _ hb0), SqL.of (s3 _ _ hb1), by rw [List.length_map, rl]; exact Nat.le_refl _⟩
     ·rintro i x y p' zs H3 hx hy hp' ⟨s3, r, rfl, rl, rb⟩
      obtain ⟨x', ex, rfl⟩ := List.mem_map.mp (List.mem_of_getElem? hx)
      obtain ⟨y', ey, rfl⟩ := List.mem_map.mp (List.mem_of_getElem? hy)
      have b1 := x0 x' ex
      have b2 := x1 y' ey
      refine ⟨p', _, rfl, SqT.of au, rfl, _, _, rfl, _, _, rfl, rfl, ?_⟩
      refine vB ?_
      refine ⟨_, rfl, _, rfl, _, _, rfl, rfl, _, _, rfl, rfl, ⟨by decide, by decide⟩, _, rfl, _, _, rfl, rfl, ?_⟩
      refine ⟨s3.trans (aq hp'), r ++ [(x' + y') / 2 - (Fr.draw c 4 3 - 1)], by rw [List.map_append]; rfl, by rw [List.length_append, rl]; rfl, fun z hz => ?_⟩
      rcases List.mem_append.mp hz with q | q
      ·exact rb z q
      ·rw [List.mem_singleton.mp q]
       omega
     ·rintro zs H3 ⟨s3, r, rfl, rl, rb⟩ q hq
      rw [List.length_map, List.length_map, l0, l1, Nat.min_self] at rl
      have nql : q ≠ l' := fun e => by rw [e, s3 _ _ hL'] at hq; cases hq
      have hL3 : upd H3 q (.lst (r.map V.int)) l' = some (.lst vs') := by rw [aH (Ne.symm nql)]; exact s3 _ _ hL'
      refine ⟨_, rfl, l', vs', 2, 2, rfl, rfl, hL3, ?_, ?_⟩
      ·unfold ixN
       rw [if_pos (by decide), if_pos (by omega)]
       rfl
      ·refine hR _ _ ⟨_, vs'.set 2 (.ref q), U'.set 2 r, rfl, ?_, au, ?_, ?_, ?_, ?_⟩
       ·exact gC ((s2.trans s3).trans (aq hq)) hl'
       ·refine Paired.set2 ⟨q, rfl, nql, by rw [aH nql, au]⟩ 2 (hP'.imp2 fun _ _ z => ((z.mono s3).mono (aq hq)).at)
       ·rw [List.length_set, hU']
       ·intro r' hr'
        rcases List.mem_or_eq_of_mem_set hr' with z | z
        ·exact hc' r' z
        ·rw [z]; exact rl
       ·intro r' hr' x hx
        rcases List.mem_or_eq_of_mem_set hr' with z | z
        ·have := hb' r' z x hx
         omega
        ·rw [z] at hx; exact rb x hx
    ·rintro σ' H3 ⟨o7, vs3, U3, rfl, s3, hL3, hP3, hU3, hc3, hb3⟩
     exact ⟨_, rfl, k l' U3 H3 s3 ⟨vs3, hL3, hP3.imp2 fun _ _ z => z.row⟩ ⟨m1, m4, n1, n4, hU3, hc3, hb3⟩⟩
def vC : D -> Bool
 | .int _ => true
 | _ => false
def gK : D -> Bool
 | .int i => decide (-100 <= i) && decide (i <= 100)
 | _ => false
def dJ : D -> Nat
 | .lst ds => ds.length
 | .tup ds => ds.length
 | _ => 0
def b8 : D -> Bool
 | .lst ds => decide (1 <= ds.length) && decide (ds.length <= 4) && ds.all gK
 | _ => false
def gY : D -> Bool
 | .lst ds => decide (1 <= ds.length) && decide (ds.length <= 4) && ds.all b8 && ds.all (fun d => decide (dJ d = dJ (ds.headD .non)))
 | _ => false
theorem gQ {H : Hp} (p : D -> Bool) : ∀ {ds : List D} {xs ys : List V}, Lays H ds xs -> Paired (fun x y => ∀ d, Lay H d x -> y = .bl (p d)) xs ys -> ys = (ds.map p).map V.bl
 | [], _, _, h, q => by unfold Lays at h; subst h; cases q; rfl
 | d :: ds, _, _, h, q => by
  unfold Lays at h
  obtain ⟨v, r, rfl, h2, h3⟩ := h
  cases q with
  | cons q1 q2 =>
   rw [gQ p h3 q2, q1 d h2]
   rfl
theorem all_map (p : D -> Bool) (ds : List D) : (ds.map p).all id = ds.all p := by
 rw [List.all_map]
 rfl
def lO : Sp := fun vs H Q _ => ∃ (d : D) (v : V), vs = [v] /\ Lay H d v /\ Q (.bl (vC d)) H
def jJ : Sp := fun vs H Q _ => ∃ i : Int, vs = [.int i] /\ Q (.bl (gK (.int i))) H
def pP : Sp := fun vs H Q _ => ∃ (d : D) (v : V), vs = [v] /\ Lay H d v /\ ∀ H', Same H H' -> Q (.bl (b8 d)) H'
def lR : Sp := fun vs H Q _ => ∃ (d : D) (v : V), vs = [v] /\ Lay H d v /\ ∀ H', Same H H' -> Q (.bl (gY d)) H'
theorem kW (F : FunM K mg "is_whole" eU ["thing"]) (T : Blt mg) : Def P w K mg base "is_whole" ["thing"] 1 lO := by
 have S := jb
 refine Def.of F S (fun vs H Q E h => ?_) (fun f cdv A outer s H vs Q E hr h => ?_)
 ·obtain ⟨d, v, rfl, _⟩ := h
  rfl
 ·obtain ⟨d, v, rfl, l, k⟩ := h
  have ty := l.ty (K := K)
  refine ⟨_, (aB (aK (jr (aF (gb K) (by rfl) T.isinstance_ aO (aa (pv 0) (aa (cA (v := .ty "int") rfl T.int_ iw rfl) ao aj) aj) (he := aj)) (iC (rR (aF (gb K) (by rfl) T.isinstance_ aO (aa (pv 0) (aa (cA (v := .ty "bool") rfl T.bool_ pR rfl) ao aj) aj) (he := aj))))))), ?_⟩
  cases d with
  | int i =>
   refine ⟨_, rfl, _, _, _, _, rfl, ty, rfl, _, rfl, ?_⟩
   refine bx ?_
   exact ⟨_, rfl, _, _, _, _, rfl, ty, rfl, _, rfl, k⟩
  | bl i =>
   refine ⟨_, rfl, _, _, _, _, rfl, ty, rfl, _, rfl, ?_⟩
   refine bx ?_
   exact ⟨_, rfl, _, _, _, _, rfl, ty, rfl, _, rfl, k⟩
  | non => refine ⟨_, rfl, _, _, _, _, rfl, ty, rfl, _, rfl, ?_⟩; exact bA k
  | str x => refine ⟨_, rfl, _, _, _, _, rfl, ty, rfl, _, rfl, ?_⟩; exact bA k
  | tup x => refine ⟨_, rfl, _, _, _, _, rfl, ty, rfl, _, rfl, ?_⟩; exact bA k
  | lst x => refine ⟨_, rfl, _, _, _, _, rfl, ty, rfl, _, rfl, ?_⟩; exact bA k
theorem jC (F : FunM K mg "is_within" dM ["number"]) (T : Blt mg) : Def P w K mg base "is_within" ["number"] 1 jJ := by
 have S := iI
 refine Def.of F S (fun vs H Q E h => ?_) (fun f cdv A outer s H vs Q E hr h => ?_)
 ·obtain ⟨i, rfl, _⟩ := h
  rfl
 ·obtain ⟨i, rfl, k⟩ := h
  refine ⟨_, (aB (aK (m_ cY cY (peI T.LEAST_NUMBER rfl) (pv 0) (peI T.MOST_NUMBER rfl)))), ?_⟩
  refine ⟨_, rfl, _, _, rfl, rfl, _, rfl, ?_⟩
  have k : Q (.bl (decide (-100 <= i) && decide (i <= 100))) H := k
  by_cases h1 : -100 <= i
  ·refine ifP (decide_eq_true h1) ?_
   rw [decide_eq_true h1, Bool.true_and] at k
   exact ⟨_, _, rfl, rfl, k⟩
  ·refine ifN (by rw [decide_eq_false h1]; exact Bool.false_ne_true) ?_
   rw [decide_eq_false h1, Bool.false_and] at k
   exact k
theorem nU (F : FunM K mg "is_row" gF ["thing"]) (T : Blt mg) (dX : Def P w K mg base "is_whole" ["thing"] 1 lO) (dI : Def P w K mg base "is_within" ["number"] 1 jJ) : Def P w K mg base "is_row" ["thing"] 2 pP := by
 have S := lQ
 have dq := dX
 have cW := dI
 refine Def.of F S (fun vs H Q E h => ?_) (fun f cdv A outer s H vs Q E hr h => ?_)
 ·obtain ⟨d, v, rfl, _⟩ := h
  rfl
 ·obtain ⟨d, v, rfl, l, k⟩ := h
  have ty := l.ty (K := K)
  refine ⟨_, (aA (bw (PW.pt (cQ (bC (bH (aF (gb K) (by rfl) T.isinstance_ aO (aa (pv 0) (aa (cA (v := .ty "list") rfl T.list_ eY rfl) ao aj) aj) (he := aj)))) (cI (bC (e_ cY cY az (aF (dC K) (by rfl) T.len_ bI (aa (pv 0) ao aj) (he := aj)) (peI T.MOST_CARDS rfl))))))
    (aB (aK du)) aV)
   (aB (aK (aF (ik K) (by rfl) T.all_ dU (aa (bh rfl (N' := ["number"]) (src := [none]) rfl (piL K (pv 0)) (fun _ _ _ _ _ => (aN (i := 0) (show (["number"] : List Str).Nodup from by decide +kernel) rfl (Or.inl rfl))) (fun _ _ _ _ _ => a_) (fun _ _ _ _ _ => (jr (aR dq (hr.mono (by decide)) rfl (aa (pv 0) ao aj) (he := aj)) (iC (aR cW (hr.mono (by decide)) rfl (aa (pv 0) ao aj) (he := aj)))))) ao aJ) (he := aJ))))), ?_⟩
  cases d with
  | lst ds =>
   have l' := l
   unfold Lay at l'
   obtain ⟨a, xs, rfl, ha, hx⟩ := l'
   have hl := hx.len
   refine ⟨_, rfl, _, _, _, _, rfl, ty, rfl, _, rfl, ?_⟩
   refine bA ?_
   refine ⟨_, rfl, a, _, rfl, .inl (SqL.of ha), _, _, rfl, rfl, _, rfl, ?_⟩
   have kk : ∀ H', Same H H' -> Q (.bl (decide (1 <= ds.length) && decide (ds.length <= 4) && ds.all gK)) H' := k
   by_cases h1 : 1 <= ds.length
   ·refine ifP (decide_eq_true (by rw [hl]; omega)) ?_
    refine ⟨_, _, rfl, rfl, _, rfl, ?_⟩
    rw [decide_eq_true h1, Bool.true_and] at kk
    by_cases h4 : ds.length <= 4
    ·refine jP (by rw [hl]; omega) ?_
     rw [decide_eq_true h4, Bool.true_and] at kk
     refine ⟨_, rfl, a, rfl, ⟨_, SqL.of ha⟩, aX (xs := xs) (fun x y _ => ∀ d, Lay H d x -> y = .bl (gK d)) (fun _ _ _ _ _ h => h) (SqL.of ha) (by rw [hl]; exact Nat.le_of_lt (aU (by omega))) ?_ ?_⟩
     ·intro x hx' H1 s1 Q' q
      obtain ⟨e, he, le⟩ := hx.mem hx'
      have uq : ∀ e', Lay H e' x -> e' = e := fun e' l' => l'.uniq le
      refine ⟨_, rfl, e, _, rfl, le.mono s1, _, rfl, ?_⟩
      cases e with
      | int i =>
       unfold Lay at le
       subst le
       refine bx ?_
       exact ⟨_, rfl, i, rfl, q _ H1 (Same.refl _) fun e' l' => by rw [uq e' l']⟩
      | bl i => exact bA (q _ H1 (Same.refl _) fun e' l' => by rw [uq e' l']; rfl)
      | non => exact bA (q _ H1 (Same.refl _) fun e' l' => by rw [uq e' l']; rfl)
      | str i => exact bA (q _ H1 (Same.refl _) fun e' l' => by rw [uq e' l']; rfl)
      | tup i => exact bA (q _ H1 (Same.refl _) fun e' l' => by rw [uq e' l']; rfl)
      | lst i => exact bA (q _ H1 (Same.refl _) fun e' l' => by rw [uq e' l']; rfl)
     ·intro ys H' s' p q hq
      have e := gQ gK hx p
      subst e
      refine ⟨q, _, rfl, SqL.of au, ?_⟩
      rw [all_map]
      exact kk _ (s'.trans (aq hq))
    ·refine ifP (by rw [decide_eq_false (by rw [hl]; omega)]; rfl) ?_
     rw [decide_eq_false h4, Bool.false_and] at kk
     exact kk _ (Same.refl _)
   ·refine ifN (by rw [decide_eq_false (by rw [hl]; omega)]; exact Bool.false_ne_true) ?_
    rw [decide_eq_false h1, Bool.false_and, Bool.false_and] at kk
    exact ⟨_, rfl, bx (kk _ (Same.refl _))⟩
  | int i => refine ⟨_, rfl, _, _, _, _, rfl, ty, rfl, _, rfl, ?_⟩; exact bx (k _ (Same.refl _))
  | bl i => refine ⟨_, rfl, _, _, _, _, rfl, ty, rfl, _, rfl, ?_⟩; exact bx (k _ (Same.refl _))
  | non => refine ⟨_, rfl, _, _, _, _, rfl, ty, rfl, _, rfl, ?_⟩; exact bx (k _ (Same.refl _))
  | str i => refine ⟨_, rfl, _, _, _, _, rfl, ty, rfl, _, rfl, ?_⟩; exact bx (k _ (Same.refl _))
  | tup i => refine ⟨_, rfl, _, _, _, _, rfl, ty, rfl, _, rfl, ?_⟩; exact bx (k _ (Same.refl _))
theorem qx {d : D} (h : b8 d = true) : ∃ es, d = .lst es := by
 cases d with
 | lst es => exact ⟨es, rfl⟩
 | _ => cases h
theorem j9 (F : FunM K mg "is_table" eQ ["thing"]) (T : Blt mg) (fY : Def P w K mg base "is_row" ["thing"] 2 pP) : Def P w K mg base "is_table" ["thing"] 3 lR := by
 have S := jc
 have fO := fY
 refine Def.of F S (fun vs H Q E h => ?_) (fun f cdv A outer s H vs Q E hr h => ?_)
 ·obtain ⟨d, v, rfl, _⟩ := h
  rfl
 ·obtain ⟨d, v, rfl, l, k⟩ := h
  have ty := l.ty (K := K)
  refine ⟨_, (aA (bw (PW.pt (cQ (bC (bH (aF (gb K) (by rfl) T.isinstance_ aO (aa (pv 0) (aa (cA (v := .ty "list") rfl T.list_ eY rfl) ao aj) aj) (he := aj)))) (cI (bC (e_ cY cY az (aF (dC K) (by rfl) T.len_ bI (aa (pv 0) ao aj) (he := aj)) (peI T.MOST_CARDS rfl))))))
    (aB (aK du)) aV)
   (aA (bw (bC (bH (aF (ik K) (by rfl) T.all_ dU (aa (bh rfl (N' := ["row"]) (src := [none]) rfl (piL K (pv 0)) (fun _ _ _ _ _ => (aN (i := 0) (show (["row"] : List Str).Nodup from by decide +kernel) rfl (Or.inl rfl))) (fun _ _ _ _ _ => a_) (fun _ _ _ _ _ => (aR fO (hr.mono (by decide)) rfl (aa (pv 0) ao aj) (he := aj)))) ao aJ) (he := aJ))))
    (aB (aK du)) aV)
   (aB (aK (aF (ik K) (by rfl) T.all_ dU (aa (bh rfl (N' := ["row", "thing"]) (src := [none, some 0]) rfl (piL K (pv 0)) (fun _ _ _ _ _ => (aN (i := 0) (show (["row", "thing"] : List Str).Nodup from by decide +kernel) rfl (Or.inl rfl))) (fun _ _ _ _ _ => a_) (fun _ _ _ _ _ => (eZ fW (aF (dC K) (by rfl) T.len_ bI (aa (pv 0) ao aj) (he := aj)) (aF (dC K) (by rfl) T.len_ bI (aa (bR (ixL K) (pv 1) az (fun _ _ => rfl)) ao aY) (he := aY)) (aZ _)))) ao aJ) (he := aJ)))))), ?_⟩
  cases d with
  | lst ds =>
   have l' := l
   unfold Lay at l'
   obtain ⟨a, xs, rfl, ha, hx⟩ := l'
   have hl := hx.len
   refine ⟨_, rfl, _, _, _, _, rfl, ty, rfl, _, rfl, ?_⟩
   refine bA ?_
   refine ⟨_, rfl, a, _, rfl, .inl (SqL.of ha), _, _, rfl, rfl, _, rfl, ?_⟩
   have kk : ∀ H', Same H H' -> Q (.bl (decide (1 <= ds.length) && decide (ds.length <= 4) && ds.all b8 && ds.all (fun d => decide (dJ d = dJ (ds.headD .non))))) H' := k
   by_cases h1 : 1 <= ds.length
   ·refine ifP (decide_eq_true (by rw [hl]; omega)) ?_
    refine ⟨_, _, rfl, rfl, _, rfl, ?_⟩
    rw [decide_eq_true h1, Bool.true_and] at kk
    by_cases h4 : ds.length <= 4
    ·refine jP (by rw [hl]; omega) ?_
     rw [decide_eq_true h4, Bool.true_and] at kk
     have hz : xs.length <= sizeLine := by rw [hl]; exact Nat.le_of_lt (aU (by omega))
     refine ⟨_, rfl, a, rfl, ⟨_, SqL.of ha⟩, aX (xs := xs) (fun x y _ => ∀ d, Lay H d x -> y = .bl (b8 d)) (fun _ _ _ _ _ h => h) (SqL.of ha) hz ?_ ?_⟩
     ·intro x hx' H1 s1 Q' q
      obtain ⟨e, he, le⟩ := hx.mem hx'
      exact ⟨_, rfl, e, _, rfl, le.mono s1, fun H2 s2 => q _ H2 s2 fun e' l' => by rw [l'.uniq le]⟩
     ·intro ys H' s' p q hq
      have e := gQ b8 hx p
      subst e
      refine ⟨q, _, rfl, SqL.of au, ?_⟩
      rw [all_map]
      have s2 := s'.trans (aq (o := .lst ((ds.map b8).map V.bl)) hq)
      generalize upd H' q (.lst ((ds.map b8).map V.bl)) = H2 at s2 ⊢
      cases hA : ds.all b8 with
      | false =>
       rw [hA, Bool.false_and] at kk
       exact ⟨_, rfl, bx (kk _ s2)⟩
      | true =>
       rw [hA, Bool.true_and] at kk
       refine ⟨_, rfl, bA ?_⟩
       have ha2 := s2 _ _ ha
       have rows : ∀ d ∈ ds, ∃ es, d = .lst es := fun d hd => qx (List.all_eq_true.mp hA d hd)
       obtain ⟨d0, hd0⟩ : ∃ d0, ds[0]? = some d0 := ⟨_, List.getElem?_eq_getElem (by omega)⟩
       have hh : ds.headD .non = d0 := by
        cases ds with
        | nil => cases hd0
        | cons x r => simpa using hd0
       rw [hh] at kk
       obtain ⟨x0, ex0, l0⟩ := hx.get hd0
       obtain ⟨es0, rfl⟩ := rows d0 (List.mem_of_getElem? hd0)
       unfold Lay at l0
       obtain ⟨b0, zs0, rfl, hb0, hz0⟩ := l0
       refine ⟨_, rfl, a, rfl, ⟨_, SqL.of ha2⟩, aX (xs := xs) (fun x y _ => ∀ d, Lay H d x -> y = .bl (decide (dJ d = dJ (.lst es0)))) (fun _ _ _ _ _ h => h) (SqL.of ha2) hz ?_ ?_⟩
       ·intro x hx' H3 s3 Q' q'
        obtain ⟨e, he, le⟩ := hx.mem hx'
        have uq : ∀ e', Lay H e' x -> e' = e := fun e' l' => l'.uniq le
        obtain ⟨es, rfl⟩ := rows e he
        unfold Lay at le
        obtain ⟨b, zs, rfl, hb, hzs⟩ := le
        have s23 := s2.trans s3
        refine ⟨_, rfl, b, _, rfl, .inl (SqL.of (s23 _ _ hb)), _, rfl, a, xs, 0, _, rfl, rfl, SqL.of (s23 _ _ ha), kJ (j := 0) ex0, b0, _, rfl, .inl (SqL.of (s23 _ _ hb0)), rfl, ?_⟩
        refine q' _ H3 (Same.refl _) fun e' l' => ?_
        rw [uq e' l']
        refine congrArg V.bl (decide_eq_decide.mpr ?_)
        rw [hzs.len, hz0.len]
        constructor
        ·intro z
         exact Int.ofNat.inj (V.int.inj z)
        ·intro z
         exact congrArg V.int (congrArg Int.ofNat z)
       ·intro ys H3 s3 p q2 hq2
        have e := gQ (fun d => decide (dJ d = dJ (.lst es0))) hx p
        subst e
        refine ⟨q2, _, rfl, SqL.of au, ?_⟩
        rw [all_map]
        exact kk _ ((s2.trans s3).trans (aq hq2))
    ·refine ifP (by rw [decide_eq_false (by rw [hl]; omega)]; rfl) ?_
     rw [decide_eq_false h4, Bool.false_and, Bool.false_and] at kk
     exact kk _ (Same.refl _)
   ·refine ifN (by rw [decide_eq_false (by rw [hl]; omega)]; exact Bool.false_ne_true) ?_
    rw [decide_eq_false h1, Bool.false_and, Bool.false_and, Bool.false_and] at kk
    exact ⟨_, rfl, bx (kk _ (Same.refl _))⟩
  | int i => refine ⟨_, rfl, _, _, _, _, rfl, ty, rfl, _, rfl, ?_⟩; exact bx (k _ (Same.refl _))
  | bl i => refine ⟨_, rfl, _, _, _, _, rfl, ty, rfl, _, rfl, ?_⟩; exact bx (k _ (Same.refl _))
  | non => refine ⟨_, rfl, _, _, _, _, rfl, ty, rfl, _, rfl, ?_⟩; exact bx (k _ (Same.refl _))
  | str i => refine ⟨_, rfl, _, _, _, _, rfl, ty, rfl, _, rfl, ?_⟩; exact bx (k _ (Same.refl _))
  | tup i => refine ⟨_, rfl, _, _, _, _, rfl, ty, rfl, _, rfl, ?_⟩; exact bx (k _ (Same.refl _))
def xj (CT : Addr) : Sp := fun vs H Q E => ∃ (d : D) (v : V), vs = [v] /\ Lay H d v /\ (gY d = true -> ∀ H', Same H H' -> Q .non H') /\ (gY d = false -> ∀ H', Same H H' -> E (.ref CT) none H')
theorem j6 {i : Int} (h1 : -100 <= i) (h2 : i <= 100) : i.natAbs.log2 < 1920 := by
 have h : i.natAbs < 2 ^ 1920 := Nat.lt_of_le_of_lt (show i.natAbs <= 100 by omega) (by decide)
 by_cases z : i.natAbs = 0
 ·rw [z]; decide
 ·exact (Nat.log2_lt z).mpr h
theorem nQ {r : List Int} (h : ∀ x ∈ r, -100 <= x /\ x <= 100) (n : r.length <= 4) : JoinOk Tx.blank (r.map Tx.sh) = true := by
 unfold JoinOk
 rw [Bool.not_eq_true']
 refine PySem.StrLaws.joinFits (B := 4) (fun y hy => ?_) ?_
 ·obtain ⟨x, hx, rfl⟩ := List.mem_map.mp hy
  exact Tx.sh_len (h x hx).1 (h x hx).2
 ·rw [List.length_map]
  have : Tx.blank.length = 1 := rfl
  rw [this]
  omega
theorem m7 {r : List Int} (h : ∀ x ∈ r, -100 <= x /\ x <= 100) (n : r.length <= 4) : (Tx.wrow r).length <= 20 := by
 unfold Tx.wrow
 show (Builtin.Str.glued _ _).length <= 20
 rw [PySem.StrLaws.glued_eq_join]
 have a := PySem.StrLaws.join_length_le Tx.blank (r.map Tx.sh)
 have b := PySem.StrLaws.sumLen_le (B := 4) (r.map Tx.sh) (fun y hy => by
  obtain ⟨x, hx, rfl⟩ := List.mem_map.mp hy
  exact Tx.sh_len (h x hx).1 (h x hx).2)
 have c : Tx.blank.length = 1 := rfl
 rw [List.length_map] at a b
 rw [c] at a
 omega
theorem n8 {U : List (List Int)} {m n : Nat} (g : Good U m n) : JoinOk Tx.semi (U.map Tx.wrow) = true := by
 have m4 := g.m4
 have n4 := g.n4
 unfold JoinOk
 rw [Bool.not_eq_true']
 refine PySem.StrLaws.joinFits (B := 20) (fun y hy => ?_) ?_
 ·obtain ⟨r, hr, rfl⟩ := List.mem_map.mp hy
  exact m7 (g.num r hr) (by rw [g.cols r hr]; exact n4)
 ·rw [List.length_map, g.rows]
  have : Tx.semi.length = 2 := rfl
  rw [this]
  omega
theorem vG {U : List (List Int)} {m n : Nat} (g : Good U m n) : (Tx.wr U).length <= 100 := by
 have m4 := g.m4
 have n4 := g.n4
 unfold Tx.wr
 show (Builtin.Str.glued _ _).length <= 100
 rw [PySem.StrLaws.glued_eq_join]
 have a := PySem.StrLaws.join_length_le Tx.semi (U.map Tx.wrow)
 have b := PySem.StrLaws.sumLen_le (B := 20) (U.map Tx.wrow) (fun y hy => by
  obtain ⟨r, hr, rfl⟩ := List.mem_map.mp hy
  exact m7 (g.num r hr) (by rw [g.cols r hr]; exact n4))
 have c : Tx.semi.length = 2 := rfl
 rw [List.length_map, g.rows] at a b
 rw [c] at a
 omega
theorem gm {α : Type} (f : α -> Str) {R : V -> α -> Prop} : ∀ {xs ys : List V} {as : List α}, Paired R xs as -> Paired (fun x y => ∀ a, R x a -> y = .str (f a)) xs ys -> ys = (as.map f).map V.str
 | _, _, [], h, q => by cases h; cases q; rfl
 | _, _, a :: as, h, q => by
  cases h with
  | cons h1 h2 =>
   cases q with
   | cons q1 q2 =>
    rw [gm f h2 q2, q1 a h1]
    rfl
theorem iQ : ∀ r : List Int, Paired (fun (x : V) (i : Int) => x = .int i) (r.map V.int) r
 | [] => .nil
 | _ :: r => .cons rfl (iQ r)
def pM : Sp := fun vs H Q _ => ∃ (a : Addr) (r : List Int), vs = [.ref a] /\ H a = some (.lst (r.map V.int)) /\ r.length <= 4 /\ (∀ x ∈ r, -100 <= x /\ x <= 100) /\ ∀ H', Same H H' -> Q (.str (Tx.wrow r)) H'
abbrev dY : Stmt := top 18
theorem kE : FnScope ["row"] ["row"] (aG dY) := ⟨rfl, rfl, rfl, by decide +kernel, rfl, by decide +kernel, by decide +kernel⟩
theorem j4 (F : FunM K mg "row_written" dY ["row"]) (T : Blt mg) : Def P w K mg base "row_written" ["row"] 1 pM := by
 have S := kE
 refine Def.of F S (fun vs H Q E h => ?_) (fun f cdv A outer s H vs Q E hr h => ?_)
 ·obtain ⟨a, r, rfl, _⟩ := h
  rfl
 ·obtain ⟨a, r, rfl, ha, r4, hn, k⟩ := h
  refine ⟨_, (aB (aK (dR K PySem.F.plainAttrs_str PySem.F.slot_str_join PySem.F.type_str_join (jD K) aC (aa (bh rfl (N' := ["number"]) (src := [none]) rfl (piL K (pv 0)) (fun _ _ _ _ _ => (aN (i := 0) (show (["number"] : List Str).Nodup from by decide +kernel) rfl (Or.inl rfl))) (fun _ _ _ _ _ => a_) (fun _ _ _ _ _ => (cN fG (by rfl) T.str_ jq (aa (pv 0) ao aj) (he := aj)))) ao aJ)))), ?_⟩
  refine ⟨rfl, _, rfl, a, rfl, ⟨_, SqL.of ha⟩, aX (xs := r.map V.int) (fun x y _ => ∀ i, x = .int i -> y = .str (Tx.sh i)) (fun _ _ _ _ _ h => h) (SqL.of ha) (by rw [List.length_map]; exact Nat.le_of_lt (aU (by omega))) ?_ ?_⟩
  ·intro x hx H1 s1 Q' q
   obtain ⟨i, hi, rfl⟩ := List.mem_map.mp hx
   refine ⟨_, rfl, i, rfl, j6 (hn i hi).1 (hn i hi).2, q _ H1 (Same.refl _) fun j e => ?_⟩
   cases e
   rfl
  ·intro ys H' s' p q hq
   have e := gm Tx.sh (iQ r) p
   subst e
   exact ⟨_, q, _, rfl, rfl, SqL.of au, nQ hn r4, k _ (s'.trans (aq hq))⟩
def jw : Sp := fun vs H Q _ => ∃ (a : Addr) (U : List (List Int)) (m n : Nat), vs = [.ref a] /\ IsTab H a U /\ Good U m n /\ ∀ H', Same H H' -> Q (.str (Tx.wr U)) H'
abbrev iJ : Stmt := top 19
theorem qp : FnScope ["table"] ["table"] (aG iJ) := ⟨rfl, rfl, rfl, by decide +kernel, rfl, by decide +kernel, by decide +kernel⟩
theorem qt (F : FunM K mg "written" iJ ["table"]) (T : Blt mg) (d8 : Def P w K mg base "check_table" ["thing"] 4 oU) (eF : Def P w K mg base "row_written" ["row"] 1 pM) : Def P w K mg base "written" ["table"] 5 jw := by
 have S := qp
 refine Def.of F S (fun vs H Q E h => ?_) (fun f cdv A outer s H vs Q E hr h => ?_)
 ·obtain ⟨a, U, m, n, rfl, _⟩ := h
  rfl
 ·obtain ⟨a, U, m, n, rfl, hU, g, k⟩ := h
  refine ⟨_, (aA (iU (aR d8 (hr.mono (by decide)) rfl (aa (pv 0) ao aj) (he := aj)))
   (aB (aK (dR K PySem.F.plainAttrs_str PySem.F.slot_str_join PySem.F.type_str_join (jD K) aC (aa (bh rfl (N' := ["row"]) (src := [none]) rfl (piL K (pv 0)) (fun _ _ _ _ _ => (aN (i := 0) (show (["row"] : List Str).Nodup from by decide +kernel) rfl (Or.inl rfl))) (fun _ _ _ _ _ => a_) (fun _ _ _ _ _ => (aR eF (hr.mono (by decide)) rfl (aa (pv 0) ao aj) (he := aj)))) ao aJ))))), ?_⟩
  refine ⟨_, rfl, a, U, m, n, rfl, hU, g, fun H1 s1 => ?_⟩
  obtain ⟨vs, ha, hp⟩ := hU.mono s1
  have n4 := g.n4
  have m4 := g.m4
  have hl : vs.length = m := by rw [hp.length, g.rows]
  refine ⟨rfl, _, rfl, a, rfl, ⟨_, SqL.of ha⟩, aX (xs := vs) (fun x y _ => ∀ r, IsRow H1 x r -> y = .str (Tx.wrow r)) (fun _ _ _ _ _ h => h) (SqL.of ha) (by rw [hl]; exact Nat.le_of_lt (aU (by omega))) ?_ ?_⟩
  ·intro x hx H2 s2 Q' q
   obtain ⟨r, hr', b, rfl, hb⟩ := hp.mem2 hx
   refine ⟨_, rfl, b, r, rfl, s2 _ _ hb, by rw [g.cols r hr']; exact n4, g.num r hr', fun H3 s3 => q _ H3 s3 fun r' h' => ?_⟩
   obtain ⟨b', e, hb'⟩ := h'
   cases e
   rw [hb] at hb'
   have e2 : r.map V.int = r'.map V.int := HO.lst.inj (Option.some.inj hb')
   rw [List.map_inj_right (fun x y z => V.int.inj z) |>.mp e2]
  ·intro ys H' s' p q hq
   have e := gm Tx.wrow hp p
   subst e
   exact ⟨_, q, _, rfl, rfl, SqL.of au, n8 g, k _ ((s1.trans s').trans (aq hq))⟩
seal PySem.wpAny
def pQ : Sp := fun vs H Q _ => vs = [] /\ ∀ p H', Same H H' -> H p = none -> IsNums H' p -> Q (.ref p) H'
abbrev cg : Stmt := top 20
theorem gA : FnScope ["found", "number"] [] (aG cg) := ⟨rfl, rfl, rfl, by decide +kernel, rfl, by decide +kernel, by decide +kernel⟩
theorem gr (F : FunM K mg "numbers_by_figures" cg []) (T : Blt mg) : Def P w K mg base "numbers_by_figures" [] 1 pQ := by
 have S := gA
 refine Def.of F S (fun vs H Q E h => ?_) (fun f cdv A outer s H vs Q E hr h => ?_)
 ·rw [h.1]
  rfl
 ·obtain ⟨rfl, k⟩ := h
  refine ⟨_, (aA (bf (i := 0) S.nd rfl (Or.inl rfl) tX)
   (aA (iH PassesOwn.never rfl (rQ rfl T.range_ (aa (peI T.LEAST_NUMBER rfl) (aa (aM cH (peI T.MOST_NUMBER rfl) az) ao bV) aj)) (aN (i := 1) S.nd rfl (Or.inl rfl))
    (aB (uL (qF hr) (pv 0) (cN fG (by rfl) T.str_ jq (aa (pv 1) ao aj) (he := aj)) (pv 1) rfl)))
   (aB (aK (pv 0))))), ?_⟩
  intro p hp
  refine ⟨_, _, rfl, rfl, -100, 101, rfl, ⟨by decide, by decide, by decide, by decide⟩, iG (n := 201) (fun i σ H1 => ∃ o kvs, σ = [some (.ref p), o] /\ Same H H1 /\ H1 p = some (.dK kvs) /\ kvs.length <= i /\ ∀ w : Str, bB kvs (.inr w) = ((Tx.nums.take i).find? fun n => decide (Tx.sh n = w)).map V.int)
   ⟨_, [], rfl, aq hp, au, Nat.le_refl _, fun w => rfl⟩ ?_ ?_⟩
  ·rintro i σ H1 hi ⟨o, kvs, rfl, s1, hd, hl, hv⟩
   refine ⟨_, rfl, _, rfl, _, rfl, _, rfl, j6 (by omega) (by omega), p, _, rfl, DPut.k (k := .inr (Tx.sh (-100 + (i : Int)))) hd (by have := aU (n := kvs.length) (by omega); omega), ?_⟩
   exact ⟨_, _, rfl, gC s1 hp, au, Nat.le_trans (gj _ _ _) (by omega), q9 hi hv⟩
  ·rintro σ H1 ⟨o, kvs, rfl, s1, hd, hl, hv⟩
   refine ⟨_, rfl, k p H1 s1 hp ⟨kvs, hd, fun w => ?_⟩⟩
   rw [hv w, List.take_of_length_le (by rw [tU]; exact Nat.le_refl _)]
   rfl
def pO (CB : Addr) : Sp := fun vs H Q E => ∃ (x : Str) (a : Addr), vs = [.str x, .ref a] /\ IsNums H a /\ x.length <= 5000 /\ (Tx.okWs (Txt.split x Tx.blank) = true -> ∀ p H', New H H' p (.lst ((Tx.valWs (Txt.split x Tx.blank)).map V.int)) -> Q (.ref p) H') /\
 (Tx.okWs (Txt.split x Tx.blank) = false -> ∀ H', Same H H' -> E (.ref CB) none H')
theorem lV (p : Str -> Bool) : ∀ {ts : List Str} {ys : List V}, Paired (fun x y => ∀ t, x = V.str t -> y = .bl (p t)) (ts.map V.str) ys -> ys = (ts.map p).map V.bl
 | [], _, q => by cases q; rfl
 | t :: ts, _, q => by
  cases q with
  | cons q1 q2 =>
   rw [lV p q2, q1 t rfl]
   rfl
theorem jn {α : Type} (c : α -> V) (p : Str -> α) : ∀ {ts : List Str} {ys : List V}, Paired (fun x y => ∀ t, x = V.str t -> y = c (p t)) (ts.map V.str) ys -> ys = (ts.map p).map c
 | [], _, q => by cases q; rfl
 | t :: ts, _, q => by
  cases q with
  | cons q1 q2 =>
   rw [jn c p q2, q1 t rfl]
   rfl
theorem dO {n : Nat} (h : n <= 5000) : n + 2 <= sizeLine := by
 have : sizeLine = 16777216 := sizeLine_eq
 omega
theorem rT : ∀ {l : List Nat} {n : Nat}, n ∈ l -> n <= l.sum
 | [], _, h => nomatch h
 | a :: r, n, h => by
  rw [List.sum_cons]
  rcases List.mem_cons.mp h with rfl | h
  ·omega
  ·have := rT h
   omega
theorem jY {x y t : Str} (h : t ∈ Txt.split x y) : t.length <= x.length := by
 have e := Tx.join_split x y
 have a : (Txt.join y (Txt.split x y)).length = ((Txt.split x y).map (·.length)).sum + ((Txt.split x y).length - 1) * y.length := PySem.size_glued y _
 rw [e] at a
 have b : t.length <= ((Txt.split x y).map (·.length)).sum := rT (List.mem_map.mpr ⟨t, h, rfl⟩)
 omega
abbrev gU : Stmt := top 21
theorem o6 : FnScope ["text", "numbers", "words"] ["text", "numbers"] (aG gU) := ⟨rfl, rfl, rfl, by decide +kernel, rfl, by decide +kernel, by decide +kernel⟩
theorem o4 {CB : Addr} (F : FunM K mg "row_read" gU ["text", "numbers"]) (T : Blt mg) (X_BadText : Exc K mg "BadText" CB) : DefX P w K mg base "row_read" ["text", "numbers"] 1 (pO CB) := by
 have S := o6
 refine DefX.of F S (fun vs H Q E h => ?_) (fun f cdv A outer s H vs Q E hr h => ?_)
 ·obtain ⟨x, a, rfl, _⟩ := h
  rfl
 ·obtain ⟨x, a, rfl, hn, hx, k1, k2⟩ := h
  refine ⟨_, (aA (bf (i := 2) S.nd rfl (Or.inl rfl) (dR K PySem.F.plainAttrs_str PySem.F.slot_str_split PySem.F.type_str_split gJ (pv 0) (aa aC ao ak)))
   (aA (bw (bC (bH (aF (ik K) (by rfl) T.all_ dU (aa (bh rfl (N' := ["word", "numbers"]) (src := [none, some 1]) rfl (piL K (pv 2)) (fun _ _ _ _ _ => (aN (i := 0) (show (["word", "numbers"] : List Str).Nodup from by decide +kernel) rfl (Or.inl rfl))) (fun _ _ _ _ _ => a_) (fun _ _ _ _ _ => (vg (vJ (qF hr) (pv 0) (pv 1))))) ao aJ) (he := aJ))))
    (aB (jo X_BadText (aa aC ao ak) rfl)) aV)
   (aB (aK (bh rfl (N' := ["word", "numbers"]) (src := [none, some 1]) rfl (piL K (pv 2)) (fun _ _ _ _ _ => (aN (i := 0) (show (["word", "numbers"] : List Str).Nodup from by decide +kernel) rfl (Or.inl rfl))) (fun _ _ _ _ _ => a_) (fun _ _ _ _ _ => (uX (qF hr) (pv 1) (pv 0) (fun _ _ => rfl)))))))), ?_⟩
  have hl := PyProof.Rows.split_le x Tx.blank
  have hz : ((Txt.split x Tx.blank).map V.str).length <= sizeLine := by
   rw [List.length_map]
   have := dO hx
   omega
  refine ⟨_, rfl, rfl, x, Tx.blank, rfl, rfl, rfl, dO hx, fun q hq => ?_⟩
  have s1 := aq (o := .lst ((Txt.split x Tx.blank).map V.str)) hq
  have hs : SqL K (upd H q (.lst ((Txt.split x Tx.blank).map V.str))) q ((Txt.split x Tx.blank).map V.str) := SqL.of au
  generalize upd H q (.lst ((Txt.split x Tx.blank).map V.str)) = H1 at s1 hs ⊢
  refine ⟨_, rfl, q, rfl, ⟨_, hs⟩, aX (xs := (Txt.split x Tx.blank).map V.str) (fun x y _ => ∀ t, x = V.str t -> y = .bl (Tx.numO t).isSome) (fun _ _ _ _ _ h => h) hs hz ?_ ?_⟩
  ·intro y hy H2 s2 Q' q'
   obtain ⟨t, ht, rfl⟩ := List.mem_map.mp hy
   refine ⟨_, rfl, _, rfl, a, _, rfl, (hn.mono (s1.trans s2)).get t, q' _ H2 (Same.refl _) fun t' e => ?_⟩
   cases e
   rw [Option.isSome_map]
  ·intro ys H2 s2 pr r hr'
   have e := lV (fun t => (Tx.numO t).isSome) pr
   subst e
   refine ⟨r, _, rfl, SqL.of au, _, rfl, ?_⟩
   have s3 := s2.trans (aq (o := .lst (((Txt.split x Tx.blank).map fun t => (Tx.numO t).isSome).map V.bl)) hr')
   have ea : ((Txt.split x Tx.blank).map fun t => (Tx.numO t).isSome).all id = Tx.okWs (Txt.split x Tx.blank) := by
    rw [List.all_map]
    rfl
   rw [ea]
   generalize upd H2 r (.lst (((Txt.split x Tx.blank).map fun t => (Tx.numO t).isSome).map V.bl)) = H3 at s3 ⊢
   cases ho : Tx.okWs (Txt.split x Tx.blank) with
   | false => exact bx ⟨by show 1 <= sizeLine; decide, k2 ho _ (s1.trans s3)⟩
   | true =>
    refine bA ?_
    refine ⟨_, rfl, q, rfl, ⟨_, s3.seq hs⟩, aX (xs := (Txt.split x Tx.blank).map V.str) (fun x y _ => ∀ t, x = V.str t -> y = .int ((Tx.numO t).getD 0)) (fun _ _ _ _ _ h => h) (s3.seq hs) hz ?_ ?_⟩
    ·intro y hy H4 s4 Q' q'
     obtain ⟨t, ht, rfl⟩ := List.mem_map.mp hy
     have some_ := List.all_eq_true.mp ho t ht
     obtain ⟨n, en⟩ := Option.isSome_iff_exists.mp some_
     have g := (hn.mono ((s1.trans s3).trans s4)).get t
     rw [en] at g
     refine ⟨_, rfl, _, rfl, a, _, rfl, g, q' _ H4 (Same.refl _) fun t' e => ?_⟩
     cases e
     rw [en]
     rfl
    ·intro ys H4 s4 pr p hp
     have e := jn V.int (fun t => (Tx.numO t).getD 0) pr
     subst e
     exact k1 ho p _ (New.of ((s1.trans s3).trans s4) hp)
def eV : D -> Option (List (List Int))
 | .str t => if Tx.okT t = true then some (Tx.valT t) else none
 | _ => none
def kI (CB : Addr) : Sp := fun vs H Q E => ∃ (d : D) (v : V), vs = [v] /\ Lay H d v /\ (∀ t, d = .str t -> t.length <= 5000) /\ (∀ U, eV d = some U -> ∀ a H', Same H H' -> OwnTab H H' a U -> Q (.ref a) H') /\ (eV d = none -> ∀ H', Same H H' -> E (.ref CB) none H')
theorem pA {U : List (List Int)} (p : 1 <= U.length) (hr : ∀ r ∈ U, 1 <= r.length) (hn : ∀ r ∈ U, ∀ x ∈ r, -100 <= x /\ x <= 100) : gY (gh U) = Tx.lensOk U := by
 have row : ∀ r ∈ U, b8 (bT r) = decide (r.length <= 4) := fun r h => by
  show (decide (1 <= (r.map D.int).length) && decide ((r.map D.int).length <= 4) && (r.map D.int).all gK) = _
  rw [List.length_map, decide_eq_true (hr r h), Bool.true_and]
  have : (r.map D.int).all gK = true := List.all_eq_true.mpr fun d hd => by
   obtain ⟨x, hx, rfl⟩ := List.mem_map.mp hd
   show (decide (-100 <= x) && decide (x <= 100)) = true
   rw [decide_eq_true (hn r h x hx).1, decide_eq_true (hn r h x hx).2]
   rfl
  rw [this, Bool.and_true]
 have hd : dJ ((U.map bT).headD .non) = (U.headD []).length := by
  cases U with
  | nil => rfl
  | cons r R => exact List.length_map ..
 have e1 : (U.map bT).all b8 = U.all fun r => decide (r.length <= 4) := by
  rw [List.all_map]
  rw [Bool.eq_iff_iff, List.all_eq_true, List.all_eq_true]
  exact ⟨fun z r h => by rw [<- row r h]; exact z r h, fun z r h => by show b8 (bT r) = true; rw [row r h]; exact z r h⟩
 have e2 : (U.map bT).all (fun d => decide (dJ d = dJ ((U.map bT).headD .non))) = U.all fun r => decide (r.length = (U.headD []).length) := by
  rw [List.all_map, hd]
  congr 1
  funext r
  show decide ((r.map D.int).length = _) = _
  rw [List.length_map]
 show (decide (1 <= (U.map bT).length) && decide ((U.map bT).length <= 4) && (U.map bT).all b8 && (U.map bT).all (fun d => decide (dJ d = dJ ((U.map bT).headD .non)))) = _
 rw [e1, e2, List.length_map, decide_eq_true p, Bool.true_and]
 unfold Tx.lensOk
 rw [Bool.eq_iff_iff]
 simp only [Bool.and_eq_true, decide_eq_true_eq, List.all_eq_true]
 constructor
 ·rintro ⟨⟨a, b⟩, c⟩
  refine ⟨⟨a, ?_⟩, c⟩
  cases U with
  | nil => exact Nat.zero_le _
  | cons r R => exact b r List.mem_cons_self
 ·rintro ⟨⟨a, b⟩, c⟩
  exact ⟨⟨a, fun r h => by rw [c r h]; exact b⟩, c⟩
theorem oJ {H H' : Hp} : ∀ {ts : List Str} {ys : List V}, Paired (fun x y => ∀ r, x = V.str r -> Tx.okWs (Txt.split r Tx.blank) = true /\ OwnRow H H' y (Tx.valWs (Txt.split r Tx.blank))) (ts.map V.str) ys ->
  Paired (OwnRow H H') ys ((ts.map fun r => Txt.split r Tx.blank).map Tx.valWs) /\ (ts.map fun r => Txt.split r Tx.blank).all Tx.okWs = true
 | [], _, q => by cases q; exact ⟨.nil, rfl⟩
 | t :: ts, _, q => by
  cases q with
  | cons q1 q2 =>
   obtain ⟨a, b⟩ := oJ q2
   obtain ⟨c, d⟩ := q1 t rfl
   refine ⟨.cons d a, ?_⟩
   rw [List.map_cons, List.all_cons, c, b]
   rfl
abbrev nT : Stmt := top 22
theorem uY : FnScope ["text", "numbers", "table"] ["text"] (aG nT) := ⟨rfl, rfl, rfl, by decide +kernel, rfl, by decide +kernel, by decide +kernel⟩
theorem uH {CB : Addr} (F : FunM K mg "read" nT ["text"]) (T : Blt mg) (X_BadText : Exc K mg "BadText" CB) (d9 : Def P w K mg base "is_table" ["thing"] 3 lR) (cu : Def P w K mg base "numbers_by_figures" [] 1 pQ) (gO : DefX P w K mg base "row_read" ["text", "numbers"] 1 (pO CB)) :
  DefX P w K mg base "read" ["text"] 4 (kI CB) := by
 have S := uY
 refine DefX.of F S (fun vs H Q E h => ?_) (fun f cdv A outer s H vs Q E hr h => ?_)
 ·obtain ⟨d, v, rfl, _⟩ := h
  rfl
 ·obtain ⟨d, v, rfl, l, h5, k1, k2⟩ := h
  have ty := l.ty (K := K)
  refine ⟨_, (aA (bw (bC (bH (aF (gb K) (by rfl) T.isinstance_ aO (aa (pv 0) (aa (cA (v := .ty "str") rfl T.str_ jq rfl) ao aj) aj) (he := aj))))
    (aB (jo X_BadText (aa aC ao ak) rfl)) aV)
   (aA (bf (i := 1) S.nd rfl (Or.inr rfl) (uO cu (hr.mono (by decide)) rfl))
   (aA (sS rfl (i := 2) rfl S.nd rfl rfl (N' := ["row", "numbers"]) (src := [none, some 1]) rfl (piL K (dR K PySem.F.plainAttrs_str PySem.F.slot_str_split PySem.F.type_str_split gJ (pv 0) (aa aC ao ak))) (fun _ _ _ _ _ => (aN (i := 0) (show (["row", "numbers"] : List Str).Nodup from by decide +kernel) rfl (Or.inl rfl))) (fun _ _ _ _ _ => a_) (fun _ _ _ _ _ hx => (j5 gO (hr.mono (by decide)) rfl hx (aa (pv 0) (aa (pv 1) ao aj) aj) (he := aj))))
   (aA (bw (bC (bH (aR d9 (hr.mono (by decide)) rfl (aa (pv 2) ao aj) (he := aj))))
    (aB (jo X_BadText (aa aC ao ak) rfl)) aV)
   (aB (aK (pv 2))))))), ?_⟩
  cases d with
  | str t =>
   unfold Lay at l
   subst l
   have ht := h5 t rfl
   refine ⟨_, rfl, _, _, _, _, rfl, ty, rfl, _, rfl, ?_⟩
   refine bA ?_
   refine ⟨rfl, fun p H1 s1 hp hn => ?_⟩
   have hl := PyProof.Rows.split_le t Tx.semi
   have hz : ((Txt.split t Tx.semi).map V.str).length <= sizeLine := by
    rw [List.length_map]
    have := dO ht
    omega
   refine ⟨_, rfl, rfl, t, Tx.semi, rfl, rfl, rfl, dO ht, fun q hq => ?_⟩
   have s2 := aq (o := .lst ((Txt.split t Tx.semi).map V.str)) hq
   have hs : SqL K (upd H1 q (.lst ((Txt.split t Tx.semi).map V.str))) q ((Txt.split t Tx.semi).map V.str) := SqL.of au
   generalize upd H1 q (.lst ((Txt.split t Tx.semi).map V.str)) = H2 at s2 hs ⊢
   have s12 := s1.trans s2
   have no : (Tx.rowsT t).all Tx.okWs = false -> eV (.str t) = none := fun z => by
    show (if Tx.okT t = true then some (Tx.valT t) else none) = none
    unfold Tx.okT
    rw [z]
    rfl
   refine ⟨q, rfl, ⟨_, hs⟩, aX (xs := (Txt.split t Tx.semi).map V.str) (fun x y H' => ∀ r, x = V.str r -> Tx.okWs (Txt.split r Tx.blank) = true /\ OwnRow H H' y (Tx.valWs (Txt.split r Tx.blank)))
    (fun _ _ _ _ s' h r e => ⟨(h r e).1, (h r e).2.mono s'⟩) hs hz ?_ ?_⟩
   ·intro y hy H3 s3 Q' q'
    obtain ⟨r, hr', rfl⟩ := List.mem_map.mp hy
    refine ⟨_, rfl, _, rfl, r, p, rfl, hn.mono (s2.trans s3), Nat.le_trans (jY hr') ht, fun ok b H4 nw => q' _ H4 nw.same fun r' e => ?_, fun bad H4 s4 => k2 (no ?_) H4 ((s12.trans s3).trans s4)⟩
    ·cases e
     exact ⟨ok, b, rfl, (s12.trans s3).free nw.new, nw.is⟩
    ·rw [Bool.eq_false_iff]
     intro z
     have := List.all_eq_true.mp z (Txt.split r Tx.blank) (List.mem_map.mpr ⟨r, hr', rfl⟩)
     rw [bad] at this
     cases this
   ·intro ys H3 s3 pr a ha
    obtain ⟨pw, ok⟩ := oJ pr
    have ok : (Tx.rowsT t).all Tx.okWs = true := ok
    have s13 := s12.trans s3
    have ow : OwnTab H (upd H3 a (.lst ys)) a (Tx.valT t) := ⟨ys, s13.free ha, au, pw.imp2 fun _ _ z => z.mono (aq ha)⟩
    have s14 := s13.trans (aq (o := .lst ys) ha)
    generalize upd H3 a (.lst ys) = H4 at ow s14 ⊢
    refine ⟨_, rfl, gh (Tx.valT t), _, rfl, uA ow.tab, fun H5 s5 => ?_⟩
    have e := pA (U := Tx.valT t) (by show 1 <= ((Tx.rowsT t).map _).length; rw [List.length_map]; exact Tx.rows_pos t) (fun r h => by
     obtain ⟨ws, hw, rfl⟩ := List.mem_map.mp h
     rw [Tx.val_len]
     exact Tx.row_pos hw) (Tx.val_in ok)
    have e2 : Tx.lensOk (Tx.valT t) = Tx.lensOk (Tx.rowsT t) := Tx.lensOk_map Tx.valWs Tx.val_len _
    rw [e, e2]
    cases hL : Tx.lensOk (Tx.rowsT t) with
    | true =>
     refine ⟨_, rfl, bA ?_⟩
     refine ⟨_, rfl, k1 (Tx.valT t) ?_ a H5 (s14.trans s5) (ow.mono s5)⟩
     show (if Tx.okT t = true then some (Tx.valT t) else none) = _
     unfold Tx.okT
     rw [ok, hL]
     rfl
    | false =>
     refine ⟨_, rfl, bx ⟨by show 1 <= sizeLine; decide, k2 ?_ H5 (s14.trans s5)⟩⟩
     show (if Tx.okT t = true then some (Tx.valT t) else none) = _
     unfold Tx.okT
     rw [ok, hL]
     rfl
  | int i => exact ⟨_, rfl, _, _, _, _, rfl, ty, rfl, _, rfl, bx ⟨by show 1 <= sizeLine; decide, k2 rfl _ (Same.refl _)⟩⟩
  | bl i => exact ⟨_, rfl, _, _, _, _, rfl, ty, rfl, _, rfl, bx ⟨by show 1 <= sizeLine; decide, k2 rfl _ (Same.refl _)⟩⟩
  | non => exact ⟨_, rfl, _, _, _, _, rfl, ty, rfl, _, rfl, bx ⟨by show 1 <= sizeLine; decide, k2 rfl _ (Same.refl _)⟩⟩
  | tup i => exact ⟨_, rfl, _, _, _, _, rfl, ty, rfl, _, rfl, bx ⟨by show 1 <= sizeLine; decide, k2 rfl _ (Same.refl _)⟩⟩
  | lst i => exact ⟨_, rfl, _, _, _, _, rfl, ty, rfl, _, rfl, bx ⟨by show 1 <= sizeLine; decide, k2 rfl _ (Same.refl _)⟩⟩
def vO : Option Int -> V
 | none => .non
 | some n => .int n
def lH : Sp := fun vs H Q _ => ∃ w : Str, vs = [.str w] /\ w.length <= 5000 /\ ∀ H', Same H H' -> Q (vO (Tx.numO w)) H'
theorem str_mk (l m : List Nat) : ((⟨l.toArray⟩ : Str) = ⟨m.toArray⟩) ↔ l = m := by
 constructor
 ·intro h
  have := congrArg (fun s : Str => s.cps.toList) h
  simpa using this
 ·rintro rfl
  rfl
theorem m5 (x : Str) : (V.str (Txt.slice x none (some 1)) = V.str (Str.ofString "-")) ↔ x.cps.toList.take 1 = [45] := by
 rw [Tx.slice_head]
 have e : Str.ofString "-" = ⟨[45].toArray⟩ := by decide +kernel
 rw [e]
 exact ⟨fun h => (str_mk _ _).mp (V.str.inj h), fun h => congrArg V.str ((str_mk _ _).mpr h)⟩
theorem uF (c : Nat) : (!(Builtin.Str.occurrences (Str.ofString "0123456789") ⟨#[c]⟩ 0 (Str.ofString "0123456789").length 1).isEmpty) = Tx.dig c := by
 rw [PySem.StrLaws.found_one]
 have e : (Str.ofString "0123456789").cps.toList = Tx.digs := by decide +kernel
 rw [e, Bool.eq_iff_iff, decide_eq_true_eq]
 constructor
 ·intro h
  have := List.all_eq_true.mp (show Tx.digs.all Tx.dig = true by decide) c h
  exact this
 ·exact Tx.dig_mem
theorem n6 (l : List Nat) (c : Nat) (h : l[0]? = some c) : (V.str ⟨#[c]⟩ = V.str (Str.ofString "0")) ↔ l.take 1 = [48] := by
 have e : Str.ofString "0" = ⟨[48].toArray⟩ := by decide +kernel
 rw [e]
 cases l with
 | nil => cases h
 | cons a r =>
  have h : a = c := by simpa using h
  subst h
  constructor
  ·intro z
   have := (str_mk [a] [48]).mp (V.str.inj z)
   simpa using this
  ·intro z
   have : a = 48 := by simpa using z
   rw [this]
theorem lN (x : Str) : (V.str x = V.str (Str.ofString "0")) ↔ x.cps.toList = [48] := by
 have e : Str.ofString "0" = ⟨[48].toArray⟩ := by decide +kernel
 rw [e]
 constructor
 ·intro h
  rw [V.str.inj h]
 ·intro h
  rw [Tx.str_of (w := x), h]
abbrev fg (x : Str) : Str := ⟨(Tx.figs x.cps.toList).toArray⟩
abbrev dZ : Stmt := top 28
theorem j7 : FnScope ["_law_word", "_law_figures"] ["_law_word"] (aG dZ) := ⟨rfl, rfl, rfl, by decide +kernel, rfl, by decide +kernel, by decide +kernel⟩
theorem j_ (F : FunM K mg "_law_number" dZ ["_law_word"]) (T : Blt mg) : Def P w K mg base "_law_number" ["_law_word"] 1 lH := by
 have S := j7
 refine Def.of F S (fun vs H Q E h => ?_) (fun f cdv A outer s H vs Q E hr h => ?_)
 ·obtain ⟨w, rfl, _⟩ := h
  rfl
 ·obtain ⟨x, rfl, h5, k⟩ := h
  have hx : x.length <= sizeLine := by have := dO h5; omega
  refine ⟨_, (aA (bf (i := 1) S.nd rfl (Or.inl rfl) (tY (bc fW (cF gw (pv 0) dm (di az)) aC (aZ _)) (cF gw (pv 0) (di az) dm) (pv 0)))
   (aA (bw (PW.pt (cQ (bC (e_ qw qw az (aF iy (by rfl) T.len_ bI (aa (pv 1) ao aj) (he := aj)) az)) (cI (bC (bH (aF (ik K) (by rfl) T.all_ dU (aa (bh rfl (N' := ["_law_sign"]) (src := [none]) rfl (ww (pv 1)) (fun _ _ _ _ _ => (aN (i := 0) (show (["_law_sign"] : List Str).Nodup from by decide +kernel) rfl (Or.inl rfl))) (fun _ _ _ _ _ => a_) (fun _ _ _ _ _ => (eZ rN (pv 0) aC rfl))) ao aJ) (he := aJ)))))))
    (aB (aK cO)) aV)
   (aA (bw (PW.pt (cQ (PW.pt (oM (bc fW (pB (pv 1) az (fun _ _ => rfl)) aC (aZ _)) (kO (bc jA (pv 0) aC (aZ _))))) (cI (bc mQ (cN g8 (by rfl) T.int_ iw (aa (pv 1) ao aj) (he := aj)) az (aZ _)))))
    (aB (aK cO)) aV)
   (aB (aK (cN g8 (by rfl) T.int_ iw (aa (pv 0) ao aj) (he := aj))))))), ?_⟩
  refine oG (fun σ' H' => σ' = [some (.str x), some (.str (fg x))] /\ H = H') (fun R hR => ?_) ?_
  ·refine ⟨_, rfl, 1, rfl, x, rfl, hx, rfl, _, rfl, ?_⟩
   by_cases hd : x.cps.toList.take 1 = [45]
   ·refine ifP (decide_eq_true ((m5 x).mpr hd)) ?_
    refine ⟨_, rfl, 1, rfl, x, rfl, hx, hR _ _ ⟨?_, rfl⟩⟩
    show [some (V.str x), some (V.str (Txt.slice x (some 1) none))] = _
    rw [Tx.slice_tail]
    unfold fg Tx.figs
    rw [if_pos hd]
   ·refine ifN (fun z => hd ((m5 x).mp (of_decide_eq_true z))) ?_
    refine ⟨_, rfl, hR _ _ ⟨?_, rfl⟩⟩
    unfold fg Tx.figs
    rw [if_neg hd, <- Tx.str_of]
    rfl
  ·rintro σ' H' ⟨rfl, rfl⟩
   have hl : (fg x).length = (Tx.figs x.cps.toList).length := List.size_toArray ..
   have hfx : (Tx.figs x.cps.toList).length <= x.length := by
    have : x.cps.toList.length = x.length := Array.length_toList
    unfold Tx.figs
    split
    ·rw [List.length_drop]; omega
    ·omega
   have k' : ∀ H', Same H H' -> Q (vO (Tx.lawL x.cps.toList)) H' := fun H' s' => by rw [Tx.lawL_eq]; exact k H' s'
   have none1 : (¬ (0 < (Tx.figs x.cps.toList).length /\ (Tx.figs x.cps.toList).length < 4) \/ ¬ (Tx.figs x.cps.toList).all Tx.dig = true) -> ∀ H', Same H H' -> Q .non H' := fun z H' s' => by
    have := k' H' s'
    unfold Tx.lawL at this
    rw [if_pos z] at this
    exact this
   refine ⟨_, rfl, fg x, rfl, by omega, _, _, rfl, rfl, _, rfl, ?_⟩
   by_cases h0 : 0 < (Tx.figs x.cps.toList).length
   ·refine ifP (decide_eq_true (by rw [hl]; omega)) ?_
    refine ⟨_, _, rfl, rfl, _, rfl, ?_⟩
    by_cases h4 : (Tx.figs x.cps.toList).length < 4
    ·refine jP (by rw [hl]; omega) ?_
     refine ⟨_, rfl, fg x, rfl, tZ (fun i ys H' => Same H H' /\ ys = (((Tx.figs x.cps.toList).take i).map Tx.dig).map V.bl) ⟨Same.refl _, by simp⟩ ?_ (by show (fg x).length <= _; omega) ?_ ?_⟩
     ·rintro i ys H' ⟨_, rfl⟩
      rw [List.length_map, List.length_map, List.length_take]
      omega
     ·rintro i c ys H' hc ⟨s', rfl⟩
      refine m8 ?_
      refine ⟨_, rfl, _, _, rfl, rfl, ?_⟩
      refine ⟨s', ?_⟩
      have hc' : (Tx.figs x.cps.toList)[i]? = some c := by simpa using hc
      rw [uF, List.take_add_one, hc', List.map_append, List.map_append]
      rfl
     ·rintro ys H' ⟨s', rfl⟩ q hq
      rw [List.take_of_length_le (by show (Tx.figs x.cps.toList).length <= (fg x).cps.size; simp)]
      refine ⟨q, _, rfl, SqL.of au, _, rfl, ?_⟩
      have s2 := s'.trans (aq (o := .lst (((Tx.figs x.cps.toList).map Tx.dig).map V.bl)) hq)
      generalize upd H' q (.lst (((Tx.figs x.cps.toList).map Tx.dig).map V.bl)) = H2 at s2 ⊢
      have ea : ((Tx.figs x.cps.toList).map Tx.dig).all id = (Tx.figs x.cps.toList).all Tx.dig := by rw [List.all_map]; rfl
      rw [ea]
      cases hA : (Tx.figs x.cps.toList).all Tx.dig with
      | false => exact bx (none1 (.inr (by rw [hA]; exact Bool.false_ne_true)) H2 s2)
      | true =>
       refine bA ?_
       obtain ⟨r1, r2⟩ := Tx.reads h0 h4 hA
       have k2 : Q (vO (if ((Tx.figs x.cps.toList).take 1 = [48] /\ x.cps.toList ≠ [48]) \/ Tx.worth (Tx.figs x.cps.toList) > 100 then none else some (Tx.worth x.cps.toList))) H2 := by
        have := k' H2 s2
        unfold Tx.lawL at this
        rw [if_neg (by rintro (z | z); exact z ⟨h0, h4⟩; exact z hA)] at this
        exact this
       obtain ⟨c, hc⟩ : ∃ c, (Tx.figs x.cps.toList)[0]? = some c := ⟨_, List.getElem?_eq_getElem h0⟩
       have x4 : x.length <= 5 := by
        have e0 : x.cps.toList.length = x.length := Array.length_toList
        rcases Tx.figs_cases x.cps.toList with ⟨e, _⟩ | ⟨e, _⟩
        ·rw [e, e0] at h4; omega
        ·have := congrArg List.length e
         rw [List.length_cons, e0] at this
         omega
       rw [<- Tx.str_of] at r2
       refine ⟨_, rfl, fg x, 0, c, rfl, rfl, by decide, by decide, (by rw [hl]; omega), (by simpa using hc), rfl, _, rfl, ?_⟩
       by_cases z1 : (Tx.figs x.cps.toList).take 1 = [48]
       ·refine ifP (decide_eq_true ((n6 _ c hc).mpr z1)) ?_
        refine ⟨_, rfl, rfl, _, rfl, ?_⟩
        by_cases z2 : x.cps.toList = [48]
        ·have zz : ¬ ((Tx.figs x.cps.toList).take 1 = [48] /\ x.cps.toList ≠ [48]) := fun z => z.2 z2
         refine ifN (by rw [decide_eq_true ((lN x).mpr z2)]; exact Bool.false_ne_true) ?_
         refine ⟨_, rfl, fg x, _, rfl, r1, by omega, _, _, rfl, rfl, _, rfl, ?_⟩
         by_cases big : Tx.worth (Tx.figs x.cps.toList) > 100
         ·rw [if_pos (.inr big)] at k2
          exact ifP (decide_eq_true big) k2
         ·refine ifN (fun z => big (of_decide_eq_true z)) ?_
          rw [if_neg (by rintro (z | z); exact zz z; exact big z)] at k2
          exact ⟨_, rfl, x, _, rfl, r2, by omega, k2⟩
        ·refine ifP (by rw [decide_eq_false (fun z => z2 ((lN x).mp z))]; rfl) ?_
         rw [if_pos (.inl ⟨z1, z2⟩)] at k2
         exact k2
       ·have zz : ¬ ((Tx.figs x.cps.toList).take 1 = [48] /\ x.cps.toList ≠ [48]) := fun z => z1 z.1
        refine ifN (fun z => z1 ((n6 _ c hc).mp (of_decide_eq_true z))) ?_
        refine ⟨_, rfl, fg x, _, rfl, r1, by omega, _, _, rfl, rfl, _, rfl, ?_⟩
        by_cases big : Tx.worth (Tx.figs x.cps.toList) > 100
        ·rw [if_pos (.inr big)] at k2
         exact ifP (decide_eq_true big) k2
        ·refine ifN (fun z => big (of_decide_eq_true z)) ?_
         rw [if_neg (by rintro (z | z); exact zz z; exact big z)] at k2
         exact ⟨_, rfl, x, _, rfl, r2, by omega, k2⟩
    ·refine ifP (by rw [decide_eq_false (by rw [hl]; omega)]; rfl) ?_
     exact none1 (.inl fun z => h4 z.2) _ (Same.refl _)
   ·refine ifN (by rw [decide_eq_false (by rw [hl]; omega)]; exact Bool.false_ne_true) ?_
    exact ⟨_, rfl, bx (none1 (.inl fun z => h0 z.1) _ (Same.refl _))⟩
def uw : Sp := fun vs H Q _ => ∃ t : Str, vs = [.str t] /\ t.length <= 5000 /\ (Tx.okT t = true -> ∀ a H', Same H H' -> OwnTab H H' a (Tx.valT t) -> Q (.ref a) H') /\ (Tx.okT t = false -> ∀ H', Same H H' -> Q .non H')
def OwnV (H H' : Hp) (v : V) (r : List V) : Prop := ∃ a, v = .ref a /\ H a = none /\ H' a = some (.lst r)
theorem OwnV.mono {H H1 H2 : Hp} {v : V} {r : List V} (s : Same H1 H2) (h : OwnV H H1 v r) : OwnV H H2 v r := let ⟨a, e, n, q⟩ := h; ⟨a, e, n, s _ _ q⟩
def wv (w : Str) : V := vO (Tx.numO w)
theorem rm {H H' : Hp} : ∀ {ts : List Str} {ys : List V}, Paired (fun x y => ∀ r, x = V.str r -> OwnV H H' y ((Txt.split r Tx.blank).map wv)) (ts.map V.str) ys -> Paired (fun y r => OwnV H H' y (r.map wv)) ys (ts.map fun r => Txt.split r Tx.blank)
 | [], _, q => by cases q; exact .nil
 | t :: ts, _, q => by
  cases q with
  | cons q1 q2 => exact .cons (q1 t rfl) (rm q2)
theorem uU {t : Str} {r0 : List Str} (h : (Tx.rowsT t).headD [] = r0) : Tx.okT t = true ↔ (∀ r ∈ Tx.rowsT t, Tx.okWs r = true) /\ (Tx.rowsT t).length <= 4 /\ r0.length <= 4 /\ ∀ r ∈ Tx.rowsT t, r.length = r0.length := by
 unfold Tx.okT Tx.lensOk
 rw [h]
 simp only [Bool.and_eq_true, decide_eq_true_eq, List.all_eq_true]
 exact ⟨fun ⟨a, ⟨b, c⟩, d⟩ => ⟨a, b, c, d⟩, fun ⟨a, b, c, d⟩ => ⟨a, ⟨b, c⟩, d⟩⟩
theorem uT (r : List Str) : ((r.map wv).map fun v => decide (v = V.non)).any id = !Tx.okWs r := by
 unfold Tx.okWs
 rw [List.map_map, List.any_map, Bool.eq_iff_iff, Bool.not_eq_true', Bool.eq_false_iff, Ne, List.all_eq_true, List.any_eq_true]
 have key : ∀ w : Str, (id ∘ ((fun v => decide (v = V.non)) ∘ wv)) w = true ↔ ¬ (Tx.numO w).isSome = true := fun w => by
  show decide (wv w = V.non) = true ↔ _
  unfold wv vO
  cases Tx.numO w <;> simp
 constructor
 ·rintro ⟨w, hw, e⟩ z
  exact (key w).mp e (z w hw)
 ·intro z
  refine Classical.byContradiction fun n => z fun w hw => Classical.byContradiction fun e => n ⟨w, hw, (key w).mpr e⟩
theorem uJ {H H' : Hp} {v : V} {r : List Str} (h : OwnV H H' v (r.map wv)) (ok : Tx.okWs r = true) : OwnRow H H' v (Tx.valWs r) := by
 obtain ⟨a, e, n, q⟩ := h
 refine ⟨a, e, n, ?_⟩
 rw [q]
 unfold Tx.valWs
 rw [List.map_map]
 congr 2
 refine List.map_congr_left fun w hw => ?_
 have := List.all_eq_true.mp ok w hw
 show vO (Tx.numO w) = V.int ((Tx.numO w).getD 0)
 cases e : Tx.numO w with
 | none => rw [e] at this; cases this
 | some n => rfl
theorem mV {H H' : Hp} : ∀ {ys : List V} {R : List (List Str)}, Paired (fun y r => OwnV H H' y (r.map wv)) ys R -> (∀ r ∈ R, Tx.okWs r = true) -> Paired (OwnRow H H') ys (R.map Tx.valWs)
 | _, [], h, _ => by cases h; exact .nil
 | _, r :: R, h, ok => by
  cases h with
  | cons h1 h2 => exact .cons (uJ h1 (ok r List.mem_cons_self)) (mV h2 fun r' hr => ok r' (List.mem_cons_of_mem _ hr))
theorem qj (p : V -> Bool) : ∀ {xs ys : List V}, Paired (fun x y => y = V.bl (p x)) xs ys -> ys = (xs.map p).map V.bl
 | [], _, q => by cases q; rfl
 | x :: xs, _, q => by
  cases q with
  | cons q1 q2 => rw [qj p q2, q1]; rfl
abbrev iz : Stmt := top 29
theorem qM : FnScope ["_law_text", "_law_found", "_law_row"] ["_law_text"] (aG iz) := ⟨rfl, rfl, rfl, by decide +kernel, rfl, by decide +kernel, by decide +kernel⟩
theorem qm (F : FunM K mg "_law_in" iz ["_law_text"]) (T : Blt mg) (d7 : Def P w K mg base "_law_number" ["_law_word"] 1 lH) : Def P w K mg base "_law_in" ["_law_text"] 2 uw := by
 have S := qM
 refine Def.of F S (fun vs H Q E h => ?_) (fun f cdv A outer s H vs Q E hr h => ?_)
 ·obtain ⟨w, rfl, _⟩ := h
  rfl
 ·obtain ⟨t, rfl, ht, k1, k2⟩ := h
  refine ⟨_, (aA (pN (i := 1) rfl S.nd rfl rfl (N' := ["_law_row"]) (src := [none]) rfl (piL K (dR K PySem.F.plainAttrs_str PySem.F.slot_str_split PySem.F.type_str_split gJ (pv 0) (aa aC ao ak))) (fun _ _ _ _ _ => (aN (i := 0) (show (["_law_row"] : List Str).Nodup from by decide +kernel) rfl (Or.inl rfl))) (fun _ _ _ _ _ => a_) (fun _ _ _ _ _ => (bh rfl (N' := ["_law_word"]) (src := [none]) rfl (piL K (dR K PySem.F.plainAttrs_str PySem.F.slot_str_split PySem.F.type_str_split gJ (pv 0) (aa aC ao ak))) (fun _ _ _ _ _ => (aN (i := 0) (show (["_law_word"] : List Str).Nodup from by decide +kernel) rfl (Or.inl rfl))) (fun _ _ _ _ _ => a_) (fun _ _ _ _ _ => (aR d7 (hr.mono (by decide)) rfl (aa (pv 0) ao aj) (he := aj))))))
   (aA (bw (PW.pt (cQ (bc mQ (aF (dC K) (by rfl) T.len_ bI (aa (pv 1) ao aj) (he := aj)) az (aZ _)) (cI (bc mQ (aF (dC K) (by rfl) T.len_ bI (aa (bR (ixL K) (pv 1) az (fun _ _ => rfl)) ao aY) (he := aY)) az (aZ _)))))
    (aB (aK cO)) aV)
   (aA (iH PassesOwn.never rfl (piL K (pv 1)) (aN (i := 2) S.nd rfl (Or.inl rfl))
    (aB (bw (PW.pt (cQ (bc jA (aF (dC K) (by rfl) T.len_ bI (aa (pv 2) ao aj) (he := aj)) (aF (dC K) (by rfl) T.len_ bI (aa (bR (ixL K) (pv 1) az (fun _ _ => rfl)) ao aY) (he := aY)) (aZ _)) (cI (bH (aF (yc K) (by rfl) T.any_ vQ (aa (bh rfl (N' := ["_law_worth"]) (src := [none]) rfl (piL K (pv 2)) (fun _ _ _ _ _ => (aN (i := 0) (show (["_law_worth"] : List Str).Nodup from by decide +kernel) rfl (Or.inl rfl))) (fun _ _ _ _ _ => a_) (fun _ _ _ _ _ => (eZ qT (pv 0) cO (aZ _)))) ao aJ) (he := aJ))))))
    (aB (aK cO)) aV)))
   (aB (aK (pv 1)))))), ?_⟩
  have hl := PyProof.Rows.split_le t Tx.semi
  have hz : ((Txt.split t Tx.semi).map V.str).length <= sizeLine := by
   rw [List.length_map]
   have := dO ht
   omega
  refine ⟨_, rfl, rfl, t, Tx.semi, rfl, rfl, rfl, dO ht, fun q hq => ?_⟩
  have s2 := aq (o := .lst ((Txt.split t Tx.semi).map V.str)) hq
  have hs : SqL K (upd H q (.lst ((Txt.split t Tx.semi).map V.str))) q ((Txt.split t Tx.semi).map V.str) := SqL.of au
  generalize upd H q (.lst ((Txt.split t Tx.semi).map V.str)) = H2 at s2 hs ⊢
  refine ⟨q, rfl, ⟨_, hs⟩, aX (xs := (Txt.split t Tx.semi).map V.str) (fun x y H' => ∀ r, x = V.str r -> OwnV H H' y ((Txt.split r Tx.blank).map wv)) (fun _ _ _ _ s' h r e => (h r e).mono s') hs hz ?_ ?_⟩
  ·intro y hy H3 s3 Q' q'
   obtain ⟨r, hr', rfl⟩ := List.mem_map.mp hy
   have r5 := Nat.le_trans (jY hr') ht
   have hrl := PyProof.Rows.split_le r Tx.blank
   refine ⟨_, rfl, rfl, r, Tx.blank, rfl, rfl, rfl, dO r5, fun p hp => ?_⟩
   have s4 := aq (o := .lst ((Txt.split r Tx.blank).map V.str)) hp
   have hs4 : SqL K (upd H3 p (.lst ((Txt.split r Tx.blank).map V.str))) p ((Txt.split r Tx.blank).map V.str) := SqL.of au
   generalize upd H3 p (.lst ((Txt.split r Tx.blank).map V.str)) = H4 at s4 hs4 ⊢
   refine ⟨p, rfl, ⟨_, hs4⟩, aX (xs := (Txt.split r Tx.blank).map V.str) (fun x y _ => ∀ t, x = V.str t -> y = wv t) (fun _ _ _ _ _ h => h) hs4 (by rw [List.length_map]; have := dO r5; omega) ?_ ?_⟩
   ·intro z hzz H5 s5 Q5 q5
    obtain ⟨w', hw', rfl⟩ := List.mem_map.mp hzz
    exact ⟨_, rfl, w', rfl, Nat.le_trans (jY hw') r5, fun H6 s6 => q5 _ H6 s6 fun t' e => by cases e; rfl⟩
   ·intro zs H5 s5 pr b hb
    have e := jn id wv pr
    rw [List.map_id] at e
    subst e
    refine q' _ _ ((s4.trans s5).trans (aq hb)) fun r' e => ?_
    cases e
    exact ⟨b, rfl, (((s2.trans s3).trans s4).trans s5).free hb, au⟩
  ·intro ys H3 s3 pr a ha
   have pw := rm pr
   have s13 := s2.trans s3
   have fa := s13.free ha
   have ha4 : upd H3 a (.lst ys) a = some (.lst ys) := au
   have pw4 : Paired (fun y r => OwnV H (upd H3 a (.lst ys)) y (r.map wv)) ys (Tx.rowsT t) := pw.imp2 fun _ _ z => z.mono (aq ha)
   have s14 := s13.trans (aq (o := .lst ys) ha)
   generalize upd H3 a (.lst ys) = H4 at ha4 pw4 s14 ⊢
   have yl : ys.length = (Tx.rowsT t).length := pw4.length
   have yp : 0 < ys.length := by rw [yl]; exact Tx.rows_pos t
   obtain ⟨r0, er0, b0, eb0, fb0, hb0⟩ := pw4.get2 (List.getElem?_eq_getElem yp)
   have hd0 : (Tx.rowsT t).headD [] = r0 := by
    cases e : Tx.rowsT t with
    | nil => rw [e] at er0; cases er0
    | cons x R => rw [e] at er0; simpa using er0
   have okI := uU hd0
   have no : ¬ ((∀ r ∈ Tx.rowsT t, Tx.okWs r = true) /\ (Tx.rowsT t).length <= 4 /\ r0.length <= 4 /\ ∀ r ∈ Tx.rowsT t, r.length = r0.length) -> ∀ H', Same H4 H' -> Q .non H' := fun z H' s' => by
    refine k2 ?_ H' (s14.trans s')
    rw [Bool.eq_false_iff]
    exact fun y => z (okI.mp y)
   refine ⟨_, rfl, a, _, rfl, .inl (SqL.of ha4), _, _, rfl, rfl, _, rfl, ?_⟩
   by_cases h4 : ys.length <= 4
   ·refine ifN (fun z => by have := of_decide_eq_true z; omega) ?_
    refine ⟨_, rfl, a, ys, 0, _, rfl, rfl, SqL.of ha4, cG yp, b0, _, (by rw [eb0]), .inl (SqL.of hb0), _, _, rfl, rfl, _, rfl, ?_⟩
    by_cases c4 : r0.length <= 4
    ·refine ifN (fun z => by have := of_decide_eq_true z; rw [List.length_map] at this; omega) ?_
     refine ⟨_, rfl, a, rfl, ⟨_, SqL.of ha4⟩, mW (K := K) (a := a) (xs := ys) (fun i σ H' => ∃ o, σ = [some (.str t), some (.ref a), o] /\ Same H4 H' /\ ∀ r ∈ (Tx.rowsT t).take i, Tx.okWs r = true /\ r.length = r0.length)
      ⟨_, rfl, Same.refl _, fun r h => by simp at h⟩ ?_ ?_ ?_⟩
     ·rintro i σ H5 _ ⟨_, _, s5, _⟩
      exact SqL.of (s5 _ _ ha4)
     ·rintro i y σ H5 hi ⟨o, rfl, s5, hp⟩
      obtain ⟨r, er, b, rfl, fb, hb⟩ := pw4.get2 hi
      have hrm := List.mem_of_getElem? er
      refine ⟨_, rfl, b, _, rfl, .inl (SqL.of (s5 _ _ hb)), _, rfl, a, ys, 0, _, rfl, rfl, SqL.of (s5 _ _ ha4), cG yp, b0, _, (by rw [eb0]), .inl (SqL.of (s5 _ _ hb0)), rfl, _, rfl, ?_⟩
      by_cases hlen : r.length = r0.length
      ·refine ifN (by rw [decide_eq_true (by rw [List.length_map, List.length_map, hlen])]; exact Bool.false_ne_true) ?_
       refine ⟨_, rfl, b, rfl, ⟨_, SqL.of (s5 _ _ hb)⟩, aX (xs := r.map wv) (fun x y _ => y = .bl (decide (x = V.non))) (fun _ _ _ _ _ h => h) (SqL.of (s5 _ _ hb)) (by rw [List.length_map]; exact Nat.le_of_lt (aU (by omega))) ?_ ?_⟩
       ·intro x hx H6 s6 Q' q'
        exact ⟨_, rfl, rfl, q' _ H6 (Same.refl _) rfl⟩
       ·intro zs H6 s6 pr c hc
        have e := qj (fun v => decide (v = V.non)) pr
        subst e
        refine ⟨c, _, rfl, SqL.of au, _, rfl, ?_⟩
        rw [uT]
        have s7 := (s5.trans s6).trans (aq (o := .lst (((r.map wv).map fun v => decide (v = V.non)).map V.bl)) hc)
        cases hok : Tx.okWs r with
        | false => exact bx (no (fun z => by have := z.1 r hrm; rw [hok] at this; cases this) _ s7)
        | true =>
         refine bA ⟨_, rfl, s7, fun r' hr' => ?_⟩
         rw [List.take_add_one, er] at hr'
         rcases List.mem_append.mp hr' with z | z
         ·exact hp r' z
         ·have : r' = r := by simpa using z
          rw [this]
          exact ⟨hok, hlen⟩
      ·refine ifP (by rw [decide_eq_false (fun z => hlen (by have := V.int.inj z; rw [List.length_map, List.length_map] at this; exact Int.ofNat.inj this))]; rfl) ?_
       exact no (fun z => hlen (z.2.2.2 r hrm)) _ s5
     ·rintro σ H5 ⟨o, rfl, s5, hp⟩
      rw [yl, List.take_length] at hp
      refine ⟨_, rfl, k1 (okI.mpr ⟨fun r h => (hp r h).1, by omega, c4, fun r h => (hp r h).2⟩) a H5 (s14.trans s5) ⟨ys, fa, s5 _ _ ha4, ?_⟩⟩
      exact (mV pw4 fun r h => (hp r h).1).imp2 fun _ _ z => z.mono s5
    ·refine ifP (decide_eq_true (by rw [List.length_map]; omega)) ?_
     exact no (fun z => c4 z.2.2.1) _ (Same.refl _)
   ·refine ifP (decide_eq_true (by omega)) ?_
    exact no (fun z => h4 (by rw [yl]; exact z.2.1)) _ (Same.refl _)
def oW : Sp := fun vs H Q _ => ∃ (d : D) (v : V), vs = [v] /\ Lay H d v /\ (∀ t, d = .str t -> t.length <= 5000) /\ (∀ U, eV d = some U -> ∀ p a H', Same H H' -> H' p = some (.tup [.str "made", .ref a]) -> OwnTab H H' a U -> Q (.ref p) H') /\ (eV d = none -> ∀ p H', Same H H' -> H' p = some (.tup [.str "refused", .non]) -> Q (.ref p) H')
abbrev fK : Stmt := top 30
theorem lY : FnScope ["_law_text", "error", "_law_others"] ["_law_text"] (aG fK) := ⟨rfl, rfl, rfl, by decide +kernel, rfl, by decide +kernel, by decide +kernel⟩
theorem mF {CT CM CN CU CX CC : Addr} (F : FunM K mg "_law_asked" fK ["_law_text"]) (T : Blt mg) (fZ : mg "CardError" = some (.ref CC)) (gH : mg "BadTable" = some (.ref CT)) (fj : mg "BadMixture" = some (.ref CM)) (jh : mg "NoCard" = some (.ref CN)) (jk : mg "Unlike" = some (.ref CU)) (iT : mg "BadText" = some (.ref CX))
  (Y_BadText : ExcT K CX) (Z_BadText : PySem.W.exmOne K (.ref CX) (.ref CC) = some true)
  (cD : PySem.W.kitOne K (.ref CX) (.ref CT) = some false) (b_ : PySem.W.kitOne K (.ref CX) (.ref CM) = some false) (dh : PySem.W.kitOne K (.ref CX) (.ref CN) = some false) (dg : PySem.W.kitOne K (.ref CX) (.ref CU) = some false) (cT : PySem.W.kitOne K (.ref CX) (.ref CX) = some true)
  (gB : DefX P w K mg base "read" ["text"] 4 (kI CX)) : Def P w K mg base "_law_asked" ["_law_text"] 5 oW := by
 have S := lY
 refine Def.of F S (fun vs H Q E h => ?_) (fun f cdv A outer s H vs Q E hr h => ?_)
 ·obtain ⟨d, v, rfl, _⟩ := h
  rfl
 ·obtain ⟨d, v, rfl, l, h5, k1, k2⟩ := h
  refine ⟨_, aA (vW (i := 1) (E := fun cls _ H1 => cls = .ref CX /\ Same H H1 /\ eV d = none) rfl rfl rfl S.nd rfl rfl rfl rfl fZ (fun pins => aB (aK (fH (aa aC (aa (j5 gB (hr.mono (by decide)) rfl wY (aa (pv 0) ao aj) (he := aj)) ao dH) ak))))
   (fun ea => aA (bf (i := 2) S.nd rfl (Or.inl rfl) (ur (aF (jK K) (by rfl) T.isinstance_ aO (aa (pv 1) (aa (peC gH rfl) ao aj) aj) (he := aj)) (ur (aF (jK K) (by rfl) T.isinstance_ aO (aa (pv 1) (aa (peC fj rfl) ao aj) aj) (he := aj)) (iC (aF (jK K) (by rfl) T.isinstance_ aO (aa (pv 1) (aa (peC jh rfl) ao aj) aj) (he := aj))))))
    (aB (bw (PW.pt (cQ (bH (pv 2)) (cQ (bH (aF (jK K) (by rfl) T.isinstance_ aO (aa (pv 1) (aa (peC jk rfl) ao aj) aj) (he := aj))) (cI (bC (bH (aF (jK K) (by rfl) T.isinstance_ aO (aa (pv 1) (aa (peC iT rfl) ao aj) aj) (he := aj))))))))
     (aB (aK (fH (aa aC (aa cO ao ak) ak)))) aV))))
   (aB (aK (fH (aa aC (aa cO ao ak) ak)))), ?_⟩
  refine ⟨?_, ?_⟩
  ·refine ⟨_, rfl, d, v, rfl, l, h5, fun U hU a H' s' ow => ⟨(by show 2 <= sizeLine; decide), fun p hp => k1 U hU p a _ (s'.trans (aq hp)) au (ow.mono (aq hp))⟩, fun n H' s' => ⟨rfl, s', n⟩⟩
  ·rintro cls H1 ea ⟨rfl, s1, n⟩ nea
   refine ⟨Z_BadText, ?_⟩
   have s2 := s1.trans (aq (o := .ext (ExcAt ea (.ref CX))) nea)
   have ee : upd H1 ea (.ext (ExcAt ea (.ref CX))) ea = some (.ext (ExcAt ea (.ref CX))) := au
   generalize upd H1 ea (.ext (ExcAt ea (.ref CX))) = H2 at s2 ee ⊢
   refine ⟨_, rfl, ea, CX, _, false, rfl, ee, Y_BadText, .inl ⟨_, rfl, cD⟩, false, rfl, bA ?_⟩
   refine ⟨_, rfl, ea, CX, _, false, rfl, ee, Y_BadText, .inl ⟨_, rfl, b_⟩, false, rfl, bA ?_⟩
   refine ⟨_, rfl, ea, CX, _, false, rfl, ee, Y_BadText, .inl ⟨_, rfl, dh⟩, ?_⟩
   refine bZ ?_
   refine ⟨_, rfl, false, rfl, bA ?_⟩
   refine ⟨_, rfl, ea, CX, _, false, rfl, ee, Y_BadText, .inl ⟨_, rfl, dg⟩, false, rfl, bA ?_⟩
   refine ⟨_, rfl, ea, CX, _, true, rfl, ee, Y_BadText, .inl ⟨_, rfl, cT⟩, true, rfl, bA ?_⟩
   exact ⟨(by show 2 <= sizeLine; decide), fun p hp => k2 n p _ (s2.trans (aq hp)) au⟩
def mY : Sp := fun vs H Q _ => ∃ (t : Str) (c : Int), vs = [.str t, .int c] /\ t.length <= 200 /\ ∀ z H', Same H H' -> z.length <= 1000 -> Q (.str z) H'
def signs12 : List Str := ["0", "1", "9", " ", "-", "+", ";", "a", "\n", "\t", "_", "."]
theorem uN {i : Int} (h0 : 0 <= i) (h1 : i < 12) : ∃ z : Str, atI (signs12.map V.str) i = some (.str z) /\ z.length <= 1 := by
 have hc : i = 0 \/ i = 1 \/ i = 2 \/ i = 3 \/ i = 4 \/ i = 5 \/ i = 6 \/ i = 7 \/ i = 8 \/ i = 9 \/ i = 10 \/ i = 11 := by omega
 rcases hc with rfl | rfl | rfl | rfl | rfl | rfl | rfl | rfl | rfl | rfl | rfl | rfl <;> exact ⟨_, rfl, by decide⟩
theorem len_cat (a b : Str) : (a ++ b).length = a.length + b.length := Array.size_append ..
abbrev fu : Stmt := top 31
theorem mC : FnScope ["_law_text", "_law_cell", "_law_at", "_law_signs", "_law_sign", "_law_way"] ["_law_text", "_law_cell"] (aG fu) := ⟨rfl, rfl, rfl, by decide +kernel, rfl, by decide +kernel, by decide +kernel⟩
theorem lZ (F : FunM K mg "_law_other" fu ["_law_text", "_law_cell"]) (T : Blt mg) (bu : Def P w K mg base "_law_draw" ["_law_cell", "_law_k", "_law_many"] 1 jZ) : Def P w K mg base "_law_other" ["_law_text", "_law_cell"] 2 mY := by
 have S := mC
 refine Def.of F S (fun vs H Q E h => ?_) (fun f cdv A outer s H vs Q E hr h => ?_)
 ·obtain ⟨t, c, rfl, _⟩ := h
  rfl
 ·obtain ⟨t, c, rfl, ht, k⟩ := h
  have hx : t.length <= sizeLine := by have := dO (n := t.length) (by omega); omega
  refine ⟨_, (aA (bf (i := 2) S.nd rfl (Or.inl rfl) (aR bu (hr.mono (by decide)) rfl (aa (pv 1) (aa az (aa (aM cH (aF iy (by rfl) T.len_ bI (aa (pv 0) ao aj) (he := aj)) az) ao bV) ak) aj) (he := aj)))
   (aA (bf (i := 3) S.nd rfl (Or.inl rfl) (cM (aa aC (aa aC (aa aC (aa aC (aa aC (aa aC (aa aC (aa aC (aa aC (aa aC (aa aC (aa aC ao ak) ak) ak) ak) ak) ak) ak) ak) ak) ak) ak) ak)))
   (aA (bf (i := 4) S.nd rfl (Or.inl rfl) (bR (ixL K) (pv 3) (aR bu (hr.mono (by decide)) rfl (aa (pv 1) (aa az (aa (aF (dC K) (by rfl) T.len_ bI (aa (pv 3) ao aj) (he := aj)) ao dH) ak) aj) (he := aj)) (fun _ _ => rfl)))
   (aA (bf (i := 5) S.nd rfl (Or.inl rfl) (aR bu (hr.mono (by decide)) rfl (aa (pv 1) (aa az (aa az ao ak) ak) aj) (he := aj)))
   (aA (bw (bc fW (pv 5) az (aZ _))
    (aB (aK (aM cR (aM cR (cF gw (pv 0) dm (di (pv 2))) (pv 4)) (cF gw (pv 0) (di (pv 2)) dm)))) aV)
   (aB (aK (aM cR (aM cR (cF gw (pv 0) dm (di (pv 2))) (bR (ixL K) (cM (aa aC (aa (pv 4) ao aj) ak)) (aM jF (pv 5) az) (fun _ _ => rfl))) (cF gw (pv 0) (di (aM cH (pv 2) az)) dm))))))))), ?_⟩
  refine ⟨_, rfl, _, rfl, t, rfl, hx, _, _, rfl, rfl, c, 1, _, rfl, by omega, ?_⟩
  have d1 := Fr.draw_nn c 1 (show (0 : Int) < (t.length : Int) + 1 by omega)
  generalize Fr.draw c 1 ((t.length : Int) + 1) = p at d1 ⊢
  refine ⟨(by show 12 <= sizeLine; decide), fun l hl => ?_⟩
  have s1 := aq (o := .lst (signs12.map V.str)) hl
  have hs : SqL K (upd H l (.lst (signs12.map V.str))) l (signs12.map V.str) := SqL.of au
  refine bZ ?_
  have d2 := Fr.draw_nn c 2 (show (0 : Int) < 12 by decide)
  have d3 := Fr.draw_lt c 2 (show (0 : Int) < 12 by decide)
  obtain ⟨sg, hsg, lsg⟩ := uN d2 d3
  refine ⟨_, rfl, _, rfl, _, rfl, l, _, rfl, .inl hs, c, 2, 12, rfl, by decide, l, _, _, _, rfl, rfl, hs, hsg, ?_⟩
  refine bZ ?_
  have d4 := Fr.draw_nn c 3 (show (0 : Int) < 3 by decide)
  have d5 := Fr.draw_lt c 3 (show (0 : Int) < 3 by decide)
  refine ⟨_, rfl, c, 3, 3, rfl, by decide, ?_⟩
  refine bZ ?_
  generalize Fr.draw c 3 3 = wy at d4 d5 ⊢
  have b1 := Txt.slice_le t none (some p)
  have b2 := Txt.slice_le t (some p) none
  have b3 := Txt.slice_le t (some (p + 1)) none
  have big : sizeLine = 16777216 := PySem.sizeLine_eq
  refine ⟨_, rfl, rfl, _, rfl, ?_⟩
  by_cases w0 : wy = 0
  ·refine ifP (decide_eq_true (by rw [w0])) ?_
   refine ⟨_, rfl, _, rfl, p, rfl, t, rfl, hx, _, rfl, _, _, rfl, rfl, by omega, _, rfl, _, rfl, p, rfl, t, rfl, hx, _, _, rfl, rfl, by rw [len_cat]; omega, k _ _ s1 ?_⟩
   rw [len_cat, len_cat]
   omega
  ·refine ifN (fun z => w0 (V.int.inj (of_decide_eq_true z))) ?_
   have hc : wy = 1 \/ wy = 2 := by omega
   obtain ⟨mid, hm, lm⟩ : ∃ mid : Str, atI [V.str (Str.ofString ""), V.str sg] (wy - 1) = some (.str mid) /\ mid.length <= 1 := by
    rcases hc with rfl | rfl
    ·exact ⟨_, rfl, by decide⟩
    ·exact ⟨sg, rfl, lsg⟩
   refine ⟨_, rfl, _, rfl, p, rfl, t, rfl, hx, _, rfl, (by show 2 <= sizeLine; decide), fun q hq => ?_⟩
   refine ⟨_, rfl, _, _, rfl, rfl, q, _, _, _, rfl, rfl, SqL.of au, hm, _, _, rfl, rfl, by omega, _, rfl, _, rfl, _, _, rfl, rfl, p + 1, rfl, t, rfl, hx, _, _, rfl, rfl, by rw [len_cat]; omega, k _ _ (s1.trans (aq hq)) ?_⟩
   rw [len_cat, len_cat]
   omega
theorem vq {X : Cx} : cz (CX1 X.prog X.w) X (fun _ _ _ => False) := by
 intro pins σ H s e s' I h
 obtain ⟨ea, cls, a0, B, H', rfl, os, bare, fl, un, hok, trk, cov, hE⟩ := h
 exact hE.elim
theorem lK (a : Array Nat) : ∀ (n : Nat) (b : Array Nat), ((List.replicate n a).foldl (· ++ ·) b).size = b.size + n * a.size
 | 0, b => by simp
 | n + 1, b => by
  rw [List.replicate_succ, List.foldl_cons, lK a n, Array.size_append, Nat.add_mul]
  omega
theorem uc : MulOk (Str.ofString "9") 4000 := ⟨by decide, fun _ _ => by decide, fun _ _ => by decide⟩
theorem u_ (x : Str) (n : Int) : (Txt.mul x n).length <= n.toNat * x.length := by
 unfold Txt.mul
 split
 ·exact Nat.zero_le _
 ·split
  ·rename_i h1 h2
   rcases Bool.or_eq_true_iff.mp h2 with h | h
   ·have e : n = 1 := by simpa using h
    rw [e]
    show x.length <= 1 * x.length
    omega
   ·have e : x.length = 0 := by simpa using h
    rw [e]
    omega
  ·have e := lK x.cps n.toNat #[]
   show Array.size _ <= _
   rw [e]
   show 0 + n.toNat * x.cps.size <= n.toNat * x.cps.size
   omega
theorem rM : (Txt.mul (Str.ofString "9") 4000).length <= 5000 := by
 refine Nat.le_trans (u_ _ _) ?_
 have e : (Str.ofString "9").length = 1 := by decide +kernel
 rw [e]
 decide
def ts15 : List Str := ["", " ", ";", "; ", "0", "-0", "00", "100", "101", "-100", "-101", "1;2", "1; 2 3", "1 2; 3", "1  2"]
theorem uf : ∀ z ∈ ts15, z.length <= 5000 := fun z hz => by
 have := List.all_eq_true.mp (show ts15.all (fun z => decide (z.length <= 5000)) = true by decide +kernel) z hz
 exact of_decide_eq_true this
def ts9 (x : Str) : List Str := [x, x ++ Str.ofString "; ", x ++ Str.ofString "\n", "1 2 3 4 5", "1; 2; 3; 4; 5", Txt.mul (Str.ofString "9") 4000, "1_0", "+1", "1-"]
theorem uE {x : Str} (h : x.length <= 100) : ∀ z ∈ ts9 x, z.length <= 5000 := by
 intro z hz
 have e1 : (Str.ofString "; ").length = 2 := by decide +kernel
 have e2 : (Str.ofString "\n").length = 1 := by decide +kernel
 unfold ts9 at hz
 simp only [List.mem_cons, List.not_mem_nil, or_false] at hz
 rcases hz with rfl | rfl | rfl | rfl | rfl | rfl | rfl | rfl | rfl
 ·omega
 ·rw [len_cat, e1]; omega
 ·rw [len_cat, e2]; omega
 ·decide +kernel
 ·decide +kernel
 ·exact rM
 ·decide +kernel
 ·decide +kernel
 ·decide +kernel
def ts2 : List Str := ["1 2 ", "--1"]
theorem uC : ∀ z ∈ ts2, z.length <= 5000 := fun z hz => by
 have := List.all_eq_true.mp (show ts2.all (fun z => decide (z.length <= 5000)) = true by decide +kernel) z hz
 exact of_decide_eq_true this
abbrev eX : Stmt := top 32
theorem wu : FnScope ["_law_script", "_law_rows", "_law_columns", "_law_table_here", "_law_handed", "_law_text", "_law_texts", "_law_k", "_law_some", "_law_due", "_law_came", "_law_found", "_law_bad"] ["_law_script"] (aG eX) := ⟨rfl, rfl, rfl, by decide +kernel, rfl, by decide +kernel, by decide +kernel⟩
theorem vp {CX : Addr} {f : Addr} {fd : FuncData} (F : Fun K "law" "law" eX f fd) (T : Blt mg) (bL : Def P w K mg base "_law_cell_at" ["_law_script", "_law_k"] 1 (qd K)) (fP : Def P w K mg base "_law_shape" ["_law_cell"] 1 nJ)
  (fB : Def P w K mg base "_law_table" ["_law_cell", "_law_rows", "_law_columns"] 2 lg) (fQ : Def P w K mg base "written" ["table"] 5 jw) (fM : Def P w K mg base "_law_other" ["_law_text", "_law_cell"] 2 mY) (il : Def P w K mg base "_law_in" ["_law_text"] 2 uw)
  (dz : Def P w K mg base "_law_asked" ["_law_text"] 5 oW) (gB : DefX P w K mg base "read" ["text"] 4 (kI CX)) : FnOk P w K mg base CX0 7 f fd ["_law_script"] (jy K) := by
 have S := wu
 refine F.ok S (fun vs H Q E h => ?_) (fun cdv A outer s H vs Q E hr h => ?_)
 ·obtain ⟨a, ns, rfl, _⟩ := h
  rfl
 ·obtain ⟨a, ns, rfl, hS, hlen, k⟩ := h
  refine ⟨_, (aA (nA (aR fP (hr.mono (by decide)) rfl (aa (aR bL (hr.mono (by decide)) rfl (aa (pv 0) (aa az ao ak) aj) (he := aj)) ao dH) (he := dH)) (pgT K (n := 2) (dG (aN (i := 1) S.nd rfl (Or.inl rfl)) (dG (aN (i := 2) S.nd rfl (Or.inl rfl)) kh))))
   (aA (bf (i := 3) S.nd rfl (Or.inl rfl) (aR fB (hr.mono (by decide)) rfl (aa (aR bL (hr.mono (by decide)) rfl (aa (pv 0) (aa az ao ak) aj) (he := aj)) (aa (pv 1) (aa (pv 2) ao aj) aj) dH) (he := dH)))
   (aA (pN (i := 4) rfl S.nd rfl rfl (N' := ["_law_row"]) (src := [none]) rfl (piL K (pv 3)) (fun _ _ _ _ _ => (aN (i := 0) (show (["_law_row"] : List Str).Nodup from by decide +kernel) rfl (Or.inl rfl))) (fun _ _ _ _ _ => a_) (fun _ _ _ _ _ => (cN (uV K) (by rfl) T.list_ eY (aa (pv 0) ao aj) (he := aj))))
   (aA (bf (i := 5) S.nd rfl (Or.inl rfl) (dR K PySem.F.plainAttrs_str PySem.F.slot_str_join PySem.F.type_str_join (jD K) aC (aa (bh rfl (N' := ["_law_row"]) (src := [none]) rfl (piL K (pv 3)) (fun _ _ _ _ _ => (aN (i := 0) (show (["_law_row"] : List Str).Nodup from by decide +kernel) rfl (Or.inl rfl))) (fun _ _ _ _ _ => a_) (fun _ _ _ _ _ => (dR K PySem.F.plainAttrs_str PySem.F.slot_str_join PySem.F.type_str_join (jD K) aC (aa (bh rfl (N' := ["_law_worth"]) (src := [none]) rfl (piL K (pv 0)) (fun _ _ _ _ _ => (aN (i := 0) (show (["_law_worth"] : List Str).Nodup from by decide +kernel) rfl (Or.inl rfl))) (fun _ _ _ _ _ => a_) (fun _ _ _ _ _ => (cN fG (by rfl) T.str_ jq (aa (pv 0) ao aj) (he := aj)))) ao aJ)))) ao aJ)))
   (aA (bw (PW.pt (cQ (bc jA (aR fQ (hr.mono (by decide)) rfl (aa (pv 4) ao aj) (he := aj)) (pv 5) (aZ _)) (cI (bc (tD K hr.units) (pv 4) (pv 3) (aZ _)))))
    (aB (aK du)) aV)
   (aA (bf (i := 6) S.nd rfl (Or.inl rfl) (cM (aa aC (aa aC (aa aC (aa aC (aa aC (aa aC (aa aC (aa aC (aa aC (aa aC (aa aC (aa aC (aa aC (aa aC (aa aC ao ak) ak) ak) ak) ak) ak) ak) ak) ak) ak) ak) ak) ak) ak) ak)))
   (aA (bf (i := 6) S.nd rfl (Or.inl rfl) (aM mU (pv 6) (cM (aa (pv 5) (aa (aM cR (pv 5) aC) (aa (aM cR (pv 5) aC) (aa aC (aa aC (aa (aM qy aC az) (aa aC (aa aC (aa aC ao ak) ak) ak) bV) ak) ak) bV) bV) aj))))
   (aA (bf (i := 6) S.nd rfl (Or.inl rfl) (aM mU (pv 6) (cM (aa aC (aa aC ao ak) ak))))
   (aA (iH PassesOwn.never rfl (fV rfl T.range_ (aa az ao ak)) (aN (i := 7) S.nd rfl (Or.inl rfl))
    (aB (iU (mJ PySem.F.plainAttrs_list PySem.F.slot_list_append PySem.F.type_list_append iu (pv 6) (aa (aR fM (hr.mono (by decide)) rfl (aa (pv 5) (aa (aM cH (aR bL (hr.mono (by decide)) rfl (aa (pv 0) (aa (aM cH az (pv 7)) ao bV) aj) (he := aj)) (aM fJ az (pv 7))) ao bV) aj) (he := aj)) ao dH)))))
   (aA (iH PassesOwn.never rfl (piL K (pv 6)) (aN (i := 8) S.nd rfl (Or.inl rfl))
    (aA (bf (i := 9) S.nd rfl (Or.inl rfl) (aR il (hr.mono (by decide)) rfl (aa (pv 8) ao aj) (he := aj)))
   (aA (nA (aR dz (hr.mono (by decide)) rfl (aa (pv 8) ao aj) (he := aj)) (pgT K (n := 2) (dG (aN (i := 10) S.nd rfl (Or.inl rfl)) (dG (aN (i := 11) S.nd rfl (Or.inl rfl)) kh))))
   (aA (bw (bc jA (pv 10) (bR (ixL K) (cM (aa aC (aa aC ao ak) ak)) (cN qZ (by rfl) T.int_ iw (aa (eZ qT (pv 9) cO (aZ _)) ao jz) (he := jz)) (fun _ _ => rfl)) (aZ _))
    (aB (aK du)) aV)
   (aA (bw (PW.pt (oM (bc pY (pv 9) cO (aZ _)) (kO (PW.pt (cQ (bC (bH (aF (gb K) (by rfl) T.isinstance_ aO (aa (pv 11) (aa (cA (v := .ty "list") rfl T.list_ eY rfl) ao aj) aj) (he := aj)))) (cQ (bc (tD K hr.units) (pv 11) (pv 9) (aZ _)) (cI (bc jA (aR fQ (hr.mono (by decide)) rfl (aa (pv 11) ao aj) (he := aj)) (pv 8) (aZ _)))))))))
    (aB (aK du)) aV)
   (aB (bw (bc pY (pv 9) cO (aZ _))
    (aA (iU (mJ PySem.F.plainAttrs_list PySem.F.slot_list_append PySem.F.type_list_append iu (bR (ixL K) (pv 11) az (fun _ _ => rfl)) (aa az ao ak)))
   (aB (bw (bc (tD K hr.units) (j5 gB (hr.mono (by decide)) rfl vq (aa (pv 8) ao aj) (he := aj)) (pv 9) (aZ _))
    (aB (aK du)) aV))) aV)))))))
   (aA (bf (i := 12) S.nd rfl (Or.inl rfl) (bR (ixL K) (cM (aa cO (aa az (aa (cM (aa aC ao ak)) (aa (cM (aa (cM (aa az ao ak)) ao km)) (aa du ao ak) km) km) ak) ak)) (aM dD (aR bL (hr.mono (by decide)) rfl (aa (pv 0) (aa az ao ak) aj) (he := aj)) az) (fun _ _ => rfl)))
   (aB (aK (eZ fW (bR (ixT K) (aR dz (hr.mono (by decide)) rfl (aa (pv 12) ao aj) (he := aj)) az (fun _ _ => rfl)) aC (aZ _))))))))))))))), ?_⟩
  refine ⟨_, rfl, a, ns, 0, rfl, hS, by decide, _, rfl, fun p m n H1 m1 m4 n1 n4 s1 hp => ⟨p, _, rfl, SqT.of hp, rfl, _, _, rfl, _, _, rfl, rfl, ?_⟩⟩
  refine ⟨_, rfl, a, ns, 1, rfl, s1.seq hS, by decide, _, rfl, _, rfl, _, m, n, rfl, m1, m4, n1, n4, fun t U H2 s2 hU g => ?_⟩
  have s12 := s1.trans s2
  obtain ⟨vs, ht, hp2⟩ := id hU
  refine ⟨_, rfl, t, rfl, ⟨_, SqL.of ht⟩, qH (fun r => r) hU (by rw [g.rows]; omega) ?_ ?_⟩
  ·intro r hr' b hb H4 s4 Q' q
   exact ⟨_, rfl, b, _, rfl, .inl (SqL.of (s4 _ _ hb)), fun l hl => q _ _ (aq hl) ⟨l, rfl, s4.free hl, au⟩⟩
  ·intro ys H4 s4 pr hd hhd
   rw [List.map_id'] at pr
   have own := OwnTab.lay s4 hhd pr
   have s5 : Same H2 _ := s4.trans (aq (o := .lst ys) hhd)
   generalize upd H4 hd (.lst ys) = H5 at own s5 ⊢
   have hH := own.tab
   have hU5 := hU.mono s5
   have sA := s12.trans s5
   obtain ⟨vs5, ht5, hp5⟩ := id hU5
   have n4' := g.n4
   have m4' := g.m4
   have hl5 : vs5.length = m := by rw [hp5.length, g.rows]
   refine bZ ?_
   refine ⟨rfl, _, rfl, t, rfl, ⟨_, SqL.of ht5⟩, aX (xs := vs5) (fun x y _ => ∀ r, IsRow H5 x r -> y = .str (Tx.wrow r)) (fun _ _ _ _ _ h => h) (SqL.of ht5) (by rw [hl5]; exact Nat.le_of_lt (aU (by omega))) ?_ ?_⟩
   ·intro x hx H6 s6 Q' q
    obtain ⟨r, hr', b, rfl, hb⟩ := hp5.mem2 hx
    refine ⟨rfl, _, rfl, b, rfl, ⟨_, SqL.of (s6 _ _ hb)⟩, aX (xs := r.map V.int) (fun x y _ => ∀ i, x = .int i -> y = .str (Tx.sh i)) (fun _ _ _ _ _ h => h) (SqL.of (s6 _ _ hb)) (by rw [List.length_map, g.cols r hr']; exact Nat.le_of_lt (aU (by omega))) ?_ ?_⟩
    ·intro x hx' H7 s7 Q7 q7
     obtain ⟨i, hi, rfl⟩ := List.mem_map.mp hx'
     have hb' := g.num r hr' i hi
     refine ⟨_, rfl, i, rfl, j6 hb'.1 hb'.2, q7 _ H7 (Same.refl _) fun j e => ?_⟩
     cases e
     rfl
    ·intro zs H7 s7 p7 q7 hq7
     have e := gm Tx.sh (iQ r) p7
     subst e
     refine ⟨_, q7, _, rfl, rfl, SqL.of au, nQ (g.num r hr') (by rw [g.cols r hr']; exact n4'), q _ _ (s7.trans (aq hq7)) fun r' h' => ?_⟩
     obtain ⟨b', e, hb'⟩ := h'
     cases e
     rw [hb] at hb'
     have e2 : r.map V.int = r'.map V.int := HO.lst.inj (Option.some.inj hb')
     rw [List.map_inj_right (fun x y z => V.int.inj z) |>.mp e2]
     rfl
   ·intro zs H6 s6 p6 q6 hq6
    have e := gm Tx.wrow hp5 p6
    subst e
    refine ⟨_, q6, _, rfl, rfl, SqL.of au, n8 g, ?_⟩
    have s56 := s6.trans (aq (o := .lst ((U.map Tx.wrow).map V.str)) hq6)
    generalize upd H6 q6 (.lst ((U.map Tx.wrow).map V.str)) = H7 at s56 ⊢
    have tl : (Tx.wr U).length <= 100 := vG g
    refine bZ ?_
    refine ⟨_, rfl, hd, U, m, n, rfl, hH.mono s56, g, fun H8 s8 => ⟨_, rfl, rfl, _, rfl, ?_⟩⟩
    have s58 := s56.trans s8
    refine ifN (by rw [decide_eq_true (show V.str (Tx.wr U) = V.str (Txt.join (Str.ofString "; ") (U.map Tx.wrow)) from rfl)]; exact Bool.false_ne_true) ?_
    refine ⟨_, rfl, _, rfl, _, _, (hH.mono s58).rep, (hU5.mono s58).rep, jm U U, Nat.le_trans (jX U) (by decide), _, rfl, ?_⟩
    refine qI (gG _) ?_
    have sB := sA.trans s58
    have big : sizeLine = 16777216 := PySem.sizeLine_eq
    have e1 : (Str.ofString "; ").length = 2 := by decide +kernel
    have e2 : (Str.ofString "\n").length = 1 := by decide +kernel
    refine ⟨(by show 15 <= sizeLine; decide), fun l1 hl1 => ?_⟩
    have t1 := aq (o := .lst (ts15.map V.str)) hl1
    have i1 : upd H8 l1 (.lst (ts15.map V.str)) l1 = some (.lst (ts15.map V.str)) := au
    refine bZ ?_
    change oY _ _ _ _ (upd H8 l1 (.lst (ts15.map V.str)))
    generalize upd H8 l1 (.lst (ts15.map V.str)) = H9 at t1 i1 ⊢
    refine ⟨_, rfl, _, rfl, _, rfl, _, _, rfl, rfl, (by show (Tx.wr U).length + _ <= _; rw [e1]; omega), _, rfl, _, _, rfl, rfl, (by show (Tx.wr U).length + _ <= _; rw [e2]; omega), _, _, rfl, rfl, uc, (by show 9 <= sizeLine; decide), fun l2 hl2 => ?_⟩
    have t2 := aq (o := .lst ((ts9 (Tx.wr U)).map V.str)) hl2
    have i2 : upd H9 l2 (.lst ((ts9 (Tx.wr U)).map V.str)) l2 = some (.lst ((ts9 (Tx.wr U)).map V.str)) := au
    refine ⟨l1, l2, ts15.map V.str, (ts9 (Tx.wr U)).map V.str, rfl, rfl, t2 _ _ i1, i2, (by show 24 <= sizeLine; decide), fun l3 hl3 => ?_⟩
    have t3 := aq (o := .lst (ts15.map V.str ++ (ts9 (Tx.wr U)).map V.str)) hl3
    have i3 : upd (upd H9 l2 (.lst ((ts9 (Tx.wr U)).map V.str))) l3 (.lst (ts15.map V.str ++ (ts9 (Tx.wr U)).map V.str)) l3 = some (.lst (ts15.map V.str ++ (ts9 (Tx.wr U)).map V.str)) := au
    refine bZ ?_
    change oY _ _ _ _ (upd (upd H9 l2 (.lst ((ts9 (Tx.wr U)).map V.str))) l3 (.lst (ts15.map V.str ++ (ts9 (Tx.wr U)).map V.str)))
    have t23 : Same H9 (upd (upd H9 l2 (.lst ((ts9 (Tx.wr U)).map V.str))) l3 (.lst (ts15.map V.str ++ (ts9 (Tx.wr U)).map V.str))) := t2.trans t3
    generalize upd (upd H9 l2 (.lst ((ts9 (Tx.wr U)).map V.str))) l3 (.lst (ts15.map V.str ++ (ts9 (Tx.wr U)).map V.str)) = HA at t23 i3 ⊢
    refine ⟨_, rfl, (by show 2 <= sizeLine; decide), fun l4 hl4 => ?_⟩
    have t4 := aq (o := .lst (ts2.map V.str)) hl4
    have i4 : upd HA l4 (.lst (ts2.map V.str)) l4 = some (.lst (ts2.map V.str)) := au
    refine ⟨l3, l4, ts15.map V.str ++ (ts9 (Tx.wr U)).map V.str, ts2.map V.str, rfl, rfl, t4 _ _ i3, i4, (by show 26 <= sizeLine; decide), fun l5 hl5 => ?_⟩
    have t5 := aq (o := .lst (ts15.map V.str ++ (ts9 (Tx.wr U)).map V.str ++ ts2.map V.str)) hl5
    have eT : ts15.map V.str ++ (ts9 (Tx.wr U)).map V.str ++ ts2.map V.str = (ts15 ++ ts9 (Tx.wr U) ++ ts2).map V.str := by rw [List.map_append, List.map_append]
    have i5 : upd (upd HA l4 (.lst (ts2.map V.str))) l5 (.lst (ts15.map V.str ++ (ts9 (Tx.wr U)).map V.str ++ ts2.map V.str)) l5 = some (.lst ((ts15 ++ ts9 (Tx.wr U) ++ ts2).map V.str)) := by rw [<- eT]; exact au
    have n5 : H8 l5 = none := ((t1.trans t23).trans t4).free hl5
    have t45 : Same H8 (upd (upd HA l4 (.lst (ts2.map V.str))) l5 (.lst (ts15.map V.str ++ (ts9 (Tx.wr U)).map V.str ++ ts2.map V.str))) := (t1.trans t23).trans (t4.trans t5)
    refine bZ ?_
    change oY _ _ _ _ (upd (upd HA l4 (.lst (ts2.map V.str))) l5 (.lst (ts15.map V.str ++ (ts9 (Tx.wr U)).map V.str ++ ts2.map V.str)))
    generalize upd (upd HA l4 (.lst (ts2.map V.str))) l5 (.lst (ts15.map V.str ++ (ts9 (Tx.wr U)).map V.str ++ ts2.map V.str)) = HB at t45 i5 ⊢
    have all26 : ∀ z ∈ ts15 ++ ts9 (Tx.wr U) ++ ts2, z.length <= 5000 := fun z hz => by
     rcases List.mem_append.mp hz with hz | hz
     ·rcases List.mem_append.mp hz with hz | hz
      ·exact uf z hz
      ·exact uE tl z hz
     ·exact uC z hz
    have l26 : (ts15 ++ ts9 (Tx.wr U) ++ ts2).length <= 26 := by
     rw [List.length_append, List.length_append]
     exact Nat.le_refl 26
    generalize ts15 ++ ts9 (Tx.wr U) ++ ts2 = tx0 at i5 all26 l26
    have sC := sB.trans t45
    refine ⟨_, rfl, by decide, by decide, iG (n := 5) (fun i σ H' => ∃ o7 txs, σ = [some (.ref a), some (.int m), some (.int n), some (.ref t), some (.ref hd), some (.str (Tx.wr U)), some (.ref l5), o7, none, none, none, none, none] /\ Same H8 H' /\ H' l5 = some (.lst (List.map V.str txs)) /\ (∀ z ∈ txs, z.length <= 5000) /\ txs.length <= 26 + i)
     ⟨_, tx0, rfl, t45, i5, all26, l26⟩ ?_ ?_⟩
    ·rintro i σ HC hi ⟨o7, txs, rfl, sD, iD, aD, lD⟩
     have sE := sB.trans sD
     refine ⟨_, rfl, .inl ⟨rfl, _, SqL.of iD⟩, _, rfl, _, rfl, _, rfl, _, _, rfl, rfl, a, ns, _, rfl, sE.seq hS, by omega, _, rfl, _, _, rfl, rfl, .inl ⟨by decide, by decide⟩, _, _, rfl, rfl, Tx.wr U, _, rfl, by omega, fun z HD sF hz => ?_⟩
     refine ⟨l5, _, .str z, rfl, rfl, sF _ _ iD, aU (by rw [List.length_map]; omega), ?_⟩
     refine ⟨_, txs ++ [z], rfl, gC (sD.trans sF) n5, ?_, ?_, ?_⟩
     ·rw [au, List.map_append]
      rfl
     ·intro y hy
      rcases List.mem_append.mp hy with q | q
      ·exact aD y q
      ·rw [List.mem_singleton.mp q]; omega
     ·rw [List.length_append]
      show txs.length + 1 <= _
      omega
    ·rintro σ HC ⟨o7, txs, rfl, sD, iD, aD, lD⟩
     have sE := sB.trans sD
     refine ⟨_, rfl, l5, rfl, ⟨_, SqL.of iD⟩, mW (K := K) (a := l5) (xs := txs.map V.str) (fun i σ H' => ∃ o8 o9 o10 o11, σ = [some (.ref a), some (.int m), some (.int n), some (.ref t), some (.ref hd), some (.str (Tx.wr U)), some (.ref l5), o7, o8, o9, o10, o11, none] /\ Same HC H') ⟨_, _, _, _, rfl, Same.refl _⟩ ?_ ?_ ?_⟩
     ·rintro i σ HD _ ⟨_, _, _, _, _, sF⟩
      exact SqL.of (sF _ _ iD)
     ·rintro i y σ HD hi ⟨o8, o9, o10, o11, rfl, sF⟩
      obtain ⟨z, hzm, rfl⟩ := List.mem_map.mp (List.mem_of_getElem? hi)
      have hz := aD z hzm
      have lz : ∀ H', Lay H' (.str z) (.str z) := fun H' => by unfold Lay; rfl
      have ln : ∀ t', D.str z = .str t' -> t'.length <= 5000 := fun t' e => by cases e; exact hz
      refine ⟨_, rfl, z, rfl, hz, fun ok d HE sG ow => ?_, fun bad HE sG => ?_⟩
      ·have rd : eV (.str z) = some (Tx.valT z) := by
        show (if Tx.okT z = true then some (Tx.valT z) else none) = _
        rw [if_pos ok]
       have okw : (Tx.rowsT z).all Tx.okWs = true := by
        unfold Tx.okT at ok
        rw [Bool.and_eq_true] at ok
        exact ok.1
       have nn : decide (V.ref d = V.non) = false := decide_eq_false fun e => nomatch e
       obtain ⟨mz, nz, gz⟩ := Tx.good_val ok
       refine bZ ?_
       refine ⟨_, rfl, .str z, _, rfl, lz _, ln, fun W hW p fa HF sH hp owf => ?_, fun no => by rw [rd] at no; cases no⟩
       rw [rd] at hW
       have hW := Option.some.inj hW
       subst hW
       refine ⟨p, _, rfl, SqT.of hp, rfl, _, _, rfl, _, _, rfl, rfl, ?_⟩
       refine ⟨_, rfl, (by show 2 <= sizeLine; decide), fun q hq => ⟨_, rfl, rfl, .inr ⟨_, rfl, q, _, _, V.str (Str.ofString "made"), rfl, rfl, SqL.of au, (by rw [nn]; rfl), rfl, _, rfl, ?_⟩⟩⟩
       refine ifN (by rw [decide_eq_true (show V.str (Str.ofString "made") = V.str (Str.ofString "made") from rfl)]; exact Bool.false_ne_true) ?_
       have sI := aq (o := .lst [V.str (Str.ofString "made"), V.str (Str.ofString "refused")]) hq
       generalize upd HF q (.lst [V.str (Str.ofString "made"), V.str (Str.ofString "refused")]) = HG at sI ⊢
       have owf := owf.mono sI
       have sHI := sH.trans sI
       refine ⟨_, rfl, rfl, _, rfl, ?_⟩
       refine ifP (by rw [nn]; rfl) ?_
       obtain ⟨yf, ff, hf, pf⟩ := id owf
       refine ⟨_, rfl, _, _, _, _, rfl, TyOf.lst hf, rfl, _, rfl, bA ?_⟩
       refine ⟨_, rfl, _, rfl, _, _, owf.tab.rep, (ow.tab.mono sHI).rep, jm _ _, Nat.le_trans (jX _) (by decide), _, rfl, ?_⟩
       refine qI (gG _) ?_
       refine ⟨_, rfl, fa, _, mz, nz, rfl, owf.tab, gz, fun HH sJ => ⟨_, rfl, rfl, _, rfl, ?_⟩⟩
       refine ifN (by rw [Tx.wr_val okw, decide_eq_true (show V.str z = V.str z from rfl)]; exact Bool.false_ne_true) ?_
       refine ⟨_, rfl, rfl, _, rfl, ?_⟩
       refine ifP (by rw [nn]; rfl) ?_
       have m1z := gz.m1
       have n4z := gz.n4
       have w0 : 0 < yf.length := by rw [pf.length, gz.rows]; omega
       obtain ⟨r0, er0, b0, e0, nb0, hb0⟩ := pf.get2 (List.getElem?_eq_getElem w0)
       refine ⟨_, rfl, fa, yf, 0, _, rfl, rfl, SqL.of (sJ _ _ hf), cG w0, (by rw [e0]; exact .inl ⟨rfl, _, SqL.of (sJ _ _ hb0)⟩), b0, _, _, e0, rfl, sJ _ _ hb0, (by rw [List.length_map, gz.cols r0 (List.mem_of_getElem? er0)]; exact aU (by omega)), ?_⟩
       have sK : Same HE (upd HH b0 (.lst (r0.map V.int ++ [V.int 0]))) := gC (sHI.trans sJ) nb0
       generalize upd HH b0 (.lst (r0.map V.int ++ [V.int 0])) = HI at sK ⊢
       refine ⟨_, rfl, .str z, _, rfl, lz _, ln, fun W hW b HJ sL owb => ?_, fun no => by rw [rd] at no; cases no⟩
       rw [rd] at hW
       have hW := Option.some.inj hW
       subst hW
       refine ⟨_, rfl, _, _, owb.tab.rep, (ow.tab.mono (sK.trans sL)).rep, jm _ _, Nat.le_trans (jX _) (by decide), _, rfl, ?_⟩
       refine qI (gG _) ?_
       exact ⟨_, _, _, _, rfl, (sF.trans sG).trans (sK.trans sL)⟩
      ·have rd : eV (.str z) = none := by
        show (if Tx.okT z = true then some (Tx.valT z) else none) = _
        rw [if_neg (by rw [bad]; exact Bool.false_ne_true)]
       have nn : decide (V.non = V.non) = true := decide_eq_true rfl
       refine bZ ?_
       refine ⟨_, rfl, .str z, _, rfl, lz _, ln, (fun W hW => by rw [rd] at hW; cases hW), fun _ p HF sH hp => ?_⟩
       refine ⟨p, _, rfl, SqT.of hp, rfl, _, _, rfl, _, _, rfl, rfl, ?_⟩
       refine ⟨_, rfl, (by show 2 <= sizeLine; decide), fun q hq => ⟨_, rfl, rfl, .inr ⟨_, rfl, q, _, _, V.str (Str.ofString "refused"), rfl, rfl, SqL.of au, (by rw [nn]; rfl), rfl, _, rfl, ?_⟩⟩⟩
       refine ifN (by rw [decide_eq_true (show V.str (Str.ofString "refused") = V.str (Str.ofString "refused") from rfl)]; exact Bool.false_ne_true) ?_
       refine ⟨_, rfl, rfl, _, rfl, ?_⟩
       refine ifN (by rw [nn]; exact Bool.false_ne_true) ?_
       refine ⟨_, rfl, rfl, _, rfl, ?_⟩
       refine ifN (by rw [nn]; exact Bool.false_ne_true) ?_
       exact ⟨_, _, _, _, rfl, ((sF.trans sG).trans sH).trans (aq hq)⟩
     ·rintro σ HD ⟨o8, o9, o10, o11, rfl, sF⟩
      have sG := sE.trans sF
      refine ⟨(by show 1 <= sizeLine; decide), fun b1 h1 => ?_⟩
      refine ⟨(by show 1 <= sizeLine; decide), fun b2 h2 => ?_⟩
      refine ⟨(by show 1 <= sizeLine; decide), fun b3 h3 => ?_⟩
      refine ⟨(by show 5 <= sizeLine; decide), fun b4 h4 => ?_⟩
      have u1 := aq (o := .lst [V.str (Str.ofString "0")]) h1
      have v1 : upd HD b1 (.lst [V.str (Str.ofString "0")]) b1 = some (.lst [V.str (Str.ofString "0")]) := au
      generalize upd HD b1 (.lst [V.str (Str.ofString "0")]) = HE at u1 v1 h2 h3 h4 ⊢
      have u2 := aq (o := .lst [V.int 0]) h2
      have v2 : upd HE b2 (.lst [V.int 0]) b2 = some (.lst [V.int 0]) := au
      generalize upd HE b2 (.lst [V.int 0]) = HF at u2 v2 h3 h4 ⊢
      have u3 := aq (o := .lst [V.ref b2]) h3
      have v3 : upd HF b3 (.lst [V.ref b2]) b3 = some (.lst [V.ref b2]) := au
      generalize upd HF b3 (.lst [V.ref b2]) = HG at u3 v3 h4 ⊢
      have u4 := aq (o := .lst [V.non, V.int 5, V.ref b1, V.ref b3, V.bl true]) h4
      have v4 : upd HG b4 (.lst [V.non, V.int 5, V.ref b1, V.ref b3, V.bl true]) b4 = some (.lst [V.non, V.int 5, V.ref b1, V.ref b3, V.bl true]) := au
      generalize upd HG b4 (.lst [V.non, V.int 5, V.ref b1, V.ref b3, V.bl true]) = HH at u4 v4 ⊢
      have c0 := Int.emod_nonneg (ns.getD 7 0) (show (5 : Int) ≠ 0 by decide)
      have c5 := Int.emod_lt_of_pos (ns.getD 7 0) (show (0 : Int) < 5 by decide)
      have w1 := (u2.trans (u3.trans u4)) _ _ v1
      have w2 := (u3.trans u4) _ _ v2
      have w3 := u4 _ _ v3
      obtain ⟨d, v, hat, hlay, hrd, hns⟩ : ∃ (d : D) (v : V), atI [V.non, V.int 5, V.ref b1, V.ref b3, V.bl true] (ns.getD 7 0 % 5) = some v /\ Lay HH d v /\ eV d = none /\ ∀ t, d = .str t -> t.length <= 5000 := by
       generalize ns.getD 7 0 % 5 = c at c0 c5
       have hc : c = 0 \/ c = 1 \/ c = 2 \/ c = 3 \/ c = 4 := by omega
       rcases hc with rfl | rfl | rfl | rfl | rfl
       ·exact ⟨.non, _, rfl, (by unfold Lay; rfl), rfl, fun t e => nomatch e⟩
       ·exact ⟨.int 5, _, rfl, (by unfold Lay; rfl), rfl, fun t e => nomatch e⟩
       ·exact ⟨.lst [.str "0"], _, rfl, (by unfold Lay; exact ⟨b1, _, rfl, w1, by unfold Lays; exact ⟨_, _, rfl, by unfold Lay; rfl, by unfold Lays; rfl⟩⟩), rfl, fun t e => nomatch e⟩
       ·exact ⟨.lst [.lst [.int 0]], _, rfl, (by unfold Lay; exact ⟨b3, _, rfl, w3, by unfold Lays; exact ⟨_, _, rfl, by unfold Lay; exact ⟨b2, _, rfl, w2, by unfold Lays; exact ⟨_, _, rfl, by unfold Lay; rfl, by unfold Lays; rfl⟩⟩, by unfold Lays; rfl⟩⟩), rfl, fun t e => nomatch e⟩
       ·exact ⟨.bl true, _, rfl, (by unfold Lay; rfl), rfl, fun t e => nomatch e⟩
      have sH := sG.trans (u1.trans (u2.trans (u3.trans u4)))
      refine ⟨_, rfl, a, ns, 7, rfl, sH.seq hS, by decide, _, _, rfl, rfl, (by show (0 : Int) < 5; decide), b4, _, _, _, rfl, rfl, SqL.of v4, hat, ?_⟩
      refine bZ ?_
      refine ⟨_, rfl, d, v, rfl, hlay, hns, (fun W hW => by rw [hrd] at hW; cases hW), fun _ p HZ sZ hp => ?_⟩
      exact ⟨p, _, 0, _, rfl, rfl, SqT.of hp, rfl, rfl, pW rfl (k HZ)⟩
end
theorem all_mk {l : PySem.W.OpenLaw} {w : World} {K : PySem.W.Frag} {h : Heap} {mg : Str -> Option Value} {fa fL B_CardError B_BadTable B_BadMixture B_NoCard B_Unlike B_BadText : Addr} (X : K.In h) (G : h.Ns mainGlobals mg) (hfa : mg "law" = some (.ref fa))
  {od an : Option Addr} {sl : Array (Option Value)} {oc kV dc pm cd ct : Value}
  (F0 : FunM K mg "is_whole" eU ["thing"])
  (F1 : FunM K mg "is_within" dM ["number"])
  (F2 : FunM K mg "is_row" gF ["thing"])
  (F3 : FunM K mg "is_table" eQ ["thing"])
  (F4 : FunM K mg "check_table" d_ ["thing"])
  (F5 : FunM K mg "_law_cell_at" dF ["_law_script", "_law_k"])
  (F6 : FunM K mg "_law_draw" f9 ["_law_cell", "_law_k", "_law_many"])
  (F7 : FunM K mg "_law_shape" dB ["_law_cell"])
  (F8 : FunM K mg "_law_table" fc ["_law_cell", "_law_rows", "_law_columns"])
  (F9 : FunM K mg "row_written" dY ["row"])
  (F10 : FunM K mg "written" iJ ["table"])
  (F11 : FunM K mg "numbers_by_figures" cg [])
  (F12 : FunM K mg "row_read" gU ["text", "numbers"])
  (F13 : FunM K mg "read" nT ["text"])
  (F14 : FunM K mg "_law_number" dZ ["_law_word"])
  (F15 : FunM K mg "_law_in" iz ["_law_text"])
  (F16 : FunM K mg "_law_asked" fK ["_law_text"])
  (F17 : FunM K mg "_law_other" fu ["_law_text", "_law_cell"])
  (aL : PySem.W.nsIn K mainGlobals "law" = some (some (.ref fL))) (lL : K.lookup fL = some ⟨oc, od, .func (PySem.W.fnOf "law" "law" (dj eX) (bJ eX) (aG eX) .none kV dc pm an cd ct), sl⟩) (cL : PySem.W.codeIn K cd "law" = true) (kL : PySem.W.keepIn K (.ref fL) = true)
  (aC_NCardError : PySem.W.nsIn K mainGlobals "CardError" = some (some (.ref B_CardError)))
  (aC_NBadTable : PySem.W.nsIn K mainGlobals "BadTable" = some (some (.ref B_BadTable)))
  (aC_NBadMixture : PySem.W.nsIn K mainGlobals "BadMixture" = some (some (.ref B_BadMixture)))
  (aC_NNoCard : PySem.W.nsIn K mainGlobals "NoCard" = some (some (.ref B_NoCard)))
  (aC_NUnlike : PySem.W.nsIn K mainGlobals "Unlike" = some (some (.ref B_Unlike)))
  (aC_NBadText : PySem.W.nsIn K mainGlobals "BadText" = some (some (.ref B_BadText)))
  (j_BadText_BadTable : PySem.W.kitOne K (.ref B_BadText) (.ref B_BadTable) = some false)
  (j_BadText_BadMixture : PySem.W.kitOne K (.ref B_BadText) (.ref B_BadMixture) = some false)
  (j_BadText_NoCard : PySem.W.kitOne K (.ref B_BadText) (.ref B_NoCard) = some false)
  (j_BadText_Unlike : PySem.W.kitOne K (.ref B_BadText) (.ref B_Unlike) = some false)
  (j_BadText_BadText : PySem.W.kitOne K (.ref B_BadText) (.ref B_BadText) = some true)
  (xo_BadTable : PySem.W.excIn K B_BadTable [.type "ValueError", .type "Exception", .type "BaseException", .type "object"] "ValueError.__new__" = true)
  (xo_BadText : PySem.W.excIn K B_BadText [.type "ValueError", .type "Exception", .type "BaseException", .type "object"] "ValueError.__new__" = true)
  (ya_BadText : PySem.W.findIn K (.ref B_BadText) "__getattribute__" = some (some (.builtin "BaseException.__getattribute__"))) (yb_BadText : PySem.W.findIn K (.ref B_BadText) "__getattr__" = some none) (yc_BadText : PySem.W.findIn K (.ref B_BadText) "__class__" = some (some (.builtin "object.__class__"))) (yd_BadText : PySem.W.specialIn K (.builtin "object.__class__") "__get__" = some (some (.builtin "getset_descriptor.__get__"))) (ye_BadText : PySem.W.takesIn K (.builtin "object.__class__") = some true) (yf_BadText : PySem.W.mroIn K B_BadText (.type "object") = some true) (yg_BadText : PySem.W.mroIn K B_BadText (.type "BaseException") = some true)
  (ez_BadText : PySem.W.exmOne K (.ref B_BadText) (.ref B_CardError) = some true)
  (z0 : PySem.W.nsIn K mainGlobals "all" = some none)
  (z1 : PySem.W.nsIn K mainGlobals "any" = some none)
  (z2 : PySem.W.nsIn K mainGlobals "bool" = some none)
  (z3 : PySem.W.nsIn K mainGlobals "int" = some none)
  (z4 : PySem.W.nsIn K mainGlobals "isinstance" = some none)
  (z5 : PySem.W.nsIn K mainGlobals "len" = some none)
  (z6 : PySem.W.nsIn K mainGlobals "list" = some none)
  (z7 : PySem.W.nsIn K mainGlobals "range" = some none)
  (z8 : PySem.W.nsIn K mainGlobals "str" = some none)
  (z9 : PySem.W.nsIn K mainGlobals "zip" = some none)
  {ti0 : Tok} (y0 : PySem.W.nsIn K mainGlobals "LEAST_NUMBER" = some (some (.int (-100) ti0)))
  {ti1 : Tok} (y1 : PySem.W.nsIn K mainGlobals "MOST_CARDS" = some (some (.int (4) ti1)))
  {ti2 : Tok} (y2 : PySem.W.nsIn K mainGlobals "MOST_NUMBER" = some (some (.int (100) ti2)))
  : ∃ fd : FuncData, (∀ (s : Shared) (v : Value), BindsTo s fd ⟨[v], []⟩ [("_law_script", v)]) /\ ∀ base : Heap, K.In base -> base.Ns mainGlobals mg -> FnOk l.prog w K mg base CX0 7 fa fd ["_law_script"] (jy K) := by
 have e := hfa.symm.trans (PySem.W.mg_of X G aL)
 cases e
 have T : Blt mg := { all_ := PySem.W.mg_none_of X G z0, any_ := PySem.W.mg_none_of X G z1, bool_ := PySem.W.mg_none_of X G z2, int_ := PySem.W.mg_none_of X G z3, isinstance_ := PySem.W.mg_none_of X G z4, len_ := PySem.W.mg_none_of X G z5, list_ := PySem.W.mg_none_of X G z6, range_ := PySem.W.mg_none_of X G z7, str_ := PySem.W.mg_none_of X G z8, zip_ := PySem.W.mg_none_of X G z9, LEAST_NUMBER := ⟨_, PySem.W.mg_of X G y0⟩, MOST_CARDS := ⟨_, PySem.W.mg_of X G y1⟩, MOST_NUMBER := ⟨_, PySem.W.mg_of X G y2⟩ }
 have fZ : mg "CardError" = some (.ref B_CardError) := PySem.W.mg_of X G aC_NCardError
 have gH : mg "BadTable" = some (.ref B_BadTable) := PySem.W.mg_of X G aC_NBadTable
 have fj : mg "BadMixture" = some (.ref B_BadMixture) := PySem.W.mg_of X G aC_NBadMixture
 have jh : mg "NoCard" = some (.ref B_NoCard) := PySem.W.mg_of X G aC_NNoCard
 have jk : mg "Unlike" = some (.ref B_Unlike) := PySem.W.mg_of X G aC_NUnlike
 have iT : mg "BadText" = some (.ref B_BadText) := PySem.W.mg_of X G aC_NBadText
 have X_BadTable : Exc K mg "BadTable" B_BadTable := ⟨aC_NBadTable, PySem.W.mg_of X G aC_NBadTable, xo_BadTable⟩
 have X_BadText : Exc K mg "BadText" B_BadText := ⟨aC_NBadText, PySem.W.mg_of X G aC_NBadText, xo_BadText⟩
 have Y_BadText : ExcT K B_BadText := ⟨ya_BadText, yb_BadText, yc_BadText, yd_BadText, ye_BadText, yf_BadText, yg_BadText⟩
 have Z_BadText := ez_BadText
 have cD := j_BadText_BadTable
 have b_ := j_BadText_BadMixture
 have dh := j_BadText_NoCard
 have dg := j_BadText_Unlike
 have cT := j_BadText_BadText
 have FL := rB (st := eX) lL cL kL
 refine ⟨PySem.W.fnOf "law" "law" (dj eX) (bJ eX) (aG eX) .none kV dc pm an cd ct, fun s v => .of_eq rfl, fun base _ _ => ?_⟩
 have dq := pH (P := l.prog) (w := w) (base := base) F0 T
 have cW := nZ (P := l.prog) (w := w) (base := base) F1 T
 have fO := rK (P := l.prog) (w := w) (base := base) F2 T dq cW
 have gP := pI (P := l.prog) (w := w) (base := base) F3 T fO
 have d8 := j8 (P := l.prog) (w := w) (base := base) F4 T gP
 have bL := jx (P := l.prog) (w := w) (base := base) F5 T
 have bu := nY (P := l.prog) (w := w) (base := base) F6 T
 have fP := mq (P := l.prog) (w := w) (base := base) F7 T
 have fB := mG (P := l.prog) (w := w) (base := base) F8 T bu
 have dX := kW (P := l.prog) (w := w) (base := base) F0 T
 have dI := jC (P := l.prog) (w := w) (base := base) F1 T
 have fY := nU (P := l.prog) (w := w) (base := base) F2 T dX dI
 have d9 := j9 (P := l.prog) (w := w) (base := base) F3 T fY
 have eF := j4 (P := l.prog) (w := w) (base := base) F9 T
 have fQ := qt (P := l.prog) (w := w) (base := base) F10 T d8 eF
 have cu := gr (P := l.prog) (w := w) (base := base) F11 T
 have gO := o4 (P := l.prog) (w := w) (base := base) F12 T X_BadText
 have gB := uH (P := l.prog) (w := w) (base := base) F13 T X_BadText d9 cu gO
 have d7 := j_ (P := l.prog) (w := w) (base := base) F14 T
 have il := qm (P := l.prog) (w := w) (base := base) F15 T d7
 have dz := mF (P := l.prog) (w := w) (base := base) F16 T fZ gH fj jh jk iT Y_BadText Z_BadText cD b_ dh dg cT gB
 have fM := lZ (P := l.prog) (w := w) (base := base) F17 T bu
 exact vp FL T bL fP fB fQ fM il dz gB
theorem walk {l : PySem.W.OpenLaw} {q : Program} {loose : List Str} {XP : (Str -> Option Value) -> Heap -> Prop} {YP : World -> Heap -> Prop} {d : DefRec} {K : Params -> PySem.W.Frag} (hn : l.most = some 63) (hdf : d.params.defaults = [])
  (hY : ∀ (w : World) (h : Heap), YP w h -> (K w.params).In h)
  (F : ∀ (w : World) (mg : Str -> Option Value) (fa : Addr) (h : Heap), (K w.params).In h -> h.Ns mainGlobals mg -> mg d.name = some (.ref fa) ->
   ∃ fd : FuncData, (∀ (s : Shared) (u : Value), BindsTo s fd ⟨[u], []⟩ [("_law_script", u)]) /\ ∀ base : Heap, (K w.params).In base -> base.Ns mainGlobals mg -> FnOk l.prog w (K w.params) mg base CX0 7 fa fd ["_law_script"] (jy (K w.params))) :
  PySem.W.WalkO q loose XP YP l.row.toRowW d [] (fun f vs => PySem.call f vs) :=
 L2.walk_of (n := 63) (k := 7) (x := "_law_script") (CX := fun _ => CX0) (sp := fun w => jy (K w.params)) hn (by decide) hdf ⟨rfl, by decide, by decide⟩ hY F (fun _ _ a ns hl _ hS => ⟨a, ns, rfl, hS, hl, fun _ => rfl⟩) fun _ _ _ _ _ z => z
end K13
namespace PySem.W.Fast
def tw17245054200254867061:=0
def tw14449747470361748272:=0
def tw4120744757781892417:=0
def tw4946079025982907023:=0
def tw4498839784990970725:=0
def tw17304439119378075037:=0
def tw7390406115628780669:=0
def tw15562185953784844018:=0
def tw14941638449761495454:=0
def tw16500758860033189208:=0
def tw2520567890152047615:=0
def tw12846962760805424775:=0
def tw11816419841302687586:=0
def tw1213645437051672952:=0
def tw10282427385055688269:=0
def tw13380481494607208953:=0
def tw7576221712803673928:=0
def tw7332199008616114804:=0
def tw26267422161518880:=0
def tw5293344724698248339:=0
def tw16063580135318741765:=0
def tw10656833599941614665:=0
def tw4764755203960723070:=0
def tw1629903227679092212:=0
def tw9210770223506051502:=0
def tw13333118350767279898:=0
def tw1446140929052509065:=0
def tw476538931215438342:=0
def tw9785974148857606425:=0
def tw4706161820969141858:=0
def tw15436434311370312291:=0
def tw10262223036323020433:=0
def tw5472760296103980036:=0
def tw7801350426289426517:=0
def tw2890146482740775468:=0
def tw12374960042856036109:=0
def tw14822336950927594208:=0
def tw7486523819225916508:=0
def tw17650018820631350355:=0
def tw1962286273627335494:=0
def tw15546453557343126164:=0
def tw9833732788832511498:=0
def tw17629777386794753605:=0
def tw12766329971009807008:=0
def tw5677483670931575643:=0
def tw6506533779115574914:=0
def tw16734715109617983026:=0
def tw15444151867246373731:=0
def tw13566915641586936408:=0
def tw18143036692426908537:=0
def tw3832453912345086041:=0
def tw5235065549630687142:=0
def tw16561316367318493726:=0
def tw14785961032193959286:=0
def tw13702423418982033035:=0
def tw12160858308190673273:=0
def tw17771581283395154919:=0
def tw15178480017481036885:=0
def tw11960864066569806795:=0
def tw13021313571217750353:=0
def tw5762065733117550227:=0
def tw5616081453556934995:=0
def tw14219300982287953247:=0
def tw5763893156998619557:=0
def tw8761427667832244455:=0
def tw6888013318755530756:=0
def tw5996853261482737144:=0
def tw7088382597191974029:=0
def tw5344886148160943454:=0
def tw17153302781622673676:=0
def tw6573122865036723707:=0
def tw16676240127349816380:=0
def tw15245800993640773083:=0
def tw4962638835165148473:=0
def tw13963286143861586468:=0
def tw7854126843559741848:=0
def tw5895460743253522077:=0
def tw15063340986335159688:=0
def tw7290154928172643153:=0
def tw13661351165227327498:=0
def tw15867947628876437819:=0
def tw9763918581360872271:=0
def tw1614422066232692951:=0
def tw4713830372976014988:=0
def tw10129098586029516909:=0
def tw4385092385069963572:=0
def tw5602283427508814214:=0
def tw17194640493960536230:=0
def tw7086322132306744610:=0
def tw13230464938635908318:=0
def tw11488494522699428152:=0
def tw5768359951457865249:=0
def tw191751850134259278:=0
def tw4733008861622449458:=0
def tw6598033579315261595:=0
def tw16238944501724693369:=0
def tw6780023015193900875:=0
def tw7558075569759915249:=0
def tw5071625367681466709:=0
def tw15168685669895411908:=0
def tw4874589002634893854:=0
def tw6444954854124171202:=0
def tw620807191059282515:=0
def tw3752356147475894890:=0
def tw17958373865726687368:=0
def tw8651497967817819637:=0
def tw7875430082829719620:=0
def tw3050612287118429576:=0
def tw1683425026045255404:=0
def tw17007538394503797394:=0
def tw3663389167891610935:=0
def tw1994765777846610787:=0
def tw11091933797977468916:=0
def tw2180361355591083770:=0
def tw18419321327554980316:=0
def tw11389629965905211217:=0
def tw14931759789714624599:=0
def tw7543627357246558071:=0
def tw4762619894270258129:=0
def tw8632247692883026162:=0
def tw527839446472020952:=0
def tw1315352754664798735:=0
def tw4432499084879682100:=0
def tw3993950496587093569:=0
def tw10890399989237925552:=0
def tw16458923389596518726:=0
def tw16875283790129400101:=0
def tw4533510955691187473:=0
def tw17331387483395651255:=0
def tw50196189237951187:=0
def tw17248075502967084108:=0
def tw3253893355841276399:=0
def tw1462298550759918178:=0
def tw11022903238892916064:=0
def tw8549819987052160727:=0
def tw7337070203232740220:=0
def tw14532425026093464769:=0
def tw16081299110145154509:=0
def tw3167357281707615202:=0
def tw10760824978646636606:=0
def tw17043568429991963909:=0
def tw16717801604477292052:=0
def tw18033256923086423053:=0
def tw17281121205670965362:=0
def tw13860863918976858799:=0
def tw7651715467592438025:=0
def tw5879262385438917517:=0
def tw9835548191649732308:=0
def tw3060368379704518379:=0
def tw12578177858909344782:=0
def tw13464382222130435461:=0
def tw327370964863172:=0
def tw4663518796779320097:=0
def tw8902865076160032920:=0
def tw7561962560995380118:=0
def tw5517751569588362183:=0
def tw6903384999357188772:=0
def tw6186170173272334796:=0
def tw16662183213345980274:=0
def tw16904975678881893973:=0
def tw661945231542945579:=0
def tw7750758432888121161:=0
def tw604908269620993395:=0
def tw15896802570125536749:=0
def tw13666936702434979507:=0
def tw5936213732796866567:=0
def tw18223948601837981853:=0
def tw11770599235107674138:=0
def tw13966302858198775116:=0
def tw2172647522391774999:=0
def tw5281849890257073967:=0
def tw12808553873413839829:=0
def tw15038669022024487169:=0
def tw11435442706249954821:=0
def tw14726186936012574979:=0
def tw4939943870911883692:=0
def tw7569281336862922812:=0
def tw18323110919102882202:=0
def tw6728529777876571198:=0
def tw7945568319546607770:=0
def tw690298024793865:=0
def tw10944517647607551628:=0
def tw12487947213544635505:=0
def tw4870121837650403153:=0
def tw14571955570845197295:=0
def tw12963776623225461721:=0
def tw253403408561483825:=0
def tw3717739346957168321:=0
def tw17865615118024169798:=0
def tw1787849062648855383:=0
def tw10817939792259291876:=0
def tw8591659677317983602:=0
def tw2062786920282694226:=0
def tw4372107115564581210:=0
def tw12261789508818084731:=0
def tw6575098668616627020:=0
def tw11380767757032187000:=0
def tw7675185967609694423:=0
def tw5171458102428013423:=0
def tw18143418169937676372:=0
def tw16321439698786467883:=0
end PySem.W.Fast
open PySem PySem.W PyProof.Rows
set_option maxRecDepth 100000 in
set_option maxHeartbeats 0 in
theorem PySem.Challenge.cw_unseen_k13_texts_holds : PySem.Challenge.rw_unseen_k13_texts.Holds := by
 w_on; o_law; k_head; (case hw => w_witness2)
 k_fill
 refine K13.walk (l := PySem.Challenge.rw_unseen_k13_texts) rfl rfl (fun w h Y => PySem.W.kIn_of Y) ?F
 case F =>
  intro w mg fa h KX G hmg
  refine' K13.all_mk KX G hmg (L2.fun_m KX G ?_ ?_ ?_ ?_ (fun _ _ _ _ _ _ us hl => match us, hl with | [_], _ => rfl)) (L2.fun_m KX G ?_ ?_ ?_ ?_ (fun _ _ _ _ _ _ us hl => match us, hl with | [_], _ => rfl)) (L2.fun_m KX G ?_ ?_ ?_ ?_ (fun _ _ _ _ _ _ us hl => match us, hl with | [_], _ => rfl)) (L2.fun_m KX G ?_ ?_ ?_ ?_ (fun _ _ _ _ _ _ us hl => match us, hl with | [_], _ => rfl)) (L2.fun_m KX G ?_ ?_ ?_ ?_ (fun _ _ _ _ _ _ us hl => match us, hl with | [_], _ => rfl)) (L2.fun_m KX G ?_ ?_ ?_ ?_ (fun _ _ _ _ _ _ us hl => match us, hl with | [_, _], _ => rfl)) (L2.fun_m KX G ?_ ?_ ?_ ?_ (fun _ _ _ _ _ _ us hl => match us, hl with | [_, _, _], _ => rfl)) (L2.fun_m KX G ?_ ?_ ?_ ?_ (fun _ _ _ _ _ _ us hl => match us, hl with | [_], _ => rfl)) (L2.fun_m KX G ?_ ?_ ?_ ?_ (fun _ _ _ _ _ _ us hl => match us, hl with | [_, _, _], _ => rfl)) (L2.fun_m KX G ?_ ?_ ?_ ?_ (fun _ _ _ _ _ _ us hl => match us, hl with | [_], _ => rfl)) (L2.fun_m KX G ?_ ?_ ?_ ?_ (fun _ _ _ _ _ _ us hl => match us, hl with | [_], _ => rfl)) (L2.fun_m KX G ?_ ?_ ?_ ?_ (fun _ _ _ _ _ _ us hl => match us, hl with | [], _ => rfl)) (L2.fun_m KX G ?_ ?_ ?_ ?_ (fun _ _ _ _ _ _ us hl => match us, hl with | [_, _], _ => rfl)) (L2.fun_m KX G ?_ ?_ ?_ ?_ (fun _ _ _ _ _ _ us hl => match us, hl with | [_], _ => rfl)) (L2.fun_m KX G ?_ ?_ ?_ ?_ (fun _ _ _ _ _ _ us hl => match us, hl with | [_], _ => rfl)) (L2.fun_m KX G ?_ ?_ ?_ ?_ (fun _ _ _ _ _ _ us hl => match us, hl with | [_], _ => rfl)) (L2.fun_m KX G ?_ ?_ ?_ ?_ (fun _ _ _ _ _ _ us hl => match us, hl with | [_], _ => rfl)) (L2.fun_m KX G ?_ ?_ ?_ ?_ (fun _ _ _ _ _ _ us hl => match us, hl with | [_, _], _ => rfl)) ?_ ?_ ?_ ?_ ?aC_NCardError ?aC_NBadTable ?aC_NBadMixture ?aC_NNoCard ?aC_NUnlike ?aC_NBadText ?_ ?_ ?_ ?_ ?_ ?_ ?_ ?_ ?_ ?_ ?_ ?_ ?_ ?_ ?_ ?_ ?_ ?_ ?_ ?_ ?_ ?_ ?_ ?_ ?_ ?_ ?_ ?_
  (case aC_NCardError => k_is)
  (case aC_NBadTable => k_is)
  (case aC_NBadMixture => k_is)
  (case aC_NNoCard => k_is)
  (case aC_NUnlike => k_is)
  (case aC_NBadText => k_is)
  all_goals (try (first | k_is | kit_is | k_exc | kts_exm))
#print axioms PySem.Challenge.cw_unseen_k13_texts_holds
