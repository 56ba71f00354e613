import PyProof.Rows.All
import Wide.All
import OpenK.AllK
import Wide.FinOn
import Lean
import PyProof.EqAt
import PyProof.EqKinds
import PyProof.TupleCall
import PySem.Challenge.RW_unseen_k14_refused
set_option Elab.async false
set_option linter.all false
set_option maxRecDepth 100000
namespace L2
open PySem PySem.Spec PyProof.Rows
abbrev Key := Sum Int Str
def Gv : Key -> Value -> Bool
 | .inl k, v => Value.isInt k v
 | .inr x, v => Value.isStrOf x v
def Km (w : World) : Key -> Int
 | .inl k => hashInt k
 | .inr x => hashStr w x
theorem cI : ∀ {k : Key} {v : Value}, Gv k v = true -> (∃ i t, k = Sum.inl i /\ v = Value.int i t) \/ (∃ x t, k = Sum.inr x /\ v = Value.str x t)
 | .inl i, v, h => by
  obtain ⟨t, e⟩ := Value.isInt_shape (k := i) (v := v) h
  exact .inl ⟨i, t, rfl, e⟩
 | .inr x, v, h => by
  obtain ⟨t, e⟩ := Value.isStrOf_shape (x := x) (v := v) h
  exact .inr ⟨x, t, rfl, e⟩
theorem Jz (a b : Int) : decide ((Sum.inl a : Key) = Sum.inl b) = (a == b) := by
 by_cases e : a = b
 ·subst e; simp
 ·have h : ¬ (Sum.inl a : Key) = Sum.inl b := fun q => e (Sum.inl.inj q)
  rw [decide_eq_false h]
  exact (beq_eq_false_iff_ne.mpr e).symm
theorem Jc (a b : Str) : decide ((Sum.inr a : Key) = Sum.inr b) = decide (a = b) := by
 by_cases e : a = b
 ·subst e; simp
 ·have h : ¬ (Sum.inr a : Key) = Sum.inr b := fun q => e (Sum.inr.inj q)
  rw [decide_eq_false h, decide_eq_false e]
theorem Jt (a : Int) (b : Str) : decide ((Sum.inl a : Key) = Sum.inr b) = false := decide_eq_false (fun q => nomatch q)
theorem Ju (a : Str) (b : Int) : decide ((Sum.inr a : Key) = Sum.inl b) = false := decide_eq_false (fun q => nomatch q)
def Al (prog : Program) (w : World) : PySem.KeyKind prog w Key where
 is := Gv
 hash := Km w
 inj := fun v a b ha hb => by
  rcases cI ha with ⟨i, t, rfl, rfl⟩ | ⟨x, t, rfl, rfl⟩
  ·rcases cI hb with ⟨j, u, rfl, e⟩ | ⟨y, u, rfl, e⟩
   ·injection e with e1 _; rw [e1]
   ·exact nomatch e
  ·rcases cI hb with ⟨j, u, rfl, e⟩ | ⟨y, u, rfl, e⟩
   ·exact nomatch e
   ·injection e with e1 _; rw [e1]
 byValue := fun k v h => by
  rcases cI h with ⟨i, t, rfl, rfl⟩ | ⟨x, t, rfl, rfl⟩ <;> rfl
 pyHash := fun hv h => by
  rcases cI hv with ⟨i, t, rfl, rfl⟩ | ⟨x, t, rfl, rfl⟩
  ·exact wpAny_pyHash_int h
  ·exact wpAny_pyHash_str h
 eqBool := fun hu hv h => by
  rcases cI hu with ⟨i, t, rfl, rfl⟩ | ⟨x, t, rfl, rfl⟩
  ·rcases cI hv with ⟨j, u, rfl, rfl⟩ | ⟨y, u, rfl, rfl⟩
   ·rw [Jz] at h; exact wpAny_eqBool_int h
   ·rw [Jt] at h; exact SeqAt.EqAt.int_str i t y u _ _ _ _ h
  ·rcases cI hv with ⟨j, u, rfl, rfl⟩ | ⟨y, u, rfl, rfl⟩
   ·rw [Ju] at h; exact SeqAt.EqAt.str_int x t j u _ _ _ _ h
   ·rw [Jc] at h; exact wpAny_eqBool_str h
 «strs» := fun k x t v h => by
  rcases cI h with ⟨i, u, rfl, e⟩ | ⟨y, u, rfl, e⟩
  ·exact nomatch e
  ·injection e with e1 _
   subst e1
   cases v <;> rfl
end L2
namespace L2
open PySem PySem.Spec PyProof.Rows
inductive V where
 | non | bl (b : Bool) | int (i : Int) | str (x : Str) | byt (b : Array UInt8) | flt (b : UInt64) | ref (a : Addr) | ty (n : String)
 deriving DecidableEq
def RelV : V -> Value -> Prop
 | .non, u => u = Value.none
 | .bl b, u => u = Value.bool b
 | .int i, u => ∃ t, u = Value.int i t
 | .str x, u => ∃ t, u = Value.str x t
 | .byt b, u => ∃ t, u = Value.bytes b t
 | .flt b, u => ∃ t, u = Value.float b t
 | .ref a, u => u = Value.ref a
 | .ty n, u => u = Value.type n
abbrev Vals : List V -> List Value -> Prop := Paired RelV
theorem Vals.length {xs : List V} {us : List Value} (r : Vals xs us) : xs.length = us.length := Paired.length r
theorem Vals.get : ∀ {xs : List V} {us : List Value} {i : Nat} {x : V}, Vals xs us -> xs[i]? = some x -> ∃ u, us[i]? = some u /\ RelV x u
 | _, _, _, _, .nil, e => by simp at e
 | _, _, 0, _, .cons r _, e => by simp at e; subst e; exact ⟨_, rfl, r⟩
 | _, _, i + 1, x, .cons _ t, e => by
  obtain ⟨u, h1, h2⟩ := Vals.get (i := i) (x := x) t (by simpa using e)
  exact ⟨u, by simpa using h1, h2⟩
theorem Vals.set {x : V} {u : Value} (r : RelV x u) : ∀ {xs : List V} {us : List Value} (i : Nat), Vals xs us -> Vals (xs.set i x) (us.set i u)
 | _, _, _, .nil => .nil
 | _, _, 0, .cons _ t => .cons r t
 | _, _, i + 1, .cons q t => .cons q (Vals.set r i t)
theorem Vals.append : ∀ {xs ys : List V} {us ws : List Value}, Vals xs us -> Vals ys ws -> Vals (xs ++ ys) (us ++ ws)
 | _, _, _, _, .nil, s => s
 | _, _, _, _, .cons r t, s => .cons r (Vals.append t s)
theorem Vals.take : ∀ {xs : List V} {us : List Value} (n : Nat), Vals xs us -> Vals (xs.take n) (us.take n)
 | _, _, 0, _ => .nil
 | _, _, _ + 1, .nil => .nil
 | _, _, n + 1, .cons r t => .cons r (Vals.take n t)
theorem Vals.drop : ∀ {xs : List V} {us : List Value} (n : Nat), Vals xs us -> Vals (xs.drop n) (us.drop n)
 | _, _, 0, r => r
 | _, _, _ + 1, .nil => .nil
 | _, _, n + 1, .cons _ t => Vals.drop n t
def RelO : Option V -> Option Value -> Prop
 | some v, some u => RelV v u
 | none, none => True
 | _, _ => False
def KV {κ : Type} : List (κ × V) -> List (κ × Value) -> Prop := Paired fun (p : κ × V) (q : κ × Value) => p.1 = q.1 /\ RelV p.2 q.2
def kV : Key -> V
 | .inl i => .int i
 | .inr x => .str x
inductive HO where
 | lst (xs : List V)
 | tup (xs : List V)
 | dK (kvs : List (Key × V)) | dT (kvs : List (List Key × V))
 | set (S : Int -> Bool) (n : Nat)
 | ins (C dx : Addr) (fs : List (Str × V))
 | own (x : Addr)
 | xd (fs : List (Str × V))
 | met (f x : Addr)
 | rng (lo hi : Int)
 | frz (o : Obj) (u : HO)
 | tbl (ps : Array Value)
 | ext (φ : Heap -> Prop)
abbrev Hp := Addr -> Option HO
def upd (H : Hp) (a : Addr) (o : HO) : Hp := fun b => if b = a then some o else H b
theorem az {H : Hp} {a : Addr} {o : HO} : upd H a o a = some o := by unfold upd; rw [if_pos rfl]
theorem aO {H : Hp} {a b : Addr} {o : HO} (h : b ≠ a) : upd H a o b = H b := by unfold upd; rw [if_neg h]
theorem pO {H : Hp} {a b : Addr} {o u : HO} (h : H a = some o) (h' : H b = some u) (d : o ≠ u) : a ≠ b := by
 intro e; subst e; rw [h] at h'; exact d (Option.some.inj h')
theorem bh {H : Hp} {a b : Addr} {o : HO} (h : H a = some o) (h' : H b = none) : a ≠ b := by
 intro e; subst e; rw [h] at h'; cases h'
section
variable (P : Program) (w : World)
def ObjOk (H : Hp) (h : Heap) (a : Addr) : HO -> Prop
 | .lst xs => xs.length <= sizeLine /\ ∃ (its : List Value) (n : Nat), Vals xs its /\ h.get? a = some { cls := .type "list", data := .seq its.toArray n }
 | .tup xs => xs.length <= sizeLine /\ ∃ its : List Value, Vals xs its /\ IsTup h a its.toArray
 | .dK kvs => kvs.length <= sizeLine /\ (a == sysModules) = false /\ ∃ vs, KV kvs vs /\ h.DictOf (Al P w) a vs
 | .dT kvs => kvs.length <= sizeLine /\ (a == sysModules) = false /\ ∃ xs : List (List Key × Addr × Value),
   Paired (fun (p : List Key × V) (q : List Key × Addr × Value) => p.1 = q.1 /\ H q.2.1 = some (.tup (p.1.map kV)) /\ RelV p.2 q.2.2) kvs xs /\
   ∃ o es ep, h.get? a = some o /\ o.ExactDict /\ o.data = .dict es ep /\ es.toList = xs.map (entryOfKey (tupleKind (Al P w))) /\ (xs.map (·.1)).Nodup
 | .set S n => h.SetOf (intKind P w) a S n
 | .ins C dx fs => H dx = some (.own a) /\ fs.length <= 1000 /\ dx ≠ a /\ h.get? a = some (PySem.W.instObj C dx) /\
   ∃ mA, h.Ns1 dx mA /\ (∀ f, RelO (fs.lookup f) (mA f)) /\ PySem.Within mA (fs.map (·.1))
 | .own _ => ∃ o, h.get? a = some o
 | .xd fs => ∃ mA, h.Ns1 a mA /\ ∀ f, RelO (fs.lookup f) (mA f)
 | .rng lo hi => ∃ t u v, h.get? a = some { cls := .type "range", data := .fields #[.int lo t, .int hi u, .int 1 v] }
 | .frz o u => h.get? a = some o /\ ObjOk H h a u
 | .tbl ps => h.get? a = some { cls := .none, data := .fields ps }
 | .met f x => h.get? a = some (PySem.W.methodObj (.ref f) (.ref x))
 | .ext φ => φ h /\ (∃ o, h.get? a = some o) /\ ∀ h1 h2 : Heap, φ h1 -> (∀ o, h1.get? a = some o -> h2.get? a = some o) -> φ h2
def HOk (H : Hp) (h : Heap) : Prop := ∀ a o, H a = some o -> ObjOk P w H h a o
end
section
variable {P : Program} {w : World} {H H' : Hp} {h h' : Heap} {a : Addr} {o : HO}
theorem ObjOk.lt (x : ObjOk P w H h a o) : a < h.objs.size := by
 cases o with
 | lst xs => obtain ⟨_, _, _, _, e⟩ := x; exact Heap.lt_size e
 | tup xs => obtain ⟨_, _, _, p⟩ := x; exact p.lt
 | dK kvs => obtain ⟨_, _, _, _, o, _, _, e, _⟩ := x; exact Heap.lt_size e
 | dT kvs => obtain ⟨_, _, _, _, o, _, _, e, _⟩ := x; exact Heap.lt_size e
 | set S n => obtain ⟨o, _, _, _, e, _⟩ := x; exact Heap.lt_size e
 | ins C dx fs => obtain ⟨_, _, _, e, _⟩ := x; exact Heap.lt_size e
 | own y => obtain ⟨_, e⟩ := x; exact Heap.lt_size e
 | xd fs => obtain ⟨_, ⟨_, _, _, e, _⟩, _⟩ := x; exact Heap.lt_size e
 | rng lo hi => obtain ⟨_, _, _, e⟩ := x; exact Heap.lt_size e
 | frz ob u => obtain ⟨e, _⟩ := x; exact Heap.lt_size e
 | tbl ps => exact Heap.lt_size (show h.get? a = some _ from x)
 | met f y => exact Heap.lt_size (show h.get? a = some _ from x)
 | ext φ => obtain ⟨_, ⟨_, e⟩, _⟩ := x; exact Heap.lt_size e
theorem Paired.mapP {α β : Type} {F G : α -> β -> Prop} : ∀ {l₁ : List α} {l₂ : List β}, Paired F l₁ l₂ -> (∀ a b, F a b -> G a b) -> Paired G l₁ l₂
 | _, _, .nil, _ => .nil
 | _, _, .cons r t, f => .cons (f _ _ r) (Paired.mapP t f)
theorem ObjOk.stay (x : ObjOk P w H h a o) (k : ∀ b u, (b = a \/ H b = some (.own a)) -> h.get? b = some u -> h'.get? b = some u)
  (ho : ∀ b, H b = some (.own a) -> H' b = some (.own a)) (ht : ∀ b xs, H b = some (.tup xs) -> H' b = some (.tup xs)) : ObjOk P w H' h' a o := by
 induction o with
 | lst xs => obtain ⟨z, its, n, r, e⟩ := x; exact ⟨z, its, n, r, k _ _ (.inl rfl) e⟩
 | tup xs => obtain ⟨z, its, r, ob, e, c⟩ := x; exact ⟨z, its, r, ob, k _ _ (.inl rfl) e, c⟩
 | dK kvs => obtain ⟨z, y, vs, r, ob, es, ep, e, c⟩ := x; exact ⟨z, y, vs, r, ob, es, ep, k _ _ (.inl rfl) e, c⟩
 | dT kvs =>
  obtain ⟨z, y, xs, r, ob, es, ep, e, c⟩ := x
  exact ⟨z, y, xs, Paired.mapP r fun p q z => ⟨z.1, ht _ _ z.2.1, z.2.2⟩, ob, es, ep, k _ _ (.inl rfl) e, c⟩
 | set S n => obtain ⟨ob, es, ep, t, e, c⟩ := x; exact ⟨ob, es, ep, t, k _ _ (.inl rfl) e, c⟩
 | ins C dx fs =>
  obtain ⟨d, z, ne, e, mA, ⟨od, es, ep, e2, c⟩, r⟩ := x
  exact ⟨ho _ d, z, ne, k _ _ (.inl rfl) e, mA, ⟨od, es, ep, k _ _ (.inr d) e2, c⟩, r⟩
 | own y => obtain ⟨ob, e⟩ := x; exact ⟨ob, k _ _ (.inl rfl) e⟩
 | xd fs => obtain ⟨mA, ⟨od, es, ep, e, c⟩, r⟩ := x; exact ⟨mA, ⟨od, es, ep, k _ _ (.inl rfl) e, c⟩, r⟩
 | rng lo hi => obtain ⟨t, u, v, e⟩ := x; exact ⟨t, u, v, k _ _ (.inl rfl) e⟩
 | frz ob u ih => obtain ⟨e, q⟩ := x; exact ⟨k _ _ (.inl rfl) e, ih q⟩
 | tbl ps =>
  have e : h.get? a = some { cls := .none, data := .fields ps } := x
  show h'.get? a = some { cls := .none, data := .fields ps }
  exact k a _ (.inl rfl) e
 | met f y =>
  have e : h.get? a = some (PySem.W.methodObj (.ref f) (.ref y)) := x
  show h'.get? a = some (PySem.W.methodObj (.ref f) (.ref y))
  exact k a _ (.inl rfl) e
 | ext φ => obtain ⟨p, ⟨o, e⟩, st⟩ := x; exact ⟨st _ _ p fun o q => k _ _ (.inl rfl) q, ⟨o, k _ _ (.inl rfl) e⟩, st⟩
theorem HOk.lt (x : HOk P w H h) (e : H a = some o) : a < h.objs.size := (x a o e).lt
theorem HOk.fresh (x : HOk P w H h) (e : h.objs.size <= a) : H a = none := by
 cases q : H a with
 | none => rfl
 | some u => exact absurd (Nat.lt_of_lt_of_le (x.lt q) e) (Nat.lt_irrefl _)
theorem HOk.kept (x : HOk P w H h) (k : ∀ b u, h.get? b = some u -> h'.get? b = some u) : HOk P w H h' := fun a o e =>
 (x a o e).stay (fun b u _ q => k b u q) (fun _ q => q) fun _ _ q => q
theorem HOk.laid (x : HOk P w H h) (k : ∀ b u, h.get? b = some u -> h'.get? b = some u) (hp : h.objs.size <= a) (new : ObjOk P w (upd H a o) h' a o) : HOk P w (upd H a o) h' := fun b u e => by
 have hn := x.fresh hp
 by_cases hb : b = a
 ·subst hb; rw [az] at e; cases e; exact new
 ·rw [aO hb] at e
  exact (x b u e).stay (fun c v _ q => k c v q) (fun c q => by rw [aO (bh q hn)]; exact q) fun c xs q => by rw [aO (bh q hn)]; exact q
end
def Rd (H : Hp) (a : Addr) (u : HO) : Prop := H a = some u \/ ∃ o, H a = some (.frz o u)
theorem Rd.of {H : Hp} {a : Addr} {u : HO} (h : H a = some u) : Rd H a u := .inl h
theorem Rd.ok {P : Program} {w : World} {H : Hp} {h : Heap} {a : Addr} {u : HO} (r : Rd H a u) (x : HOk P w H h) : ObjOk P w H h a u := by
 rcases r with r | ⟨o, r⟩
 ·exact x a u r
 ·obtain ⟨_, q⟩ := x a _ r
  exact q
def Mut : Option HO -> Prop
 | some (.lst _) => True
 | some (.dK _) => True
 | some (.dT _) => True
 | some (.set _ _) => True
 | some (.ins _ _ _) => True
 | some (.ext _) => True
 | _ => False
section
variable {P : Program} {w : World} {H : Hp} {h h' : Heap} {x e : Addr} {o' : HO}
theorem HOk.write (ok : HOk P w H h) (mu : Mut (H x)) (he : e = x \/ H e = some (.own x)) (k : ∀ b u, b ≠ e -> h.get? b = some u -> h'.get? b = some u) (heo : ∃ u, h'.get? e = some u)
  (new : ObjOk P w (upd H x o') h' x o') : HOk P w (upd H x o') h' := fun b u q => by
 have nown : ∀ c y, H c = some (.own y) -> c ≠ x := fun c y r z => by subst z; rw [r] at mu; exact mu
 have ntup : ∀ c xs, H c = some (.tup xs) -> c ≠ x := fun c xs r z => by subst z; rw [r] at mu; exact mu
 by_cases hb : b = x
 ·subst hb; rw [az] at q; cases q; exact new
 ·rw [aO hb] at q
  by_cases hbe : b = e
  ·have q' : H b = some (.own x) := by
    rcases he with z | z
    ·exact absurd (hbe.trans z) hb
    ·rw [hbe]; exact z
   rw [q] at q'; cases q'
   obtain ⟨v, hv⟩ := heo
   exact ⟨v, by rw [hbe]; exact hv⟩
  ·refine (ok b u q).stay (fun c v hc r => k c v ?_ r) (fun c r => by rw [aO (nown c b r)]; exact r) fun c xs r => by rw [aO (ntup c xs r)]; exact r
   rcases hc with rfl | hc
   ·exact hbe
   ·rintro rfl
    rcases he with z | z
    ·exact nown c b hc z
    ·rw [hc] at z; cases z; exact hb rfl
end
structure Un (fs ex : List Addr) (H H' : Hp) (h h' : Heap) : Prop where
 keep : ∀ b o, h.get? b = some o -> H b = none -> b ∉ fs -> b ∉ ex -> h'.get? b = some o
 slot : ∀ b o, h.get? b = some o -> H b = none -> b ∈ fs -> b ∉ ex -> ∃ sl, h'.get? b = some { o with slots := sl }
 free : ∀ b o, h.get? b = some o -> H b = none -> b ∉ ex -> H' b = none
 there : ∀ b o, h.get? b = some o -> b ∉ ex -> ∃ o', h'.get? b = some o'
 tups : ∀ b xs, H b = some (.tup xs) -> H' b = some (.tup xs)
 frzs : ∀ b o u, H b = some (.frz o u) -> H' b = some (.frz o u)
 tbls : ∀ b ps, H b = some (.tbl ps) -> ∃ more, H' b = some (.tbl (ps ++ more))
section
variable {fs fs' ex ex' : List Addr} {H H1 H2 : Hp} {h h1 h2 h' : Heap} {a x e : Addr} {o : HO}
theorem Un.any (u : Un fs ex H H1 h h1) {b : Addr} {ob : Obj} (q : h.get? b = some ob) (n : H b = none) (hx : b ∉ ex) : ∃ sl, h1.get? b = some { ob with slots := sl } := by
 by_cases hb : b ∈ fs
 ·exact u.slot b ob q n hb hx
 ·exact ⟨ob.slots, u.keep b ob q n hb hx⟩
theorem Un.trans (a : Un fs ex H H1 h h1) (b : Un fs ex H1 H2 h1 h2) : Un fs ex H H2 h h2 where
 keep := fun c ob q n hc hx => b.keep c ob (a.keep c ob q n hc hx) (a.free c ob q n hx) hc hx
 slot := fun c ob q n hc hx => by
  obtain ⟨sl, e1⟩ := a.slot c ob q n hc hx
  obtain ⟨sl', e2⟩ := b.slot c _ e1 (a.free c ob q n hx) hc hx
  exact ⟨sl', e2⟩
 free := fun c ob q n hx => by
  obtain ⟨o', e1⟩ := a.there c ob q hx
  exact b.free c o' e1 (a.free c ob q n hx) hx
 there := fun c ob q hx => by
  obtain ⟨o', e1⟩ := a.there c ob q hx
  exact b.there c o' e1 hx
 tups := fun c xs q => b.tups c xs (a.tups c xs q)
 frzs := fun c ob xs q => b.frzs c ob xs (a.frzs c ob xs q)
 tbls := fun c ps q => by
  obtain ⟨m1, e1⟩ := a.tbls c ps q
  obtain ⟨m2, e2⟩ := b.tbls c _ e1
  exact ⟨m1 ++ m2, by rw [e2, Array.append_assoc]⟩
theorem Un.kept (k : ∀ b u, h.get? b = some u -> h'.get? b = some u) : Un fs ex H H h h' :=
 ⟨fun b ob q _ _ _ => k b ob q, fun b ob q _ _ _ => ⟨ob.slots, k b ob q⟩, fun _ _ _ n _ => n, fun b ob q _ => ⟨ob, k b ob q⟩, fun _ _ q => q, fun _ _ _ q => q, fun _ ps q => ⟨#[], by rw [q]; simp⟩⟩
theorem Un.refl : Un fs ex H H h h := Un.kept fun _ _ q => q
theorem Un.laid (k : ∀ b u, h.get? b = some u -> h'.get? b = some u) (hp : h.objs.size <= a) (hn : H a = none) : Un fs ex H (upd H a o) h h' where
 keep := fun b u q _ _ _ => k b u q
 slot := fun b u q _ _ _ => ⟨u.slots, k b u q⟩
 free := fun b u q n _ => by rw [aO (Nat.ne_of_lt (Nat.lt_of_lt_of_le (Heap.lt_size q) hp))]; exact n
 there := fun b u q _ => ⟨u, k b u q⟩
 tups := fun b xs q => by rw [aO (bh q hn)]; exact q
 frzs := fun b u xs q => by rw [aO (bh q hn)]; exact q
 tbls := fun b ps q => ⟨#[], by rw [aO (bh q hn), q]; simp⟩
theorem Un.write (mu : Mut (H x)) (he : e = x \/ H e = some (.own x)) (k : ∀ b u, b ≠ e -> h.get? b = some u -> h'.get? b = some u) (heo : ∃ u, h'.get? e = some u) : Un fs ex H (upd H x o) h h' := by
 have hx : ∀ b, H b = none -> b ≠ x := fun b n z => by subst z; rw [n] at mu; exact mu
 have hb : ∀ b, H b = none -> b ≠ e := fun b n z => by
  subst z
  rcases he with r | r
  ·exact hx b n r
  ·rw [n] at r; cases r
 have hm : ∀ b u, H b = some u -> ¬ Mut (some u) -> b ≠ x := fun b u q nm z => by subst z; rw [q] at mu; exact nm mu
 refine ⟨fun b u q n _ _ => k b u (hb b n) q, fun b u q n _ _ => ⟨u.slots, k b u (hb b n) q⟩, fun b u q n _ => by rw [aO (hx b n)]; exact n, fun b u q _ => ?_,
  fun b xs q => by rw [aO (hm b _ q fun z => z)]; exact q, fun b u xs q => by rw [aO (hm b _ q fun z => z)]; exact q, fun b ps q => ⟨#[], by rw [aO (hm b _ q fun z => z), q]; simp⟩⟩
 by_cases hbe : b = e
 ·subst hbe; exact heo
 ·exact ⟨u, k b u hbe q⟩
theorem Un.mono (u : Un fs ex H H1 h h1) (hs : ∀ b ∈ fs, b ∈ fs') (hx : ∀ b ∈ ex, b ∈ ex') : Un fs' ex' H H1 h h1 :=
 ⟨fun b ob q n hb he => u.keep b ob q n (fun z => hb (hs b z)) fun z => he (hx b z), fun _ _ q n _ he => u.any q n fun z => he (hx _ z), fun b ob q n he => u.free b ob q n fun z => he (hx b z), fun b ob q he => u.there b ob q fun z => he (hx b z), u.tups, u.frzs, u.tbls⟩
end
def trk (h : Heap) (H : Hp) : List Addr := (List.range h.objs.size).filter fun a => (H a).isSome
def nW (h : Heap) (H : Hp) : Heap := PySem.W.hideAll h (trk h H)
theorem Eo (h : Heap) (H : Hp) : (nW h H).objs.size = h.objs.size := PySem.W.hideAll_size _ _
theorem Gj {h : Heap} {H : Hp} {b : Addr} {o : Obj} (e : h.get? b = some o) (n : H b = none) : (nW h H).get? b = some o :=
 PySem.W.hideAll_get _ e fun hm => by
  have q : (H b).isSome = true := (List.mem_filter.mp hm).2
  rw [n] at q; simp at q
theorem Hv {h : Heap} {H : Hp} {b : Addr} {o : Obj} (e : (nW h H).get? b = some o) : h.get? b = some o /\ H b = none := by
 have e' : h.get? b = some o := PySem.W.of_hideAll (trk h H) e
 refine ⟨e', ?_⟩
 cases q : H b with
 | none => rfl
 | some x =>
  have hm : b ∈ trk h H := List.mem_filter.mpr ⟨List.mem_range.mpr (Heap.lt_size e'), by simp [q]⟩
  have z : (nW h H).get? b = none := PySem.W.hideAll_none (trk h H) hm
  rw [z] at e; cases e
def Hc (g h : Heap) (L : Addr) : List (Addr × Obj) := (List.range h.objs.size).filterMap fun a => if a = L \/ (g.get? a).isSome = true then none else (h.get? a).map fun o => (a, o)
def rest (g h : Heap) (L d : Addr) : List (Addr × Obj) := (Hc g h L).filter fun p => decide (p.1 ≠ d)
end L2
namespace L2
open PySem PySem.Spec PyProof.Rows
structure Mod (K : PySem.W.Frag) (mg : Str -> Option Value) (base : Heap) : Prop where
 kin : K.In base
 glob : base.Ns mainGlobals mg
 blt : ∃ mb, base.Ns builtinsNs mb /\ ∀ x : Str, x ≠ "__name__" -> mb x = bootBuiltins x
 nolimit : base.NoLimit
structure Cx where
 prog : Program
 w : World
 K : PySem.W.Frag
 mg : Str -> Option Value
 base : Heap
 A : Around
 N : List Str
 s₀ : Shared
 H₀ : Hp
 env : Env
 outer : List Env
 stack : List Env
 ex : List Addr
 fn : Str -> Bool
 calm : Bool
 pn : List (Addr × Obj)
 xe : Value -> Shared -> Prop
def frs (l : List Env) : List Addr := l.filterMap (·.frame)
abbrev Cx.fs (X : Cx) : List Addr := frs X.outer
def Vis (sc : Scope) (x : Str) : Prop := sc.names.lookup x = some .local \/ sc.names.lookup x = some .cell \/ sc.names.lookup x = some .free
def Loc (sc : Scope) (x : Str) : Prop := sc.names.lookup x = some .local \/ sc.names.lookup x = some .cell
def Look (env : Env) (h : Heap) (m : Str -> Option Value) (x : Str) (u : Value) : Prop :=
 (env.kindOf x = some .local /\ m x = some u) \/ ((env.kindOf x = some .cell \/ env.kindOf x = some .free) /\ ∃ c, env.cells.lookup x = some c /\ h.IsCell c (some u))
structure Cx.Ok (X : Cx) : Prop where
 mod : Mod X.K X.mg X.base
 kind : X.env.scope.kind = .function
 glob : X.env.globals = mainGlobals
 blt : X.env.builtins = builtinsNs
 above : X.s₀.heap.objs.size <= X.env.locals
 inj : ∀ x y c, X.env.cells.lookup x = some c -> X.env.cells.lookup y = some c -> x = y
 has : ∀ x, (X.env.kindOf x = some .cell \/ X.env.kindOf x = some .free) -> ∃ c, X.env.cells.lookup x = some c
 cab : ∀ x c, X.fn x = true -> X.env.cells.lookup x = some c -> X.s₀.heap.objs.size <= c
 hd : X.calm = true -> X.A.handled = none
 frames : X.A.frames = some X.stack
 stk : X.stack = X.outer \/ (X.stack = X.env :: X.outer /\ X.env.frame = some X.env.locals)
 exf : ∀ b ∈ X.ex, b ≠ X.env.locals /\ ∀ x c, X.env.cells.lookup x = some c -> c ≠ b
 bs : ∀ b o, X.base.get? b = some o -> X.s₀.heap.get? b = some o /\ X.H₀ b = none
 bsz : X.base.objs.size <= X.s₀.heap.objs.size
 noex : ∀ b o, X.base.get? b = some o -> b ∉ X.ex
 exfs : ∀ b ∈ X.ex, b ∉ X.fs
 funs : X.s₀.heap.FunFrames X.base X.outer
 frf : ∀ b ∈ X.fs, X.H₀ b = none
structure Inv (X : Cx) (pins : List (Addr × Obj)) (σ : List (Option V)) (H : Hp) (s : Shared) : Prop where
 ok : X.Ok
 os : s.os = X.s₀.os
 bare : AllBare s.gens
 base : Un X.fs X.ex X.H₀ H X.s₀.heap s.heap
 loc : ∃ m, s.heap.Ns X.env.locals m /\ ∀ (i : Nat) (x : Str) (v : V), X.N[i]? = some x -> σ[i]? = some (some v) -> Vis X.env.scope x -> ∃ u, RelV v u /\ Look X.env s.heap m x u
 cell : ∀ x c, X.env.cells.lookup x = some c -> ∃ v, s.heap.IsCell c v
 free : H X.env.locals = none
 freeC : ∀ x c, X.env.cells.lookup x = some c -> H c = none
 pin : ∀ p ∈ X.pn ++ pins, s.heap.get? p.1 = some p.2 /\ H p.1 = none /\ p.1 ≠ X.env.locals /\ p.1 ∉ X.fs /\ ∀ v, p.2.data ≠ .cell v
 hok : HOk X.prog X.w H s.heap
 len : σ.length = X.N.length
section
variable {X : Cx} {pins : List (Addr × Obj)} {σ : List (Option V)} {H H' : Hp} {s : Shared} {h' : Heap}
theorem Cx.Ok.nofr (ok : X.Ok) {b : Addr} {o : Obj} (e : X.base.get? b = some o) : b ∉ X.fs := fun hb => by
 have := (ok.funs.mem hb).1
 rw [e] at this; cases this
theorem Inv.bs (I : Inv X pins σ H s) : ∀ b o, X.base.get? b = some o -> s.heap.get? b = some o /\ H b = none := fun b o e =>
 ⟨I.base.keep b o (I.ok.bs b o e).1 (I.ok.bs b o e).2 (I.ok.nofr e) (I.ok.noex b o e), I.base.free b o (I.ok.bs b o e).1 (I.ok.bs b o e).2 (I.ok.noex b o e)⟩
theorem Inv.bk (I : Inv X pins σ H s) : ∀ b o, X.base.get? b = some o -> s.heap.get? b = some o := fun b o e => (I.bs b o e).1
theorem Inv.mod (I : Inv X pins σ H s) : Mod X.K X.mg X.base := I.ok.mod
theorem Inv.kIn (I : Inv X pins σ H s) : X.K.In s.heap := I.ok.mod.kin.keeps I.bk
theorem Inv.nolimit (I : Inv X pins σ H s) : s.heap.NoLimit := I.ok.mod.nolimit.keeps I.bk
theorem Inv.fr (I : Inv X pins σ H s) : ∃ m, Fr X.base X.env.locals s.heap m :=
 let ⟨m, hn, _⟩ := I.loc
 ⟨m, hn, I.bk, Nat.le_trans I.ok.bsz I.ok.above⟩
theorem Inv.lt (I : Inv X pins σ H s) : X.env.locals < s.heap.objs.size := let ⟨_, hn, _⟩ := I.loc; hn.lt
theorem Inv.sz (I : Inv X pins σ H s) : X.s₀.heap.objs.size <= s.heap.objs.size := Nat.le_trans I.ok.above (Nat.le_of_lt I.lt)
theorem Inv.nofs (I : Inv X pins σ H s) {a : Addr} (h : s.heap.objs.size <= a) : a ∉ X.fs := fun hb => by
 obtain ⟨_, o, ho, _⟩ := I.ok.funs.mem hb
 exact absurd (Nat.lt_of_lt_of_le (Heap.lt_size ho) (Nat.le_trans I.sz h)) (Nat.lt_irrefl _)
theorem Inv.cne (I : Inv X pins σ H s) : ∀ x c, X.env.cells.lookup x = some c -> c ≠ X.env.locals := fun x c e z => by
 obtain ⟨v, o, ho, hd⟩ := I.cell x c e
 obtain ⟨m, ⟨o', es, ep, ho', hd', _⟩, _⟩ := I.loc
 rw [z, ho'] at ho; cases ho; rw [hd'] at hd; cases hd
theorem Inv.funs (I : Inv X pins σ H s) : s.heap.FunFrames X.base X.outer := by
 have all : ∀ (l : List Env), (∀ b ∈ frs l, b ∈ X.fs) -> X.s₀.heap.FunFrames X.base l -> s.heap.FunFrames X.base l := by
  intro l
  induction l with
  | nil => intro _ _; trivial
  | cons env r ih =>
   intro hs hl
   obtain ⟨hk, ⟨L, o, hf, hn, ho, hd⟩, hr⟩ := hl
   have hL : L ∈ X.fs := hs L (by unfold frs; rw [List.filterMap_cons, hf]; exact List.mem_cons_self)
   obtain ⟨sl, e⟩ := I.base.slot L o ho (I.ok.frf L hL) hL fun z => I.ok.exfs L z hL
   exact ⟨hk, ⟨L, _, hf, hn, e, hd⟩, ih (fun b hb => hs b (by unfold frs; rw [List.filterMap_cons, hf]; exact List.mem_cons_of_mem _ hb)) hr⟩
 exact all X.outer (fun _ hb => hb) I.ok.funs
theorem Inv.stack (I : Inv X pins σ H s) : s.heap.FunFrames X.base X.stack := by
 rcases I.ok.stk with e | ⟨e, hf⟩
 ·rw [e]; exact I.funs
 ·rw [e]
  obtain ⟨m, hn, _⟩ := I.loc
  refine .cons (by rw [I.ok.kind]; decide) hf hn ?_ I.funs
  exact Heap.get?_none_of_le (Nat.le_trans I.ok.bsz I.ok.above)
theorem Inv.stkSub (I : Inv X pins σ H s) : ∀ b ∈ frs X.stack, b ∈ X.env.locals :: X.fs := fun b hb => by
 rcases I.ok.stk with e | ⟨e, hf⟩
 ·rw [e] at hb; exact List.mem_cons_of_mem _ hb
 ·rw [e] at hb
  unfold frs at hb
  rw [List.filterMap_cons, hf] at hb
  exact hb
theorem Inv.stkFree (I : Inv X pins σ H s) : ∀ b ∈ frs X.stack, H b = none := fun b hb => by
 rcases List.mem_cons.mp (I.stkSub b hb) with e | hb
 ·rw [e]; exact I.free
 ·obtain ⟨_, o, ho, _⟩ := I.ok.funs.mem hb
  exact I.base.free b o ho (I.ok.frf b hb) fun z => I.ok.exfs b z hb
theorem Inv.step {g' : Array GenState} {t' : Nat} {d' : Drawn} {ch : List Addr} (I : Inv X pins σ H s)
  (hch : ∀ b ∈ ch, (b ∈ X.ex \/ X.s₀.heap.objs.size <= b) /\ b ≠ X.env.locals /\ (∀ x c, X.env.cells.lookup x = some c -> c ≠ b) /\ ∀ p ∈ X.pn ++ pins, p.1 ≠ b)
  (keep : ∀ b o, b ≠ X.env.locals -> b ∉ X.fs -> b ∉ ch -> s.heap.get? b = some o -> H b = none -> h'.get? b = some o)
  (slot : ∀ b o, b ≠ X.env.locals -> b ∈ X.fs -> b ∉ ch -> s.heap.get? b = some o -> H b = none -> ∃ sl, h'.get? b = some { o with slots := sl }) (free : ∀ b o, b ∉ ch -> s.heap.get? b = some o -> H b = none -> H' b = none)
  (there : ∀ b o, b ∉ ch -> s.heap.get? b = some o -> ∃ o', h'.get? b = some o')
  (tups : ∀ b xs, H b = some (.tup xs) -> H' b = some (.tup xs)) (frzs : ∀ b o u, H b = some (.frz o u) -> H' b = some (.frz o u)) (tbls : ∀ b ps, H b = some (.tbl ps) -> ∃ more, H' b = some (.tbl (ps ++ more)))
  (ns : ∀ m, s.heap.Ns X.env.locals m -> h'.Ns X.env.locals m) (hok : HOk X.prog X.w H' h') (hg : AllBare g') :
  Inv X pins σ H' { s with heap := h', gens := g', drawn := d', toks := t' } := by
 have neL : ∀ b o, X.s₀.heap.get? b = some o -> b ≠ X.env.locals := fun b o e => Nat.ne_of_lt (Nat.lt_of_lt_of_le (Heap.lt_size e) I.ok.above)
 have neC : ∀ b o, X.s₀.heap.get? b = some o -> b ∉ X.ex -> b ∉ ch := fun b o e hx hb => by
  rcases (hch b hb).1 with z | z
  ·exact hx z
  ·exact absurd (Nat.lt_of_lt_of_le (Heap.lt_size e) z) (Nat.lt_irrefl _)
 have cellK : ∀ x c, X.env.cells.lookup x = some c -> ∀ v, s.heap.IsCell c v -> h'.IsCell c v := fun x c e v ⟨o, ho, hd⟩ => by
  have nch : c ∉ ch := fun z => (hch c z).2.2.1 x c e rfl
  by_cases hc : c ∈ X.fs
  ·obtain ⟨sl, q⟩ := slot c o (I.cne x c e) hc nch ho (I.freeC x c e)
   exact ⟨_, q, hd⟩
  ·exact ⟨o, keep c o (I.cne x c e) hc nch ho (I.freeC x c e), hd⟩
 refine ⟨I.ok, I.os, hg, ⟨fun b o e n hb hx => ?_, fun b o e n hb hx => ?_, fun b o e n hx => ?_, fun b o e hx => ?_, fun b xs e => tups b xs (I.base.tups b xs e), fun b o xs e => frzs b o xs (I.base.frzs b o xs e), fun b ps e => ?_⟩, ?_, fun x c e => ?_, ?_, fun x c e => ?_, fun p hp => ?_, hok, I.len⟩
 ·exact keep b o (neL b o e) hb (neC b o e hx) (I.base.keep b o e n hb hx) (I.base.free b o e n hx)
 ·obtain ⟨sl, e1⟩ := I.base.slot b o e n hb hx
  obtain ⟨sl', e2⟩ := slot b _ (neL b o e) hb (neC b o e hx) e1 (I.base.free b o e n hx)
  exact ⟨sl', e2⟩
 ·obtain ⟨o', e1⟩ := I.base.there b o e hx
  exact free b o' (neC b o e hx) e1 (I.base.free b o e n hx)
 ·obtain ⟨o', e1⟩ := I.base.there b o e hx
  exact there b o' (neC b o e hx) e1
 ·obtain ⟨m1, e1⟩ := I.base.tbls b ps e
  obtain ⟨m2, e2⟩ := tbls b _ e1
  exact ⟨m1 ++ m2, by rw [e2, Array.append_assoc]⟩
 ·obtain ⟨m, hn, hl⟩ := I.loc
  refine ⟨m, ns m hn, fun i x v e1 e2 e3 => ?_⟩
  obtain ⟨u, r, l⟩ := hl i x v e1 e2 e3
  refine ⟨u, r, ?_⟩
  rcases l with l | ⟨k, c, e, z⟩
  ·exact .inl l
  ·exact .inr ⟨k, c, e, cellK x c e _ z⟩
 ·obtain ⟨v, z⟩ := I.cell x c e
  exact ⟨v, cellK x c e v z⟩
 ·obtain ⟨m, ⟨o, _, _, ho, _⟩, _⟩ := I.loc
  exact free _ o (fun z => (hch _ z).2.1 rfl) ho I.free
 ·obtain ⟨v, o, ho, hd⟩ := I.cell x c e
  exact free c o (fun z => (hch c z).2.2.1 x c e rfl) ho (I.freeC x c e)
 ·obtain ⟨e, n, ne, nf, d⟩ := I.pin p hp
  have nch : p.1 ∉ ch := fun z => (hch p.1 z).2.2.2 p hp rfl
  exact ⟨keep p.1 p.2 ne nf nch e n, free p.1 p.2 nch e n, ne, nf, d⟩
theorem Inv.un {t' : Nat} (I : Inv X pins σ H s) (u : Un X.fs [] H H' s.heap h') (hok : HOk X.prog X.w H' h') : Inv X pins σ H' { s with heap := h', toks := t' } := by
 obtain ⟨m, ⟨o, es, ep, ho, r⟩, _⟩ := id I.loc
 obtain ⟨sl, hL⟩ := u.any ho I.free (by simp)
 exact I.step (g' := s.gens) (d' := s.drawn) (ch := []) (fun _ z => nomatch z) (fun b o _ hb _ e n => u.keep b o e n hb (by simp)) (fun b o _ hb _ e n => u.slot b o e n hb (by simp)) (fun b o _ e n => u.free b o e n (by simp)) (fun b o _ e => u.there b o e (by simp)) u.tups u.frzs u.tbls (fun m' hm => by
  obtain ⟨o', es', ep', ho', r'⟩ := hm
  rw [ho] at ho'; cases ho'
  exact ⟨_, es', ep', hL, r'⟩) hok I.bare
theorem Inv.call {g' : Array GenState} {t' : Nat} {d' : Drawn} {ch : List Addr} (I : Inv X pins σ H s) (u : Un (frs X.stack) ch H H' s.heap h') (hok : HOk X.prog X.w H' h') (hg : AllBare g')
  (hch : ∀ b ∈ ch, (b ∈ X.ex \/ X.s₀.heap.objs.size <= b) /\ b ≠ X.env.locals /\ (∀ x c, X.env.cells.lookup x = some c -> c ≠ b) /\ ∀ p ∈ X.pn ++ pins, p.1 ≠ b) :
  Inv X pins σ H' { s with heap := h', gens := g', drawn := d', toks := t' } := by
 obtain ⟨m, ⟨o, es, ep, ho, r⟩, _⟩ := id I.loc
 obtain ⟨sl, hL⟩ := u.any ho I.free fun z => (hch _ z).2.1 rfl
 exact I.step (ch := ch) hch (fun b o hL hb hc e n => u.keep b o e n (fun z => (List.mem_cons.mp (I.stkSub b z)).elim hL hb) hc) (fun b o _ _ hc e n => u.any e n hc) (fun b o hc e n => u.free b o e n hc) (fun b o hc e => u.there b o e hc) u.tups u.frzs u.tbls (fun m' hm => by
  obtain ⟨o', es', ep', ho', r'⟩ := hm
  rw [ho] at ho'; cases ho'
  exact ⟨_, es', ep', hL, r'⟩) hok hg
theorem Inv.turned {t' : Nat} {it : Addr} (I : Inv X pins σ H s) (k : ∀ b o, b ≠ it -> s.heap.get? b = some o -> h'.get? b = some o) (hn : H it = none) (hL : it ≠ X.env.locals)
  (h1 : it ∈ X.ex \/ X.s₀.heap.objs.size <= it) (h2 : ∀ x c, X.env.cells.lookup x = some c -> c ≠ it) (h3 : ∀ p ∈ X.pn ++ pins, p.1 ≠ it) : Inv X pins σ H { s with heap := h', toks := t' } := by
 have nit : ∀ b u, H b = some u -> b ≠ it := fun b u e z => by rw [z, hn] at e; cases e
 refine I.step (g' := s.gens) (d' := s.drawn) (ch := [it]) (fun b hb => ?_) (fun b o _ _ hc e _ => k b o (fun z => hc (by simp [z])) e) (fun b o _ _ hc e _ => ⟨o.slots, k b o (fun z => hc (by simp [z])) e⟩) (fun _ _ _ _ n => n)
  (fun b o hc e => ⟨o, k b o (fun z => hc (by simp [z])) e⟩) (fun _ _ e => e) (fun _ _ _ e => e) (fun b ps e => ⟨#[], by rw [e]; simp⟩) (fun m hm => ?_) (fun b u e => ?_) I.bare
 ·have e : b = it := by simpa using hb
  subst e
  exact ⟨h1, hL, h2, h3⟩
 ·obtain ⟨o, es, ep, ho, r⟩ := hm
  exact ⟨o, es, ep, k _ o (Ne.symm hL) ho, r⟩
 ·refine (I.hok b u e).stay (fun c v hc q => k c v ?_ q) (fun _ q => q) fun _ _ q => q
  rcases hc with z | z
  ·rw [z]; exact nit b u e
  ·exact nit c _ z
theorem Inv.tok (I : Inv X pins σ H s) (t : Nat) : Inv X pins σ H { s with toks := t } := I.un (h' := s.heap) (t' := t) Un.refl I.hok
theorem Inv.kept {t' : Nat} (I : Inv X pins σ H s) (k : ∀ b u, s.heap.get? b = some u -> h'.get? b = some u) : Inv X pins σ H { s with heap := h', toks := t' } := I.un (Un.kept k) (I.hok.kept k)
theorem Inv.laid {a : Addr} {o : HO} {t' : Nat} (I : Inv X pins σ H s) (k : ∀ b u, s.heap.get? b = some u -> h'.get? b = some u) (hp : s.heap.objs.size <= a) (new : ObjOk X.prog X.w (upd H a o) h' a o) :
  Inv X pins σ (upd H a o) { s with heap := h', toks := t' } := I.un (Un.laid k hp (I.hok.fresh hp)) (I.hok.laid k hp new)
theorem Inv.write {x e : Addr} {o : HO} {t' : Nat} (I : Inv X pins σ H s) (mu : Mut (H x)) (he : e = x \/ H e = some (.own x)) (k : ∀ b u, b ≠ e -> s.heap.get? b = some u -> h'.get? b = some u) (heo : ∃ u, h'.get? e = some u)
  (new : ObjOk X.prog X.w (upd H x o) h' x o) : Inv X pins σ (upd H x o) { s with heap := h', toks := t' } := I.un (Un.write mu he k heo) (I.hok.write mu he k heo new)
theorem Inv.weak {σ' : List (Option V)} (I : Inv X pins σ H s) (hl : σ'.length = σ.length) (w : ∀ (i : Nat) v, σ'[i]? = some (some v) -> σ[i]? = some (some v)) : Inv X pins σ' H s :=
 ⟨I.ok, I.os, I.bare, I.base, let ⟨m, hn, hl'⟩ := I.loc; ⟨m, hn, fun i x v e1 e2 e3 => hl' i x v e1 (w i v e2) e3⟩, I.cell, I.free, I.freeC, I.pin, I.hok, hl.trans I.len⟩
theorem Inv.pins_of {pins' : List (Addr × Obj)} (I : Inv X pins σ H s) (h : ∀ p ∈ pins', s.heap.get? p.1 = some p.2 /\ H p.1 = none /\ p.1 ≠ X.env.locals /\ p.1 ∉ X.fs /\ ∀ v, p.2.data ≠ .cell v) : Inv X pins' σ H s :=
 ⟨I.ok, I.os, I.bare, I.base, I.loc, I.cell, I.free, I.freeC, fun p hp => (List.mem_append.mp hp).elim (fun z => I.pin p (List.mem_append_left _ z)) (h p), I.hok, I.len⟩
theorem xY {N : List Str} (hN : N.Nodup) {i j : Nat} {x : Str} (a : N[i]? = some x) (b : N[j]? = some x) : i = j := by
 obtain ⟨h1, e1⟩ := List.getElem?_eq_some_iff.mp a
 obtain ⟨h2, e2⟩ := List.getElem?_eq_some_iff.mp b
 exact (List.getElem_inj hN).mp (e1.trans e2.symm)
theorem uV {M : Model} {A : Around} {E : Value -> Shared -> Prop} {i : Nat} {x : Str} {v : V} {u : Value} {Q : Unit -> Shared -> Prop} (I : Inv X pins σ H s) (hN : X.N.Nodup) (hi : X.N[i]? = some x) (hx : Loc X.env.scope x) (r : RelV v u)
  (h : ∀ s', Inv X pins (σ.set i (some v)) H s' -> (∃ a, Heap.SameBut a s.heap s'.heap /\ (a = X.env.locals \/ X.env.cells.lookup x = some a)) -> Q () s') (hf : X.fn x = true \/ X.env.scope.names.lookup x = some .local := by first | exact .inl rfl | exact .inr rfl | assumption) : wpAny M A (storeName X.env x u) Q E s := by
 obtain ⟨m, hn, hl⟩ := id I.loc
 have hcls : (X.env.scope.kind == .class || (X.env.scope.kind == .module && X.env.locals != X.env.globals)) = false := by rw [I.ok.kind]; rfl
 have hiσ : i < σ.length := by rw [I.len]; exact (List.getElem?_eq_some_iff.mp hi).1
 have cne := I.cne
 have tracked : ∀ {a : Addr} {h' : Heap}, (∃ o, s.heap.get? a = some o /\ H a = none) -> Heap.SameBut a s.heap h' -> HOk X.prog X.w H h' := fun {a h'} ha hs b ob e => by
  obtain ⟨_, _, hfree⟩ := ha
  refine (I.hok b ob e).stay (fun c w' hc q => (hs.2 c ?_).trans q) (fun _ q => q) fun _ _ q => q
  rintro rfl
  rcases hc with rfl | hc
  ·rw [hfree] at e; cases e
  ·rw [hfree] at hc; cases hc
 rcases hx with hk | hk
 ·refine wpAny_storeName_local hk hn (fun h' hn' hs => ?_) hcls
  obtain ⟨oL, _, _, hoL, _⟩ := id hn
  refine h _ ⟨I.ok, I.os, I.bare, ⟨fun b o e n hb hx => ?_, fun b o e n hb hx => ?_, I.base.free, fun b o e hx => ?_, I.base.tups, I.base.frzs, I.base.tbls⟩, ⟨_, hn', fun j y v' e1 e2 e3 => ?_⟩, fun y c e => ?_, I.free, I.freeC, fun p hp => ?_, tracked ⟨oL, hoL, I.free⟩ hs, by simpa using I.len⟩ ⟨_, hs, .inl rfl⟩
  ·exact (hs.2 b (Nat.ne_of_lt (Nat.lt_of_lt_of_le (Heap.lt_size e) I.ok.above))).trans (I.base.keep b o e n hb hx)
  ·obtain ⟨sl, e1⟩ := I.base.slot b o e n hb hx
   exact ⟨sl, (hs.2 b (Nat.ne_of_lt (Nat.lt_of_lt_of_le (Heap.lt_size e) I.ok.above))).trans e1⟩
  ·obtain ⟨o', e1⟩ := I.base.there b o e hx
   exact ⟨o', (hs.2 b (Nat.ne_of_lt (Nat.lt_of_lt_of_le (Heap.lt_size e) I.ok.above))).trans e1⟩
  ·by_cases hj : j = i
   ·subst hj
    rw [hi] at e1; cases e1
    rw [List.getElem?_set_self hiσ] at e2
    cases e2
    exact ⟨u, r, .inl ⟨hk, by simp⟩⟩
   ·rw [List.getElem?_set_ne (Ne.symm hj)] at e2
    obtain ⟨u', r', q⟩ := hl j y v' e1 e2 e3
    refine ⟨u', r', ?_⟩
    rcases q with ⟨k, e⟩ | ⟨k, c, e, z⟩
    ·refine .inl ⟨k, ?_⟩
     have : y ≠ x := fun e => hj (xY hN e1 (e ▸ hi))
     simp [this, e]
    ·exact .inr ⟨k, c, e, z.sameBut hs (cne y c e)⟩
  ·obtain ⟨w', z⟩ := I.cell y c e
   exact ⟨w', z.sameBut hs (cne y c e)⟩
  ·obtain ⟨e, n, ne, nf, d⟩ := I.pin p hp
   exact ⟨(hs.2 p.1 ne).trans e, n, ne, nf, d⟩
 ·have hfn : X.fn x = true := by
   rcases hf with z | z
   ·exact z
   ·rw [z] at hk; cases hk
  obtain ⟨c, hc⟩ := I.ok.has x (.inl hk)
  obtain ⟨w', z⟩ := I.cell x c hc
  refine wpAny_storeName_cell I.ok.kind hk hc z (fun h' hc' hs => ?_)
  obtain ⟨oc, hoc, hocd⟩ := id z
  refine h { s with heap := h' } ⟨I.ok, I.os, I.bare, ⟨fun b o e n hb hx => ?_, fun b o e n hb hx => ?_, I.base.free, fun b o e hx => ?_, I.base.tups, I.base.frzs, I.base.tbls⟩, ⟨m, hn.sameBut hs (Ne.symm (cne x c hc)), fun j y v' e1 e2 e3 => ?_⟩, fun y c' e => ?_, I.free, I.freeC, fun p hp => ?_, tracked ⟨oc, hoc, I.freeC x c hc⟩ hs, by simpa using I.len⟩ ⟨c, hs, .inr hc⟩
  ·exact (hs.2 b (Nat.ne_of_lt (Nat.lt_of_lt_of_le (Heap.lt_size e) (I.ok.cab x c hfn hc)))).trans (I.base.keep b o e n hb hx)
  ·obtain ⟨sl, e1⟩ := I.base.slot b o e n hb hx
   exact ⟨sl, (hs.2 b (Nat.ne_of_lt (Nat.lt_of_lt_of_le (Heap.lt_size e) (I.ok.cab x c hfn hc)))).trans e1⟩
  ·obtain ⟨o', e1⟩ := I.base.there b o e hx
   exact ⟨o', (hs.2 b (Nat.ne_of_lt (Nat.lt_of_lt_of_le (Heap.lt_size e) (I.ok.cab x c hfn hc)))).trans e1⟩
  ·by_cases hj : j = i
   ·subst hj
    rw [hi] at e1; cases e1
    rw [List.getElem?_set_self hiσ] at e2
    cases e2
    exact ⟨u, r, .inr ⟨.inl hk, c, hc, hc'⟩⟩
   ·rw [List.getElem?_set_ne (Ne.symm hj)] at e2
    obtain ⟨u', r', q⟩ := hl j y v' e1 e2 e3
    refine ⟨u', r', ?_⟩
    rcases q with q | ⟨k, c', e, z'⟩
    ·exact .inl q
    ·refine .inr ⟨k, c', e, z'.sameBut hs ?_⟩
     rintro rfl
     exact hj (xY hN e1 (I.ok.inj _ _ _ e hc ▸ hi))
  ·by_cases hcc : c' = c
   ·subst hcc; exact ⟨_, hc'⟩
   ·obtain ⟨w2, z2⟩ := I.cell y c' e
    exact ⟨w2, z2.sameBut hs hcc⟩
  ·obtain ⟨e, n, ne, nf, d⟩ := I.pin p hp
   refine ⟨(hs.2 p.1 ?_).trans e, n, ne, nf, d⟩
   intro q
   rw [q, hoc] at e
   have q' : oc = p.2 := Option.some.inj e
   exact d w' (by rw [<- q']; exact hocd)
theorem qN {M : Model} {A : Around} {E : Value -> Shared -> Prop} {i : Nat} {x : Str} {v : V} {u : Value} {Q : Unit -> Shared -> Prop} (I : Inv X pins σ H s) (hN : X.N.Nodup) (hi : X.N[i]? = some x) (hx : Loc X.env.scope x) (r : RelV v u)
  (h : ∀ s', Inv X pins (σ.set i (some v)) H s' -> Q () s') (hf : X.fn x = true \/ X.env.scope.names.lookup x = some .local := by first | exact .inl rfl | exact .inr rfl | assumption) : wpAny M A (storeName X.env x u) Q E s :=
 uV I hN hi hx r (fun s' I' _ => h s' I') hf
theorem Inv.call' {s' : Shared} {ch : List Addr} (I : Inv X pins σ H s) (ho : s'.os = s.os) (u : Un (frs X.stack) ch H H' s.heap s'.heap) (hok : HOk X.prog X.w H' s'.heap) (hg : AllBare s'.gens)
  (hch : ∀ b ∈ ch, (b ∈ X.ex \/ X.s₀.heap.objs.size <= b) /\ b ≠ X.env.locals /\ (∀ x c, X.env.cells.lookup x = some c -> c ≠ b) /\ ∀ p ∈ X.pn ++ pins, p.1 ≠ b) : Inv X pins σ H' s' := by
 obtain ⟨h', g', d', t', o'⟩ := s'
 have e : o' = s.os := ho
 subst e
 exact I.call (g' := g') (t' := t') (d' := d') u hok hg hch
end
abbrev XK := Value -> Option Addr -> Hp -> Prop
abbrev St := List (Option V)
abbrev VK := V -> Hp -> Prop
abbrev TE := St -> Hp -> VK -> Prop
abbrev TT := St -> Hp -> (Bool -> Hp -> Prop) -> Prop
abbrev TA := St -> Hp -> (List V -> Hp -> Prop) -> Prop
structure Ends where
 nx : St -> Hp -> Prop
 rt : VK
 bk : St -> Hp -> Prop := fun _ _ => False
 ct : St -> Hp -> Prop := fun _ _ => False
abbrev TS := Ends -> St -> Hp -> Prop
def EP (X : Cx) (pins : List (Addr × Obj)) (σ : St) (Q : VK) (u : Value) (s' : Shared) : Prop := ∃ v H', Inv X pins σ H' s' /\ RelV v u /\ Q v H'
def TP (X : Cx) (pins : List (Addr × Obj)) (σ : St) (Q : Bool -> Hp -> Prop) (b : Bool) (s' : Shared) : Prop := ∃ H', Inv X pins σ H' s' /\ Q b H'
def AP (X : Cx) (pins : List (Addr × Obj)) (σ : St) (Q : List V -> Hp -> Prop) (us : List Value) (s' : Shared) : Prop := ∃ vs H', Inv X pins σ H' s' /\ Vals vs us /\ Q vs H'
def SP (X : Cx) (pins : List (Addr × Obj)) (D : Ends) (f : Flow) (s' : Shared) : Prop :=
 match f with
 | .next => ∃ σ' H', Inv X pins σ' H' s' /\ D.nx σ' H'
 | .brk => ∃ σ' H', Inv X pins σ' H' s' /\ D.bk σ' H'
 | .cont => ∃ σ' H', Inv X pins σ' H' s' /\ D.ct σ' H'
 | .ret u => ∃ v σ' H', Inv X pins σ' H' s' /\ RelV v u /\ D.rt v H'
def PE (X : Cx) (e : Expr) (t : TE) : Prop :=
 ∀ (pins : List (Addr × Obj)) (s : Shared) (σ : St) (H : Hp) (Q : VK), Inv X pins σ H s -> t σ H Q -> wpAny (model X.prog X.w) X.A (eval e X.env) (EP X pins σ Q) X.xe s
def PT (X : Cx) (e : Expr) (t : TT) : Prop :=
 ∀ (pins : List (Addr × Obj)) (s : Shared) (σ : St) (H : Hp) (Q : Bool -> Hp -> Prop), Inv X pins σ H s -> t σ H Q -> wpAny (model X.prog X.w) X.A (isTrue e X.env (eval e X.env)) (TP X pins σ Q) X.xe s
def PW (X : Cx) (e : Expr) (t : TT) : Prop :=
 ∀ (whole : Sem Value) (pins : List (Addr × Obj)) (s : Shared) (σ : St) (H : Hp) (Q : Bool -> Hp -> Prop), Inv X pins σ H s -> t σ H Q -> wpAny (model X.prog X.w) X.A (isTrue e X.env whole) (TP X pins σ Q) X.xe s
theorem PW.pt {X : Cx} {e : Expr} {t : TT} (h : PW X e t) : PT X e t := h _
def PA (X : Cx) (es : List Expr) (t : TA) : Prop :=
 ∀ (pos : Pos) (pins : List (Addr × Obj)) (s : Shared) (σ : St) (H : Hp) (Q : List V -> Hp -> Prop), Inv X pins σ H s -> t σ H Q -> wpAny (model X.prog X.w) X.A (spliced (backTo pos (starEach es X.env))) (AP X pins σ Q) X.xe s
def PS (X : Cx) (st : Stmt) (t : TS) : Prop :=
 ∀ (pins : List (Addr × Obj)) (s : Shared) (σ : St) (H : Hp) (D : Ends), Inv X pins σ H s -> t D σ H -> wpAny (model X.prog X.w) X.A (exec st X.env) (SP X pins D) X.xe s
def PSs (X : Cx) (st : List Stmt) (t : TS) : Prop :=
 ∀ (pins : List (Addr × Obj)) (s : Shared) (σ : St) (H : Hp) (D : Ends), Inv X pins σ H s -> t D σ H -> wpAny (model X.prog X.w) X.A (execs st X.env) (SP X pins D) X.xe s
theorem thn {α : Type} {t : Sem α} {Q Q' : α -> Shared -> Prop} {M : Model} {A : Around} {E : Value -> Shared -> Prop} {s : Shared} (h : wpAny M A t Q E s) (hQ : ∀ a s, Q a s -> Q' a s) : wpAny M A t Q' E s := wpAny_mono h hQ fun _ _ x => x
end L2
namespace L2
open PySem PySem.Spec PyProof.Rows
section
variable {X : Cx}
def t8 (i : Nat) : TE := fun σ H Q => ∃ v, σ[i]? = some (some v) /\ Q v H
def tC (v : V) : TE := fun _ H Q => Q v H
theorem Iz {i : Nat} {x : Str} {pos : Pos} (hN : X.N[i]? = some x) (hv : Vis X.env.scope x) (hd : (x == ("__debug__" : Str)) = false := by decide) (hcd : (x == ("__classdict__" : Str)) = false := by decide) : PE X (.Name x pos) (t8 i) := by
 intro pins s σ H Q I h
 obtain ⟨v, e, h⟩ := h
 obtain ⟨m, hn, hl⟩ := I.loc
 obtain ⟨u, r, l⟩ := hl i x v hN e hv
 have fin : EP X pins σ Q u s := ⟨v, H, I, r, h⟩
 rcases l with ⟨hk, hm⟩ | ⟨hk, c, hc, hcell⟩
 ·exact wpAny_Name (wpAny_loadName_local I.ok.kind hk hn hm fin) hd
 ·rcases hk with hk | hk
  ·exact wpAny_Name (wpAny_loadName_cell I.ok.kind hk hc hcell fin) hd
  ·exact wpAny_Name (wpAny_loadName_free I.ok.kind hk hc hcell fin hcd) hd
theorem pe_int {i j pos} : PE X (.Constant (.int i) j pos) (tC (.int i)) := fun _ _ _ H _ I h => wpAny_Constant_int ⟨.int i, H, I.tok _, ⟨_, rfl⟩, h⟩
theorem pe_bl {b j pos} : PE X (.Constant (.bool b) j pos) (tC (.bl b)) := fun _ _ _ H _ I h => Constant_bool ⟨.bl b, H, I, rfl, h⟩
theorem pe_non {j pos} : PE X (.Constant .none j pos) (tC .non) := fun _ _ _ H _ I h => Constant_none ⟨.non, H, I, rfl, h⟩
theorem pe_str {x j pos} : PE X (.Constant (.str x) j pos) (tC (.str x)) := fun _ _ _ H _ I h => Calls.Constant_str ⟨.str x, H, I.tok _, ⟨_, rfl⟩, h⟩
def Gl (X : Cx) (x : Str) : Prop := X.env.kindOf x = some .globalImplicit
theorem lF {E : Value -> Shared -> Prop} {pins : List (Addr × Obj)} {s : Shared} {σ : St} {H : Hp} {x : Str} {u : Value} {pos : Pos} {Q : Value -> Shared -> Prop} (I : Inv X pins σ H s) (hg : Gl X x) (hm : X.mg x = some u) (h : Q u s)
  (hd : (x == ("__debug__" : Str)) = false := by decide) : wpAny (model X.prog X.w) X.A (eval (.Name x pos) X.env) Q E s :=
 Calls.Name_function_global I.ok.kind hg (Calls.loadGlobal_global (by rw [I.ok.glob]; exact I.mod.glob.keeps I.bk) hm h) hd
theorem jc {E : Value -> Shared -> Prop} {pins : List (Addr × Obj)} {s : Shared} {σ : St} {H : Hp} {x : Str} {u : Value} {pos : Pos} {Q : Value -> Shared -> Prop} (I : Inv X pins σ H s) (hg : Gl X x) (hm : X.mg x = none) (hv : bootBuiltins x = some u) (h : Q u s)
  (hn : x ≠ "__name__" := by decide) (hd : (x == ("__debug__" : Str)) = false := by decide) : wpAny (model X.prog X.w) X.A (eval (.Name x pos) X.env) Q E s := by
 obtain ⟨mb, h1, h2⟩ := I.mod.blt
 exact Calls.Name_function_global I.ok.kind hg (Calls.loadGlobal_builtin (by rw [I.ok.glob]; exact I.mod.glob.keeps I.bk) hm (by rw [I.ok.blt]; exact h1.keeps I.bk) ((h2 x hn).trans hv) h) hd
theorem Ah {x : Str} {v : V} {u : Value} {pos : Pos} (hg : Gl X x) (hm : X.mg x = some u) (r : RelV v u) (hd : (x == ("__debug__" : Str)) = false := by decide) : PE X (.Name x pos) (tC v) :=
 fun _ _ _ H _ I h => lF I hg hm ⟨v, H, I, r, h⟩ hd
theorem cU {x : Str} {v : V} {u : Value} {pos : Pos} (hg : Gl X x) (hm : X.mg x = none) (hv : bootBuiltins x = some u) (r : RelV v u) (hn : x ≠ "__name__" := by decide) (hd : (x == ("__debug__" : Str)) = false := by decide) : PE X (.Name x pos) (tC v) :=
 fun _ _ _ H _ I h => jc I hg hm hv ⟨v, H, I, r, h⟩ hn hd
def t2I (ta tb : TE) (k : Int -> Int -> Hp -> Prop) : St -> Hp -> Prop := fun σ H => ta σ H fun x H1 => tb σ H1 fun y H2 => ∃ i j, x = .int i /\ y = .int j /\ k i j H2
def M6 (ta tb : TE) : TE := fun σ H Q => t2I ta tb (fun i j H2 => Q (.int (i + j)) H2) σ H
def MF (ta tb : TE) : TE := fun σ H Q => t2I ta tb (fun i j H2 => Q (.int (i - j)) H2) σ H
def Mp (ta tb : TE) : TE := fun σ H Q => t2I ta tb (fun i j H2 => (-(2 ^ 64) < i /\ i < 2 ^ 64) /\ Q (.int (i * j)) H2) σ H
variable {a b : Expr} {ta tb : TE} {pos : Pos}
def PC (X : Cx) (op : CmpOp) (a b : Expr) (t : TE) : Prop :=
 ∀ (pins : List (Addr × Obj)) (s : Shared) (σ : St) (H : Hp) (Q : VK), Inv X pins σ H s -> t σ H Q ->
  wpAny (model X.prog X.w) X.A (eval a X.env) (fun v s₁ => wpAny (model X.prog X.w) X.A (eval b X.env) (fun u s₂ => wpAny (model X.prog X.w) X.A (compareOp op v u) (EP X pins σ Q) X.xe s₂) X.xe s₁) X.xe s
def uo (p : Int -> Int -> Bool) (ta tb : TE) : TE := fun σ H Q => t2I ta tb (fun i j H2 => Q (.bl (p i j)) H2) σ H
abbrev tLt : TE -> TE -> TE := uo fun i j => decide (i < j)
abbrev tLe : TE -> TE -> TE := uo fun i j => decide (i <= j)
abbrev tGt : TE -> TE -> TE := uo fun i j => decide (j < i)
abbrev tGe : TE -> TE -> TE := uo fun i j => decide (j <= i)
abbrev Mm : TE -> TE -> TE := uo fun i j => decide (i = j)
abbrev M8 : TE -> TE -> TE := uo fun i j => !decide (i = j)
def MK (ta : TE) : TE := fun σ H Q => ta σ H fun x H1 => Q (.bl (decide (x = .non))) H1
def Mf (ta : TE) : TE := fun σ H Q => ta σ H fun x H1 => Q (.bl (!decide (x = .non))) H1
def tB (t : TE) : TT := fun σ H Q => t σ H fun x H1 => ∃ c, x = .bl c /\ Q c H1
theorem bK {e : Expr} {t : TE} (h : PE X e t) (he : ∀ whole, isTrue e X.env whole = (do let v <- whole; standAt e.pos; holding [v] (truthy v)) := by intro _; rfl) : PT X e (tB t) := by
 intro pins s σ H Q I hw
 refine isTrue_plain (thn (h pins s σ H _ I hw) fun v s1 ⟨x, H1, I1, r1, q1⟩ => ?_) (he _)
 obtain ⟨d, rfl, q⟩ := q1
 cases r1
 exact wpAny_truthy_bool ⟨H1, I1, q⟩
variable {tA tB' : TT} {rest : List Expr}
def Lb (t u : TT) : TT := fun σ H Q => t σ H fun c H1 => if c = true then u σ H1 Q else Q false H1
def tOr (t u : TT) : TT := fun σ H Q => t σ H fun c H1 => if c = true then Q true H1 else u σ H1 Q
def KD (t : TT) : TT := fun σ H Q => t σ H fun c H1 => Q (!c) H1
theorem zW (ha : PT X a tA) : PW X (.BoolOp .And [a] pos) tA := by
 intro wh pins s σ H Q I h
 refine isTrue_and (thn (ha pins s σ H Q I h) fun c s1 e => ?_)
 cases c with
 | true => exact isTrue_and_nil e
 | false => exact e
theorem du (ha : PT X a tA) : PW X (.BoolOp .Or [a] pos) tA := by
 intro wh pins s σ H Q I h
 refine isTrue_or (thn (ha pins s σ H Q I h) fun c s1 e => ?_)
 cases c with
 | false => exact isTrue_or_nil e
 | true => exact e
theorem Dm (ha : PT X a tA) (hb : PW X (.BoolOp .And (b :: rest) pos) tB') : PW X (.BoolOp .And (a :: b :: rest) pos) (Lb tA tB') := by
 intro wh pins s σ H Q I h
 refine isTrue_and (thn (ha pins s σ H _ I h) fun c s1 ⟨H1, I1, q1⟩ => ?_)
 cases c with
 | true => exact hb wh pins s1 σ H1 Q I1 q1
 | false => exact ⟨H1, I1, q1⟩
theorem dO (ha : PT X a tA) (hb : PW X (.BoolOp .Or (b :: rest) pos) tB') : PW X (.BoolOp .Or (a :: b :: rest) pos) (tOr tA tB') := by
 intro wh pins s σ H Q I h
 refine isTrue_or (thn (ha pins s σ H _ I h) fun c s1 ⟨H1, I1, q1⟩ => ?_)
 cases c with
 | true => exact ⟨H1, I1, q1⟩
 | false => exact hb wh pins s1 σ H1 Q I1 q1
theorem bG (ha : PT X a tA) : PT X (.UnaryOp .Not a pos) (KD tA) := by
 intro pins s σ H Q I h
 exact isTrue_not (ha pins s σ H (fun c H1 => Q (!c) H1) I h)
def J2 (ta tb : TE) : TE := fun σ H Q => ta σ H fun x H1 => ∃ c, x = .bl c /\ if c = true then tb σ H1 Q else Q (.bl false) H1
def M7 (ta tb : TE) : TE := fun σ H Q => ta σ H fun x H1 => ∃ c, x = .bl c /\ if c = true then Q (.bl true) H1 else tb σ H1 Q
def J9 (ta : TE) : TE := fun σ H Q => ta σ H fun x H1 => ∃ c, x = .bl c /\ Q (.bl (!c)) H1
theorem gA {op} {t : TE} (h : PE X a t) : PE X (.BoolOp op [a] pos) t := fun pins s σ H Q I hw => BoolOp_one (h pins s σ H Q I hw)
theorem gr (ha : PE X a ta) (hb : PE X (.BoolOp .And (b :: rest) pos) tb) : PE X (.BoolOp .And (a :: b :: rest) pos) (J2 ta tb) := by
 intro pins s σ H Q I h
 refine BoolOp_and (thn (ha pins s σ H _ I h) fun v s1 ⟨x, H1, I1, r1, q1⟩ => ?_)
 obtain ⟨c, rfl, q1⟩ := q1
 cases r1
 refine wpAny_truthy_bool ?_
 cases c with
 | true => exact hb pins s1 σ H1 Q I1 q1
 | false => exact ⟨.bl false, H1, I1, rfl, q1⟩
theorem sr (ha : PE X a ta) : PE X (.UnaryOp .Not a pos) (J9 ta) := by
 intro pins s σ H Q I h
 refine UnaryOp_ (thn (ha pins s σ H _ I h) fun v s1 ⟨x, H1, I1, r1, q1⟩ => ?_)
 obtain ⟨c, rfl, q1⟩ := q1
 cases r1
 exact not_of (wpAny_truthy_bool ⟨.bl (!c), H1, I1, rfl, q1⟩)
def tIf (t : TT) (ta tb : TE) : TE := fun σ H Q => t σ H fun c H1 => if c = true then ta σ H1 Q else tb σ H1 Q
theorem jH {c : Expr} (hc : PT X c tA) (ha : PE X a ta) (hb : PE X b tb) : PE X (.IfExp c a b pos) (tIf tA ta tb) := by
 intro pins s σ H Q I h
 refine wpAny_IfExp (thn (hc pins s σ H _ I h) fun d s1 ⟨H1, I1, q1⟩ => ?_)
 cases d with
 | true => exact ha pins s1 σ H1 Q I1 q1
 | false => exact hb pins s1 σ H1 Q I1 q1
end
end L2
namespace L2
open PySem PySem.Spec PyProof.Rows
def SqL (K : PySem.W.Frag) (H : Hp) (a : Addr) (xs : List V) : Prop :=
 Rd H a (.lst xs) \/
  ∃ (o : Obj) (its : Array Value) (n : Nat), K.lookup a = some o /\ o.cls = .type "list" /\ o.dict = none /\ o.data = .seq its n /\ its.size <= sizeLine /\ Vals xs its.toList
def SqT (K : PySem.W.Frag) (H : Hp) (a : Addr) (xs : List V) : Prop :=
 Rd H a (.tup xs) \/
  ∃ (o : Obj) (its : Array Value) (n : Nat), K.lookup a = some o /\ o.cls = .type "tuple" /\ o.data = .seq its n /\ its.size <= sizeLine /\ Vals xs its.toList
def Kg : Value -> Option V
 | .none => some .non
 | .bool b => some (.bl b)
 | .int i _ => some (.int i)
 | .str x _ => some (.str x)
 | .bytes b _ => some (.byt b)
 | .float b _ => some (.flt b)
 | .ref a => some (.ref a)
 | .type n => some (.ty n)
 | _ => none
theorem RelV.abs {x : V} {u : Value} (r : RelV x u) : Kg u = some x := by
 cases x with
 | non => cases r; rfl
 | bl _ => cases r; rfl
 | int _ => obtain ⟨t, rfl⟩ := r; rfl
 | str _ => obtain ⟨t, rfl⟩ := r; rfl
 | byt _ => obtain ⟨t, rfl⟩ := r; rfl
 | flt _ => obtain ⟨t, rfl⟩ := r; rfl
 | ref _ => cases r; rfl
 | ty _ => cases r; rfl
theorem RelV.inj {x y : V} {u : Value} (r : RelV x u) (q : RelV y u) : x = y := Option.some.inj (r.abs.symm.trans q.abs)
theorem Vals.inj : ∀ {xs ys : List V} {us : List Value}, Vals xs us -> Vals ys us -> xs = ys
 | _, _, _, .nil, .nil => rfl
 | _, _, _, .cons r t, .cons r' t' => by rw [r.inj r', Vals.inj t t']
section
variable {X : Cx} {pins : List (Addr × Obj)} {σ : St} {H : Hp} {s : Shared} {a : Addr} {xs ys : List V}
theorem SqL.of {K : PySem.W.Frag} (h : H a = some (.lst xs)) : SqL K H a xs := .inl (.inl h)
theorem SqT.of {K : PySem.W.Frag} (h : H a = some (.tup xs)) : SqT K H a xs := .inl (.inl h)
theorem Inv.list (I : Inv X pins σ H s) (h : SqL X.K H a xs) : ∃ its : List Value, Vals xs its /\ PlainL s.heap a its.toArray /\ xs.length <= sizeLine := by
 rcases h with h | ⟨o, its, n, hk, hc, hd, hs, hz, r⟩
 ·obtain ⟨z, its, n, r, e⟩ := h.ok I.hok
  exact ⟨its, r, ⟨_, n, e, rfl, rfl, rfl⟩, z⟩
 ·refine ⟨its.toList, r, ⟨o, n, I.kIn a o hk, hc, hd, by simpa using hs⟩, ?_⟩
  have e := r.length
  simp only [Array.length_toList] at e
  omega
theorem Inv.tuple (I : Inv X pins σ H s) (h : SqT X.K H a xs) : ∃ its : List Value, Vals xs its /\ IsTup s.heap a its.toArray /\ xs.length <= sizeLine := by
 rcases h with h | ⟨o, its, n, hk, hc, hs, hz, r⟩
 ·obtain ⟨z, its, r, p⟩ := h.ok I.hok
  exact ⟨its, r, p, z⟩
 ·refine ⟨its.toList, r, ⟨o, I.kIn a o hk, hc, n, by simpa using hs⟩, ?_⟩
  have e := r.length
  simp only [Array.length_toList] at e
  omega
theorem Inv.list_inj (I : Inv X pins σ H s) (h : SqL X.K H a xs) (h' : SqL X.K H a ys) : xs = ys := by
 obtain ⟨its, r, ⟨o, n, e, _, _, d⟩, _⟩ := I.list h
 obtain ⟨its', r', ⟨o', n', e', _, _, d'⟩, _⟩ := I.list h'
 rw [e] at e'; cases e'
 rw [d] at d'
 injection d' with d1 _
 have : its = its' := by simpa using congrArg Array.toList d1
 subst this
 exact r.inj r'
theorem Inv.tuple_inj (I : Inv X pins σ H s) (h : SqT X.K H a xs) (h' : SqT X.K H a ys) : xs = ys := by
 obtain ⟨its, r, ⟨o, e, _, n, d⟩, _⟩ := I.tuple h
 obtain ⟨its', r', ⟨o', e', _, n', d'⟩, _⟩ := I.tuple h'
 rw [e] at e'; cases e'
 rw [d] at d'
 injection d' with d1 _
 have : its = its' := by simpa using congrArg Array.toList d1
 subst this
 exact r.inj r'
end
abbrev Cx.wish (X : Cx) (E : Value -> Shared -> Prop) : Cx := { X with xe := E }
abbrev Cx.nox (X : Cx) : Cx := X.wish fun _ _ => False
theorem Cx.Ok.wish {X : Cx} (ok : X.Ok) (E : Value -> Shared -> Prop) : (X.wish E).Ok :=
 ⟨ok.mod, ok.kind, ok.glob, ok.blt, ok.above, ok.inj, ok.has, ok.cab, ok.hd, ok.frames, ok.stk, ok.exf, ok.bs, ok.bsz, ok.noex, ok.exfs, ok.funs, ok.frf⟩
theorem Cx.Ok.unwish {X : Cx} {E : Value -> Shared -> Prop} (ok : (X.wish E).Ok) : X.Ok :=
 ⟨ok.mod, ok.kind, ok.glob, ok.blt, ok.above, ok.inj, ok.has, ok.cab, ok.hd, ok.frames, ok.stk, ok.exf, ok.bs, ok.bsz, ok.noex, ok.exfs, ok.funs, ok.frf⟩
section
variable {X : Cx} {pins : List (Addr × Obj)} {σ : St} {H : Hp} {s : Shared} {E : Value -> Shared -> Prop}
theorem Inv.wish (I : Inv X pins σ H s) (E : Value -> Shared -> Prop) : Inv (X.wish E) pins σ H s := ⟨I.ok.wish E, I.os, I.bare, I.base, I.loc, I.cell, I.free, I.freeC, I.pin, I.hok, I.len⟩
theorem Inv.unwish (I : Inv (X.wish E) pins σ H s) : Inv X pins σ H s := ⟨I.ok.unwish, I.os, I.bare, I.base, I.loc, I.cell, I.free, I.freeC, I.pin, I.hok, I.len⟩
theorem SP.unwish {D : Ends} {f : Flow} {s' : Shared} (h : SP (X.wish E) pins D f s') : SP X pins D f s' := by
 cases f with
 | next => obtain ⟨σ', H', I, q⟩ := h; exact ⟨σ', H', I.unwish, q⟩
 | brk => obtain ⟨σ', H', I, q⟩ := h; exact ⟨σ', H', I.unwish, q⟩
 | cont => obtain ⟨σ', H', I, q⟩ := h; exact ⟨σ', H', I.unwish, q⟩
 | ret u => obtain ⟨v, σ', H', I, r, q⟩ := h; exact ⟨v, σ', H', I.unwish, r, q⟩
theorem PE.nox {e : Expr} {t : TE} (h : PE X.nox e t) : PE X e t := fun pins s σ H Q I hw =>
 wpAny_mono (h pins s σ H Q (I.wish _) hw) (fun _ _ ⟨v, H', I', r, q⟩ => ⟨v, H', I'.unwish, r, q⟩) fun _ _ z => False.elim z
theorem PT.nox {e : Expr} {t : TT} (h : PT X.nox e t) : PT X e t := fun pins s σ H Q I hw =>
 wpAny_mono (h pins s σ H Q (I.wish _) hw) (fun _ _ ⟨H', I', q⟩ => ⟨H', I'.unwish, q⟩) fun _ _ z => False.elim z
theorem PSs.nox {st : List Stmt} {t : TS} (h : PSs X.nox st t) : PSs X st t := fun pins s σ H D I hw =>
 wpAny_mono (h pins s σ H D (I.wish _) hw) (fun _ _ q => q.unwish) fun _ _ z => False.elim z
end
section
variable {X : Cx} {st : Stmt} {rest : List Stmt} {t u : TS} {e : Expr} {te : TE} {pos : Pos}
def JX : TS := fun D σ H => D.nx σ H
def Iv (t u : TS) : TS := fun D σ H => t { D with nx := u D } σ H
theorem aP : PSs X [] JX := fun _ _ σ H _ I h => wpAny_execs_nil ⟨σ, H, I, h⟩
theorem au (h1 : PS X st t) (h2 : PSs X rest u) : PSs X (st :: rest) (Iv t u) := by
 intro pins s σ H D I h
 refine wpAny_execs_cons (thn (h1 pins s σ H { D with nx := u D } I h) fun f s1 q => ?_)
 cases f with
 | next =>
  obtain ⟨σ', H', I', q⟩ := q
  exact h2 pins s1 σ' H' D I' q
 | ret v => exact q
 | brk => exact q
 | cont => exact q
theorem aB (h1 : PS X st t) : PSs X [st] t := by
 intro pins s σ H D I h
 refine wpAny_execs_cons (thn (h1 pins s σ H D I h) fun f s1 q => ?_)
 cases f with
 | next => exact wpAny_execs_nil q
 | ret v => exact q
 | brk => exact q
 | cont => exact q
def LQ : TS := fun D σ H => D.bk σ H
def Ml : TS := fun D σ H => D.ct σ H
theorem Inv.quiet {pins : List (Addr × Obj)} {σ : St} {H : Hp} {s : Shared} (I : Inv X pins σ H s) : interactive X.env = false := by simp [interactive, I.ok.kind]
def JW (te : TE) : TS := fun D σ H => te σ H fun _ H1 => D.nx σ H1
theorem bw (he : PE X e te) (hs : swapsWith e none pos.line X.env = pure false := by rfl) : PS X (.Expr e pos) (JW te) := by
 intro pins s σ H D I h
 exact wpAny_Expr_any (thn (he pins s σ H _ I h) fun v s1 ⟨x, H1, I1, r1, q1⟩ => ⟨σ, H1, I1, q1⟩) I.quiet hs
def K5 (te : TE) : TS := fun D σ H => te σ H D.rt
theorem aN (he : PE X e te) : PS X (.Return (some e) pos) (K5 te) := by
 intro pins s σ H D I h
 exact wpAny_Return_some (thn (he pins s σ H _ I h) fun v s1 ⟨x, H1, I1, r1, q1⟩ => ⟨x, σ, H1, I1, r1, q1⟩)
def Mg : TS := fun D _ H => D.rt .non H
def K1 (c : TT) (t u : TS) : TS := fun D σ H => c σ H fun b H1 => if b = true then t D σ H1 else u D σ H1
theorem bj {c : Expr} {a b : List Stmt} {tc : TT} (hc : PT X c tc) (ha : PSs X a t) (hb : PSs X b u) : PS X (.If c a b pos) (K1 tc t u) := by
 intro pins s σ H D I h
 refine wpAny_If (thn (hc pins s σ H _ I h) fun d s1 ⟨H1, I1, q1⟩ => ?_)
 cases d with
 | true => exact ha pins s1 σ H1 D I1 q1
 | false => exact hb pins s1 σ H1 D I1 q1
def BZ : TS := fun _ _ _ => False
theorem nH : PS X st BZ := fun _ _ _ _ _ _ h => h.elim
theorem aY {sts : List Stmt} : PSs X sts BZ := fun _ _ _ _ _ _ h => h.elim
end
abbrev TG := V -> St -> Hp -> (St -> Hp -> Prop) -> Prop
abbrev TGs := List V -> St -> Hp -> (St -> Hp -> Prop) -> Prop
def PG (X : Cx) (target : Expr) (t : TG) : Prop :=
 ∀ (pins : List (Addr × Obj)) (s : Shared) (σ : St) (H : Hp) (v : V) (u : Value) (Q : St -> Hp -> Prop), Inv X pins σ H s -> RelV v u -> t v σ H Q ->
  wpAny (model X.prog X.w) X.A (assign target X.env u) (fun _ s' => ∃ σ' H', Inv X pins σ' H' s' /\ Q σ' H') X.xe s
def PGs (X : Cx) (ts : List Expr) (t : TGs) : Prop :=
 ∀ (pins : List (Addr × Obj)) (s : Shared) (σ : St) (H : Hp) (vs : List V) (us : List Value) (Q : St -> Hp -> Prop), Inv X pins σ H s -> Vals vs us -> t vs σ H Q ->
  wpAny (model X.prog X.w) X.A (assignInOrder ((assignEach ts X.env).map (·.2)) us) (fun _ s' => ∃ σ' H', Inv X pins σ' H' s' /\ Q σ' H') X.xe s
abbrev Bu := V -> V -> V -> Hp -> (Hp -> Prop) -> Prop
def Jb (X : Cx) (t : Bu) : Prop :=
 ∀ (pins : List (Addr × Obj)) (s : Shared) (σ : St) (H : Hp) (o i v : V) (ov iv u : Value) (Q : Hp -> Prop), Inv X pins σ H s -> RelV o ov -> RelV i iv -> RelV v u -> t o i v H Q ->
  wpAny (model X.prog X.w) X.A (setItem ov iv u) (fun _ s' => ∃ H', Inv X pins σ H' s' /\ Q H') X.xe s
abbrev TIp := V -> V -> Hp -> VK -> Prop
def PIp (X : Cx) (op : Operator) (t : TIp) : Prop :=
 ∀ (pins : List (Addr × Obj)) (s : Shared) (σ : St) (H : Hp) (x y : V) (v u : Value) (Q : VK), Inv X pins σ H s -> RelV x v -> RelV y u -> t x y H Q ->
  wpAny (model X.prog X.w) X.A (inplaceOp op v u) (EP X pins σ Q) X.xe s
section
variable {X : Cx} {pos : Pos}
def ik (i : Nat) : TG := fun v σ H Q => Q (σ.set i (some v)) H
theorem aW {i : Nat} {x : Str} (hN : X.N.Nodup) (hi : X.N[i]? = some x) (hx : Loc X.env.scope x) (hf : X.fn x = true \/ X.env.scope.names.lookup x = some .local := by first | exact .inl rfl | exact .inr rfl | assumption) : PG X (.Name x pos) (ik i) := by
 intro pins s σ H v u Q I r h
 exact wpAny_assign_Name (qN I hN hi hx r (fun s' I' => ⟨_, H, I', h⟩) hf)
def Kv : TGs := fun vs σ H Q => vs = [] /\ Q σ H
def J_ (t : TG) (u : TGs) : TGs := fun vs σ H Q => ∃ v r, vs = v :: r /\ t v σ H fun σ' H' => u r σ' H' Q
theorem pP : PGs X [] Kv := by
 intro pins s σ H vs us Q I r h
 obtain ⟨e, h⟩ := h
 subst e
 cases r
 exact assignInOrder_nil ⟨σ, H, I, h⟩
theorem fH {e : Expr} {es : List Expr} {t : TG} {u : TGs} (h1 : PG X e t) (h2 : PGs X es u)
  (hs : (assignEach (e :: es) X.env).map (·.2) = assign e X.env :: (assignEach es X.env).map (·.2) := by rfl) : PGs X (e :: es) (J_ t u) := by
 intro pins s σ H vs us Q I r h
 obtain ⟨v, vr, e1, h⟩ := h
 subst e1
 cases r with
 | cons r rr =>
  rw [hs]
  refine assignInOrder_cons (thn (h1 pins s σ H _ _ _ I r h) fun _ s1 ⟨σ1, H1, I1, q1⟩ => ?_)
  exact h2 pins s1 σ1 H1 _ _ Q I1 rr q1
def JG (K : PySem.W.Frag) (n : Nat) (t : TGs) : TG := fun v σ H Q => ∃ a xs, v = .ref a /\ SqT K H a xs /\ xs.length = n /\ t xs σ H Q
theorem Ie {es : List Expr} {k : Nat} {t : TGs} {n : Nat} (hc : X.calm = true) (h : PGs X es t)
  (hn : (assignEach es X.env).length = n := by rfl) (hst : (assignEach es X.env).findIdx? (·.1) = none := by rfl) : PG X (.Tuple es k pos) (JG X.K n t) := by
 intro pins s σ H v u Q I r hw
 obtain ⟨a, xs, e1, hq, hl, hw⟩ := hw
 subst e1
 cases r
 obtain ⟨its, rv, ht, hz⟩ := I.tuple hq
 refine assign_Tuple_tuple (I.ok.hd hc) ht (by simp [hn, <- hl, rv.length]) hst fun h' hx => ?_
 have I1 : Inv X pins σ H { s with heap := h' } := I.kept (t' := s.toks) fun b o e => hx b o (Nat.ne_of_lt (Heap.lt_size e)) e
 exact h pins _ σ H xs _ Q I1 (by simpa using rv) hw
def Kp (to ti : TE) (t : Bu) : TG := fun v σ H Q => to σ H fun o H1 => ti σ H1 fun i H2 => t o i v H2 fun H3 => Q σ H3
theorem Jl {o i : Expr} {to ti : TE} {t : Bu} (ho : PE X o to) (hi : PE X i ti) (hs : Jb X t)
  (ha : ∀ v, assign (.Subscript o i pos) X.env v = (do
   let ov <- holding [v] (eval o X.env)
   let iv <- holding [v, ov] (eval i X.env)
   standAt pos
   holding [v, ov, iv] (setItem ov iv v)
   release [v, ov, iv] []) := by intro _; rfl) : PG X (.Subscript o i pos) (Kp to ti t) := by
 intro pins s σ H v u Q I r h
 rw [ha]
 refine wpAny_bind (wpAny_holding (thn (ho pins s σ H _ I h) fun ov s1 ⟨x, H1, I1, r1, q1⟩ => ?_))
 refine wpAny_bind (wpAny_holding (thn (hi pins s1 σ H1 _ I1 q1) fun iv s2 ⟨y, H2, I2, r2, q2⟩ => ?_))
 refine wpAny_bind (wpAny_standAt (wpAny_bind (wpAny_holding (thn (hs pins s2 σ H2 x y v ov iv u _ I2 r1 r2 r q2) fun _ s3 ⟨H3, I3, q3⟩ => ?_))))
 exact wpAny_release ⟨σ, H3, I3, q3⟩
def Gk (te : TE) (g : TG) : TS := fun D σ H => te σ H fun x H1 => g x σ H1 D.nx
theorem IK {tg e : Expr} {te : TE} {g : TG} (he : PE X e te) (hg : PG X tg g) (hs : swapsWithSole [tg] e pos.line X.env = pure false := by rfl) (hw : swappedStores [tg] e X.env = pure none := by rfl)
  (h1 : (assignEach [tg] X.env).map (·.2) = [assign tg X.env] := by rfl) : PS X (.Assign [tg] e pos) (Gk te g) := by
 intro pins s σ H D I h
 refine wpAny_Assign_stores (thn (he pins s σ H _ I h) fun v s1 ⟨x, H1, I1, r1, q1⟩ => ?_) hs hw
 rw [h1]
 exact thn (hg pins s1 σ H1 x v _ I1 r1 q1) fun _ s2 q => q
theorem aU {i : Nat} {x : Str} {e : Expr} {te : TE} {pos' : Pos} (hN : X.N.Nodup) (hi : X.N[i]? = some x) (hx : Loc X.env.scope x) (he : PE X e te) (hs : swapsWith e (some (.Name x pos')) pos.line X.env = pure false := by rfl) (hf : X.fn x = true \/ X.env.scope.names.lookup x = some .local := by first | exact .inl rfl | exact .inr rfl | assumption) :
  PS X (.Assign [.Name x pos'] e pos) (Gk te (ik i)) := by
 intro pins s σ H D I h
 refine wpAny_Assign_Name (thn (he pins s σ H _ I h) fun v s1 ⟨y, H1, I1, r1, q1⟩ => ?_) hs
 exact qN I1 hN hi hx r1 (fun s2 I2 => ⟨_, H1, I2, q1⟩) hf
def Mq (i j : Nat) (ta : TA) : TS := fun D σ H => ta σ H fun vs H1 => ∃ v w, vs = [v, w] /\ D.nx ((σ.set i (some v)).set j (some w)) H1
def Mz (i : Nat) (te : TE) (ti : TIp) : TS := fun D σ H => ∃ x, σ[i]? = some (some x) /\ te σ H fun y H1 => ti x y H1 fun z H2 => D.nx (σ.set i (some z)) H2
def L_ (to ti te : TE) (tget : V -> V -> Hp -> VK -> Prop) (tip : TIp) (tset : Bu) : TS := fun D σ H => to σ H fun o H1 => ti σ H1 fun i H2 => tget o i H2 fun x H3 => te σ H3 fun y H4 => tip x y H4 fun z H5 => tset o i z H5 fun H6 => D.nx σ H6
def MJ (X : Cx) (t : V -> V -> Hp -> VK -> Prop) : Prop :=
 ∀ (pins : List (Addr × Obj)) (s : Shared) (σ : St) (H : Hp) (o i : V) (ov iv : Value) (Q : VK), Inv X pins σ H s -> RelV o ov -> RelV i iv -> t o i H Q ->
  wpAny (model X.prog X.w) X.A (getItem ov iv) (EP X pins σ Q) X.xe s
def ipI (f : Int -> Int -> Int) : TIp := fun x y H Q => ∃ i j, x = .int i /\ y = .int j /\ Q (.int (f i j)) H
end
section
variable {X : Cx} {pos : Pos}
def Jd (c : TT) (tb : TS) : TS := fun D σ H => ∃ W : Nat -> St -> Hp -> Prop, (∃ m, W m σ H) /\ ∀ m σ H, W m σ H ->
 c σ H fun b H1 => if b = true then ∃ N : St -> Hp -> Prop, (∀ σ' H', N σ' H' -> ∃ m', m' < m /\ W m' σ' H') /\ tb { D with nx := N, ct := N, bk := D.nx } σ H1 else D.nx σ H1
theorem xX {c : Expr} {body : List Stmt} {tc : TT} {tb : TS} (hp : PassesOwn (model X.prog X.w) X.A X.env X.xe) (hc : PT X c tc) (hb : PSs X body tb) : PS X (.While c body [] pos) (Jd tc tb) := by
 intro pins s σ H D I h
 obtain ⟨W, ⟨m0, w0⟩, turn⟩ := h
 refine wpAny_While (codeAny_whileLoop (fun n s' => ∃ σ' H', Inv X pins σ' H' s' /\ W n σ' H') ?_ m0 ⟨σ, H, I, w0⟩)
 rintro n s1 ⟨σ1, H1, I1, w1⟩
 refine wpAny_passesOwn hp (thn (hc pins s1 σ1 H1 _ I1 (turn n σ1 H1 w1)) fun b s2 ⟨H2, I2, q2⟩ => ?_)
 cases b with
 | true =>
  obtain ⟨N, hN, q2⟩ := q2
  rw [if_pos rfl]
  refine wpAny_passesOwn hp (thn (hb pins s2 σ1 H2 _ I2 q2) fun f s3 q3 => ?_)
  cases f with
  | next =>
   obtain ⟨σ3, H3, I3, n3⟩ := q3
   obtain ⟨m', hm, w3⟩ := hN σ3 H3 n3
   exact ⟨m', hm, σ3, H3, I3, w3⟩
  | cont =>
   obtain ⟨σ3, H3, I3, n3⟩ := q3
   obtain ⟨m', hm, w3⟩ := hN σ3 H3 n3
   exact ⟨m', hm, σ3, H3, I3, w3⟩
  | brk => exact q3
  | ret v => exact q3
 | false =>
  rw [if_neg Bool.false_ne_true]
  exact wpAny_execs_nil ⟨σ1, H2, I2, q2⟩
end
structure It where
 go : Nat -> Hp -> Prop
 yld : Nat -> Hp -> V -> Hp -> Prop
 stop : Nat -> Hp -> Prop
def gK (X : Cx) (pins : List (Addr × Obj)) (H : Hp) (b : Addr) : Prop :=
 H b = none /\ b ≠ X.env.locals /\ b ∉ X.fs /\ (b ∈ X.ex \/ X.s₀.heap.objs.size <= b) /\ (∀ x c, X.env.cells.lookup x = some c -> c ≠ b) /\ ∀ p ∈ X.pn ++ pins, p.1 ≠ b
theorem Inv.fpOk {X : Cx} {pins : List (Addr × Obj)} {σ : St} {H H' : Hp} {s : Shared} {b : Addr} (I : Inv X pins σ H s) (hb : s.heap.objs.size <= b) (hn : H' b = none) : gK X pins H' b := by
 refine ⟨hn, Nat.ne_of_gt (Nat.lt_of_lt_of_le I.lt hb), I.nofs hb, .inr (Nat.le_trans I.sz hb), fun x c e z => ?_, fun p hp z => ?_⟩
 ·obtain ⟨v, q⟩ := I.cell x c e
  exact absurd (Nat.lt_of_lt_of_le q.lt (by rw [z]; exact hb)) (Nat.lt_irrefl _)
 ·exact absurd (Nat.lt_of_lt_of_le (Heap.lt_size (I.pin p hp).1) (by rw [z]; exact hb)) (Nat.lt_irrefl _)
structure Turn (P : Program) (w : World) (K : PySem.W.Frag) (tg : Expr) (J : It) (fp : List Addr) (it : Addr) (tn : Nat -> Heap -> Prop) : Prop where
 mem : it ∈ fp
 obj : ∀ i h, tn i h -> ∀ b ∈ fp, ∃ o, h.get? b = some o /\ ∀ v, o.data ≠ .cell v
 keep : ∀ i h h', tn i h -> (∀ b ∈ fp, ∀ o, h.get? b = some o -> h'.get? b = some o) -> tn i h'
 item : ∀ (X : Cx), X.prog = P -> X.w = w -> X.K = K -> X.calm = true -> ∀ (i : Nat) (pins : List (Addr × Obj)) (s : Shared) (σ : St) (H : Hp) (E : Value -> Shared -> Prop), Inv X pins σ H s -> (∀ b ∈ fp, gK X pins H b) -> tn i s.heap -> J.go i H ->
  wpAny (model P w) X.A (pyNext (.ref it)) (fun r s1 => ∃ u, r = some u /\
   wpAny (model P w) X.A (letOwnedTupleGo tg (.ref it) u) (fun _ s2 => ∃ x H', Inv X pins σ H' s2 /\ RelV x u /\ J.yld i H x H' /\ tn (i + 1) s2.heap /\ ∀ b ∈ fp, H' b = none) E s1) E s
 done : ∀ (X : Cx), X.prog = P -> X.w = w -> X.K = K -> X.calm = true -> ∀ (i : Nat) (pins : List (Addr × Obj)) (s : Shared) (σ : St) (H : Hp) (E : Value -> Shared -> Prop), Inv X pins σ H s -> (∀ b ∈ fp, gK X pins H b) -> tn i s.heap -> J.stop i H ->
  wpAny (model P w) X.A (pyNext (.ref it)) (fun r s1 => r = none /\ Inv X pins σ H s1) E s
 self : ∀ (A : Around) (i : Nat) (s : Shared) (Q : Value -> Shared -> Prop) (E : Value -> Shared -> Prop), tn i s.heap -> Q (.ref it) s -> wpAny (model P w) A (pyIter (.ref it)) Q E s
abbrev TI := St -> Hp -> (It -> Hp -> Prop) -> Prop
def PIE (X : Cx) (pins : List (Addr × Obj)) (σ : St) (tg : Expr) (R : It -> Hp -> Prop) (itv : Value) (s2 : Shared) : Prop :=
 ∃ (it : Addr) (fp : List Addr) (tn : Nat -> Heap -> Prop) (J : It) (H' : Hp), itv = .ref it /\ Inv X pins σ H' s2 /\ Turn X.prog X.w X.K tg J fp it tn /\ tn 0 s2.heap /\ (∀ b ∈ fp, gK X pins H' b) /\ R J H'
def PI (X : Cx) (tg iter : Expr) (wi : TI) : Prop :=
 ∀ (pins : List (Addr × Obj)) (s : Shared) (σ : St) (H : Hp) (R : It -> Hp -> Prop), Inv X pins σ H s -> wi σ H R ->
  wpAny (model X.prog X.w) X.A (eval iter X.env) (fun v s1 => wpAny (model X.prog X.w) X.A (pyIter v) (PIE X pins σ tg R) X.xe s1) X.xe s
theorem Gx {M : Model} {A : Around} {E : Value -> Shared -> Prop} {s : Shared} {tg : Expr} {it : Addr} {u : Value} {o : Obj} {n : String} {vs : Array Value} {Q : Unit -> Shared -> Prop} (ho : s.heap.get? it = some o) (hc : o.cls = .type n) (hd : o.data = .fields vs)
    (hn : ["enumerate", "zip", "dict_itemiterator", "dict_reverseitemiterator", "odict_iterator", "itertools.zip_longest", "itertools.pairwise"].contains n = false) (hQ : Q () s) : wpAny M A (letOwnedTupleGo tg (.ref it) u) Q E s := by
  unfold letOwnedTupleGo
  cases tg <;> first
    | exact wpAny_pure hQ
    | (cases u <;> first
        | exact wpAny_pure hQ
        | (refine wpAny_bind (wpAny_load ho ?_)
           rw [hc, hd]
           show wpAny M A (if (["enumerate", "zip", "dict_itemiterator", "dict_reverseitemiterator", "odict_iterator", "itertools.zip_longest", "itertools.pairwise"].contains n && vs[0]? == some (rawInt _)) = true then _ else _) Q E s
           rw [if_neg (by intro h; rw [hn, Bool.false_and] at h; cases h)]
           exact wpAny_pure hQ))
def Itl (K : PySem.W.Frag) (a : Addr) : It :=
 ⟨fun i H => ∃ xs x, SqL K H a xs /\ xs[i]? = some x, fun i H x H' => H' = H /\ ∀ xs, SqL K H a xs -> xs[i]? = some x, fun i H => ∃ xs, SqL K H a xs /\ xs.length <= i⟩
def Itt (K : PySem.W.Frag) (a : Addr) : It :=
 ⟨fun i H => ∃ xs x, SqT K H a xs /\ xs[i]? = some x, fun i H x H' => H' = H /\ ∀ xs, SqT K H a xs -> xs[i]? = some x, fun i H => ∃ xs, SqT K H a xs /\ xs.length <= i⟩
def Itr (lo : Int) (n : Nat) : It := ⟨fun i _ => i < n, fun i H x H' => H' = H /\ x = .int (lo + i), fun i _ => n <= i⟩
theorem De {P : Program} {w : World} {K : PySem.W.Frag} {tg : Expr} (a it : Addr) : Turn P w K tg (Itl K a) [it] it (fun i h => h.IsListIter it a i) where
 mem := by simp
 obj := fun i h st b hb => by
  have e : b = it := by simpa using hb
  subst e
  obtain ⟨o, e, c, d⟩ := st
  exact ⟨o, e, fun v z => by rw [d] at z; cases z⟩
 keep := fun i h h' st k => st.at fun o e => k it (by simp) o e
 item := by
  intro X hP hw hK hc i pins s σ H E I hf st hg
  subst hP hw hK
  obtain ⟨xs, x, hq, hx⟩ := hg
  obtain ⟨its, rv, p, hz⟩ := I.list hq
  obtain ⟨u, hu, ru⟩ := rv.get hx
  obtain ⟨f0, f1, f2, f3, f4, f5⟩ := hf it (by simp)
  refine wpAny_pyNext_list_item st p.isList (x := u) (by simpa using hu) fun h' st' sb => ?_
  have I1 : Inv X pins σ H { s with heap := h' } := I.turned (t' := s.toks) (fun b o hb e => (sb.2 b hb).trans e) f0 f1 f3 f4 f5
  obtain ⟨o, e, c, d⟩ := id st'
  exact ⟨u, rfl, Gx (s := { s with heap := h' }) e c d (by decide) ⟨x, H, I1, ru, ⟨rfl, fun ys hy => by rw [I.list_inj hy hq]; exact hx⟩, st', fun b hb => (hf b hb).1⟩⟩
 done := by
  intro X hP hw hK hc i pins s σ H E I hf st hg
  subst hP hw hK
  obtain ⟨xs, hq, hx⟩ := hg
  obtain ⟨its, rv, p, hz⟩ := I.list hq
  obtain ⟨f0, f1, f2, f3, f4, f5⟩ := hf it (by simp)
  have hl := rv.length
  exact wpAny_pyNext_list_end (I.ok.hd hc) st p.isList (by simp; omega) fun h' eb => ⟨rfl, I.turned (t' := s.toks) (fun b o hb e => eb b o hb e) f0 f1 f3 f4 f5⟩
 self := fun _ _ _ _ _ st h => wpAny_pyIter_listiter st h
theorem Az {P : Program} {w : World} {K : PySem.W.Frag} {tg : Expr} (it : Addr) (lo : Int) (n : Nat) : Turn P w K tg (Itr lo n) [it] it (fun i h => IsRangeIter h it (lo + (i : Nat) * 1) ((n : Int) - (i : Nat)) 1) where
 mem := by simp
 obj := fun i h st b hb => by
  have e : b = it := by simpa using hb
  subst e
  exact ⟨_, st, fun v z => by
   have z' : Data.fields _ = Data.cell v := z
   cases z'⟩
 keep := fun i h h' st k => k it (by simp) _ st
 item := by
  intro X hP hw hK hc i pins s σ H E I hf st hg
  subst hP hw hK
  obtain ⟨f0, f1, f2, f3, f4, f5⟩ := hf it (by simp)
  have W := Walks.range (prog := X.prog) (w := X.w) (I.ok.hd hc) it lo 1 n
  refine W.item i s _ _ hg st fun v h' tk hv st' kk => ?_
  obtain ⟨t, rfl⟩ := hv
  have I1 : Inv X pins σ H { s with heap := h', toks := tk } := I.turned (fun b o hb e => kk b o (by simpa using hb) e) f0 f1 f3 f4 f5
  refine ⟨_, rfl, Gx (s := { s with heap := h', toks := tk }) (n := "range_iterator") st' rfl rfl (by decide) ⟨.int (lo + i), H, I1, ⟨t, ?_⟩, ⟨rfl, rfl⟩, st', fun b hb => (hf b hb).1⟩⟩
  rw [Int.mul_one]
 done := by
  intro X hP hw hK hc i pins s σ H E I hf st hg
  subst hP hw hK
  obtain ⟨f0, f1, f2, f3, f4, f5⟩ := hf it (by simp)
  exact wpAny_pyNext_range_end (I.ok.hd hc) st (by have : n <= i := hg; omega) fun h' eb => ⟨rfl, I.turned (t' := s.toks) (fun b o hb e => eb b o hb e) f0 f1 f3 f4 f5⟩
 self := fun _ _ _ _ _ st h => wpAny_pyIter_rangeiter st h
end L2
namespace L2
open PySem PySem.Spec PyProof.Rows
section
variable {X : Cx} {tg : Expr}
def Gp (K : PySem.W.Frag) (tl : TE) : TI := fun σ H R => tl σ H fun x H1 => ∃ a, x = .ref a /\ (∃ xs, SqL K H1 a xs) /\ R (Itl K a) H1
def Mw (K : PySem.W.Frag) (tl : TE) : TI := fun σ H R => tl σ H fun x H1 => ∃ a, x = .ref a /\ (∃ xs, SqT K H1 a xs) /\ R (Itt K a) H1
theorem G4 {l : Expr} {tl : TE} (hl : PE X l tl) : PI X tg l (Gp X.K tl) := by
 intro pins s σ H R I h
 refine thn (hl pins s σ H _ I h) fun v s1 ⟨x, H1, I1, r1, q1⟩ => ?_
 obtain ⟨a, e, ⟨xs, hq⟩, q⟩ := q1
 subst e
 cases r1
 obtain ⟨its, rv, p, hz⟩ := I1.list hq
 refine wpAny_pyIter_list p.isList ?_
 refine ⟨s1.heap.objs.size, [s1.heap.objs.size], _, _, H1, rfl, I1.kept (t' := s1.toks) fun b o e => Heap.get?_push_of_some _ e, De a _, ⟨_, Heap.get?_push_size _ rfl, rfl, rfl⟩, fun b hb => ?_, q⟩
 have e : b = s1.heap.objs.size := by simpa using hb
 subst e
 exact I1.fpOk (Nat.le_refl _) (I1.hok.fresh (Nat.le_refl _))
theorem Ga {pins : List (Addr × Obj)} {σ : St} {H : Hp} {s : Shared} {R : It -> Hp -> Prop} {E : Value -> Shared -> Prop} {lo hi : Int} {t u v : Tok} {tk : Nat} (I : Inv X pins σ H s) (h1 : -(2 ^ 62) <= lo) (h2 : lo < 2 ^ 62) (h3 : -(2 ^ 62) <= hi) (h4 : hi < 2 ^ 62)
  (q : R (Itr lo (hi - lo).toNat) H) : wpAny (model X.prog X.w) X.A (pyIter (.ref s.heap.objs.size)) (PIE X pins σ tg R) E { s with heap := s.heap.push { cls := .type "range", data := .fields #[.int lo t, .int hi u, .int 1 v] }, toks := tk } := by
 refine wpAny_pyIter_range (IsRange.new ..) (small_one h1 h2 h3 h4) ?_
 have I1 : Inv X pins σ H { s with heap := s.heap.push { cls := .type "range", data := .fields #[.int lo t, .int hi u, .int 1 v] }, toks := tk } := I.kept fun b o e => Heap.get?_push_of_some _ e
 refine ⟨(s.heap.push { cls := .type "range", data := .fields #[.int lo t, .int hi u, .int 1 v] }).objs.size, [(s.heap.push { cls := .type "range", data := .fields #[.int lo t, .int hi u, .int 1 v] }).objs.size], _, _, H, rfl,
  I1.kept (t' := tk) fun b o e => Heap.get?_push_of_some _ e, Az _ lo (hi - lo).toNat, ?_, fun b hb => ?_, q⟩
 ·have e1 : lo + ((0 : Nat) : Int) * 1 = lo := by simp
  have e2 : (((hi - lo).toNat : Nat) : Int) - ((0 : Nat) : Int) = Builtin.Range.rangeSize lo hi 1 := by rw [rangeSize_one]; split <;> omega
  show IsRangeIter _ _ (lo + ((0 : Nat) : Int) * 1) ((((hi - lo).toNat : Nat) : Int) - ((0 : Nat) : Int)) 1
  rw [e1, e2]
  exact Heap.get?_push_size _ rfl
 ·have e : b = (s.heap.push { cls := .type "range", data := .fields #[.int lo t, .int hi u, .int 1 v] }).objs.size := by simpa using hb
  subst e
  exact I1.fpOk (Nat.le_refl _) (I1.hok.fresh (Nat.le_refl _))
def JT (ta : TA) : TI := fun σ H R => ta σ H fun vs H1 => ∃ j : Int, vs = [.int j] /\ -(2 ^ 62) <= j /\ j < 2 ^ 62 /\ R (Itr 0 j.toNat) H1
def Mi (ta : TA) : TI := fun σ H R => ta σ H fun vs H1 => ∃ i j : Int, vs = [.int i, .int j] /\ (-(2 ^ 62) <= i /\ i < 2 ^ 62 /\ -(2 ^ 62) <= j /\ j < 2 ^ 62) /\ R (Itr i (j - i).toNat) H1
theorem kj {a : Expr} {ta : TA} {p pos : Pos} (hg : Gl X "range") (hm : X.mg "range" = none) (ha : PA X [a] ta) (hs : starEach [a] X.env = [(false, eval a X.env)] := by rfl) : PI X tg (.Call (.Name "range" p) [a] [] pos) (JT ta) := by
 intro pins s σ H R I h
 refine Call_ (jc I hg hm boot_range (PyProof.Rows.callWith_type1 (thn (ha pos pins s σ H _ I h) fun us s1 ⟨vs, H1, I1, r1, q1⟩ => ?_) hs rfl))
 obtain ⟨j, e, q1, q2, q⟩ := q1
 subst e
 cases r1 with
 | cons r rr =>
  cases rr
  obtain ⟨t, rfl⟩ := r
  exact call_range_1 (Ga I1 (by omega) (by omega) q1 q2 (by simpa using q))
def Ku (wi : TI) (g : TG) (tb : TS) : TS := fun D σ H => wi σ H fun J H1 => ∃ W : Nat -> Nat -> St -> Hp -> Prop, (∃ m, W 0 m σ H1) /\ ∀ i m σ H, W i m σ H ->
 (J.stop i H /\ D.nx σ H) \/ (J.go i H /\ ∃ N : St -> Hp -> Prop, (∀ σ' H', N σ' H' -> ∃ m', m' < m /\ W (i + 1) m' σ' H') /\ ∀ x H', J.yld i H x H' -> g x σ H' fun σ2 H2 => tb { D with nx := N, ct := N, bk := D.nx } σ2 H2)
def jQ (fp : List Addr) (h : Heap) : List (Addr × Obj) := fp.filterMap fun b => (h.get? b).map fun o => (b, o)
theorem m8 {fp : List Addr} {h : Heap} {b : Addr} {o : Obj} (hb : b ∈ fp) (e : h.get? b = some o) : (b, o) ∈ jQ fp h := List.mem_filterMap.mpr ⟨b, hb, by rw [e]; rfl⟩
theorem u9 {fp : List Addr} {h : Heap} {p : Addr × Obj} (hp : p ∈ jQ fp h) : p.1 ∈ fp /\ h.get? p.1 = some p.2 := by
 obtain ⟨b, hb, e⟩ := List.mem_filterMap.mp hp
 cases q : h.get? b with
 | none => rw [q] at e; cases e
 | some o =>
  rw [q] at e
  have e' : (b, o) = p := Option.some.inj e
  subst e'
  exact ⟨hb, q⟩
theorem Inv.pinned {pins : List (Addr × Obj)} {σ : St} {H : Hp} {s : Shared} {fp : List Addr} (I : Inv X pins σ H s) (hf : ∀ b ∈ fp, gK X pins H b) (ho : ∀ b ∈ fp, ∃ o, s.heap.get? b = some o /\ ∀ v, o.data ≠ .cell v) : Inv X (pins ++ jQ fp s.heap) σ H s :=
 I.pins_of fun p hp => (List.mem_append.mp hp).elim (fun z => I.pin p (List.mem_append_right _ z)) fun z => by
  obtain ⟨hb, e⟩ := u9 z
  obtain ⟨f0, f1, f2, _⟩ := hf p.1 hb
  obtain ⟨o, e', d⟩ := ho p.1 hb
  rw [e] at e'; cases e'
  exact ⟨e, f0, f1, f2, d⟩
theorem Inv.unpinned {pins pl : List (Addr × Obj)} {σ : St} {H : Hp} {s : Shared} (I : Inv X (pins ++ pl) σ H s) : Inv X pins σ H s := I.pins_of fun p hp => I.pin p (List.mem_append_right _ (List.mem_append_left _ hp))
theorem cX {iter : Expr} {body : List Stmt} {wi : TI} {g : TG} {tb : TS} {pos : Pos} (hp : PassesOwn (model X.prog X.w) X.A X.env X.xe) (hc : X.calm = true) (hi : PI X tg iter wi) (hg : PG X tg g) (hb : PSs X body tb)
  (hs : ∀ x, foldedSetIterable iter X.env x = pure x := by intro _; rfl) : PS X (.For tg iter body [] pos) (Ku wi g tb) := by
 intro pins s σ H D I h
 refine wpAny_For (thn (hi pins s σ H _ I h) fun v s1 h1 => thn h1 fun itv s2 h2 => ?_) hs
 obtain ⟨it, fp, tn, J, H2, e, I2, T, st2, f2, W, ⟨m0, w0⟩, turn⟩ := h2
 subst e
 have stat : ∀ {H' : Hp}, (∀ b ∈ fp, H' b = none) -> ∀ b ∈ fp, gK X pins H' b := fun hn b hb => ⟨hn b hb, (f2 b hb).2⟩
 refine codeAny_forLoop_any (fun n s' => ∃ i σ' H', Inv X pins σ' H' s' /\ tn i s'.heap /\ (∀ b ∈ fp, H' b = none) /\ W i n σ' H') ?_ m0 ⟨0, σ, H2, I2, st2, fun b hb => (f2 b hb).1, w0⟩
 rintro n s3 ⟨i, σ3, H3, I3, st3, fr3, w3⟩
 rcases turn i n σ3 H3 w3 with ⟨stop, qn⟩ | ⟨go, N, hN, step⟩
 ·refine wpAny_passesOwn hp (thn (T.done X rfl rfl rfl hc i pins s3 σ3 H3 X.xe I3 (stat fr3) st3 stop) fun r s4 ⟨hr, I4⟩ => ?_)
  subst hr
  exact wpAny_execs_nil ⟨σ3, H3, I4, qn⟩
 ·refine wpAny_passesOwn hp (thn (T.item X rfl rfl rfl hc i pins s3 σ3 H3 X.xe I3 (stat fr3) st3 go) fun r s4 ⟨u, hr, h4⟩ => ?_)
  subst hr
  refine wpAny_passesOwn hp (thn h4 fun _ s5 ⟨x, H5, I5, r5, y5, st5, fr5⟩ => ?_)
  have I5' := I5.pinned (stat fr5) (T.obj _ _ st5)
  refine wpAny_passesOwn hp (thn (hg _ s5 σ3 H5 x u _ I5' r5 (step x H5 y5)) fun _ s6 ⟨σ6, H6, I6, q6⟩ => ?_)
  refine wpAny_passesOwn hp (thn (hb _ s6 σ6 H6 _ I6 q6) fun f s7 q7 => ?_)
  have again : ∀ {σ7 : St} {H7 : Hp}, Inv X (pins ++ jQ fp s5.heap) σ7 H7 s7 -> N σ7 H7 -> ∃ m, m < n /\ ∃ i σ' H', Inv X pins σ' H' s7 /\ tn i s7.heap /\ (∀ b ∈ fp, H' b = none) /\ W i m σ' H' := fun {σ7 H7} I7 n7 => by
   obtain ⟨m', hm, w7⟩ := hN σ7 H7 n7
   refine ⟨m', hm, i + 1, σ7, H7, I7.unpinned, T.keep _ _ _ st5 fun b hb o e => (I7.pin (b, o) (List.mem_append_right _ (List.mem_append_right _ (m8 hb e)))).1, fun b hb => ?_, w7⟩
   obtain ⟨o, e, d⟩ := T.obj _ _ st5 b hb
   exact (I7.pin (b, o) (List.mem_append_right _ (List.mem_append_right _ (m8 hb e)))).2.1
  cases f with
  | next => obtain ⟨σ7, H7, I7, n7⟩ := q7; exact again I7 n7
  | cont => obtain ⟨σ7, H7, I7, n7⟩ := q7; exact again I7 n7
  | brk => obtain ⟨σ7, H7, I7, q7⟩ := q7; exact ⟨σ7, H7, I7.unpinned, q7⟩
  | ret v => obtain ⟨x7, σ7, H7, I7, r7, q7⟩ := q7; exact ⟨x7, σ7, H7, I7.unpinned, r7, q7⟩
end
theorem dz {K : PySem.W.Frag} {a : Addr} {xs : List V} {g : TG} {tb : TS} {D : Ends} {σ : St} {H : Hp} (Pv : Nat -> St -> Hp -> Prop) (h0 : Pv 0 σ H) (hl : ∀ i σ H, i <= xs.length -> Pv i σ H -> SqL K H a xs)
  (hs : ∀ i x σ H, xs[i]? = some x -> Pv i σ H -> g x σ H fun σ2 H2 => tb { D with nx := Pv (i + 1), ct := Pv (i + 1), bk := D.nx } σ2 H2) (hd : ∀ σ H, Pv xs.length σ H -> D.nx σ H) :
  ∃ W : Nat -> Nat -> St -> Hp -> Prop, (∃ m, W 0 m σ H) /\ ∀ i m σ H, W i m σ H ->
   ((Itl K a).stop i H /\ D.nx σ H) \/ ((Itl K a).go i H /\ ∃ N : St -> Hp -> Prop, (∀ σ' H', N σ' H' -> ∃ m', m' < m /\ W (i + 1) m' σ' H') /\ ∀ x H', (Itl K a).yld i H x H' -> g x σ H' fun σ2 H2 => tb { D with nx := N, ct := N, bk := D.nx } σ2 H2) := by
 refine ⟨fun i m σ H => m = xs.length - i /\ i <= xs.length /\ Pv i σ H, ⟨xs.length, by simp, Nat.zero_le _, h0⟩, ?_⟩
 rintro i m σ H ⟨rfl, hi, p⟩
 have q := hl i σ H hi p
 by_cases hlt : i < xs.length
 ·refine .inr ⟨⟨xs, xs[i], q, by simp [hlt]⟩, Pv (i + 1), fun σ' H' p' => ⟨xs.length - (i + 1), by omega, rfl, hlt, p'⟩, fun x H' y => ?_⟩
  obtain ⟨e, y⟩ := y
  subst e
  exact hs i x σ _ (y xs q) p
 ·have e : i = xs.length := by omega
  subst e
  exact .inl ⟨⟨xs, q, Nat.le_refl _⟩, hd σ H p⟩
theorem uM {lo : Int} {n : Nat} {g : TG} {tb : TS} {D : Ends} {σ : St} {H : Hp} (Pv : Nat -> St -> Hp -> Prop) (h0 : Pv 0 σ H)
  (hs : ∀ i σ H, i < n -> Pv i σ H -> g (.int (lo + i)) σ H fun σ2 H2 => tb { D with nx := Pv (i + 1), ct := Pv (i + 1), bk := D.nx } σ2 H2) (hd : ∀ σ H, Pv n σ H -> D.nx σ H) :
  ∃ W : Nat -> Nat -> St -> Hp -> Prop, (∃ m, W 0 m σ H) /\ ∀ i m σ H, W i m σ H ->
   ((Itr lo n).stop i H /\ D.nx σ H) \/ ((Itr lo n).go i H /\ ∃ N : St -> Hp -> Prop, (∀ σ' H', N σ' H' -> ∃ m', m' < m /\ W (i + 1) m' σ' H') /\ ∀ x H', (Itr lo n).yld i H x H' -> g x σ H' fun σ2 H2 => tb { D with nx := N, ct := N, bk := D.nx } σ2 H2) := by
 refine ⟨fun i m σ H => m = n - i /\ i <= n /\ Pv i σ H, ⟨n, by simp, Nat.zero_le _, h0⟩, ?_⟩
 rintro i m σ H ⟨rfl, hi, p⟩
 by_cases hlt : i < n
 ·refine .inr ⟨hlt, Pv (i + 1), fun σ' H' p' => ⟨n - (i + 1), by omega, rfl, hlt, p'⟩, fun x H' y => ?_⟩
  obtain ⟨e, y⟩ := y
  subst e y
  exact hs i σ _ hlt p
 ·have e : i = n := by omega
  subst e
  exact .inl ⟨Nat.le_refl _, hd σ H p⟩
end L2
namespace L2
open PySem PySem.Spec PyProof.Rows
abbrev R2 := V -> V -> Hp -> VK -> Prop
def OpR (X : Cx) (f : Value -> Value -> Sem Value) (r : R2) : Prop :=
 ∀ (pins : List (Addr × Obj)) (s : Shared) (σ : St) (H : Hp) (x y : V) (v u : Value) (Q : VK), Inv X pins σ H s -> RelV x v -> RelV y u -> r x y H Q ->
  wpAny (model X.prog X.w) X.A (f v u) (EP X pins σ Q) X.xe s
def UnR (X : Cx) (f : Value -> Sem Value) (r : V -> Hp -> VK -> Prop) : Prop :=
 ∀ (pins : List (Addr × Obj)) (s : Shared) (σ : St) (H : Hp) (x : V) (v : Value) (Q : VK), Inv X pins σ H s -> RelV x v -> r x H Q ->
  wpAny (model X.prog X.w) X.A (f v) (EP X pins σ Q) X.xe s
def CallR (X : Cx) (f : Value) (r : List V -> Hp -> VK -> Prop) : Prop :=
 ∀ (pins : List (Addr × Obj)) (s : Shared) (σ : St) (H : Hp) (xs : List V) (us : List Value) (Q : VK), Inv X pins σ H s -> Vals xs us -> r xs H Q ->
  wpAny (model X.prog X.w) X.A (call f us) (EP X pins σ Q) X.xe s
def M3 (X : Cx) (r : V -> Hp -> (Bool -> Hp -> Prop) -> Prop) : Prop :=
 ∀ (pins : List (Addr × Obj)) (s : Shared) (σ : St) (H : Hp) (x : V) (v : Value) (Q : Bool -> Hp -> Prop), Inv X pins σ H s -> RelV x v -> r x H Q ->
  wpAny (model X.prog X.w) X.A (truthy v) (TP X pins σ Q) X.xe s
def tOp (r : R2) (ta tb : TE) : TE := fun σ H Q => ta σ H fun x H1 => tb σ H1 fun y H2 => r x y H2 Q
def tUn (r : V -> Hp -> VK -> Prop) (ta : TE) : TE := fun σ H Q => ta σ H fun x H1 => r x H1 Q
def rI (C : Int -> Int -> Prop) (g : Int -> Int -> V) : R2 := fun x y H Q => ∃ i j, x = .int i /\ y = .int j /\ C i j /\ Q (g i j) H
def rI0 (g : Int -> Int -> V) : R2 := fun x y H Q => ∃ i j, x = .int i /\ y = .int j /\ Q (g i j) H
def rU (g : Int -> V) : V -> Hp -> VK -> Prop := fun x H Q => ∃ i, x = .int i /\ Q (g i) H
section
variable {X : Cx} {a b c : Expr} {ta tb tc : TE} {pos : Pos}
theorem Ft (ha : PE X a ta) (hb : PE X b tb) {pins : List (Addr × Obj)} {s : Shared} {σ : St} {H : Hp} {R : V -> V -> Hp -> Prop} (I : Inv X pins σ H s)
  (h : ta σ H fun x H1 => tb σ H1 fun y H2 => R x y H2) {Q : Value -> Shared -> Prop} {f : Value -> Value -> Sem Value}
  (hf : ∀ v u s2 x y H2, Inv X pins σ H2 s2 -> RelV x v -> RelV y u -> R x y H2 -> wpAny (model X.prog X.w) X.A (f v u) Q X.xe s2) :
  wpAny (model X.prog X.w) X.A (eval a X.env) (fun v s₁ => wpAny (model X.prog X.w) X.A (eval b X.env) (fun u s₂ => wpAny (model X.prog X.w) X.A (f v u) Q X.xe s₂) X.xe s₁) X.xe s := by
 refine thn (ha pins s σ H _ I h) fun v s1 ⟨x, H1, I1, r1, q1⟩ => ?_
 refine thn (hb pins s1 σ H1 _ I1 q1) fun u s2 ⟨y, H2, I2, r2, q2⟩ => ?_
 exact hf v u s2 x y H2 I2 r1 r2 q2
theorem bu {op : Operator} {r : R2} (ho : OpR X (binaryOp op) r) (ha : PE X a ta) (hb : PE X b tb) : PE X (.BinOp a op b pos) (tOp r ta tb) := by
 intro pins s σ H Q I h
 exact wpAny_BinOp (Ft ha hb I h fun v u s2 x y H2 I2 rx ry q => ho pins s2 σ H2 x y v u Q I2 rx ry q)
theorem tG {op : UnaryOp} {r : V -> Hp -> VK -> Prop} (ho : UnR X (unaryOp op) r) (ha : PE X a ta) : PE X (.UnaryOp op a pos) (tUn r ta) := by
 intro pins s σ H Q I h
 exact UnaryOp_ (thn (ha pins s σ H _ I h) fun v s1 ⟨x, H1, I1, r1, q1⟩ => ho pins s1 σ H1 x v Q I1 r1 q1)
theorem opI {f : Value -> Value -> Sem Value} {C : Int -> Int -> Prop} {g : Int -> Int -> Int}
  (rule : ∀ (i j : Int) (t u : Tok) (s : Shared) (Q : Value -> Shared -> Prop) (E : Value -> Shared -> Prop), C i j -> Q (.int (g i j) s.toks) { s with toks := s.toks + 1 } -> wpAny (model X.prog X.w) X.A (f (.int i t) (.int j u)) Q E s) :
  OpR X f (rI C fun i j => .int (g i j)) := by
 intro pins s σ H x y v u Q I rx ry h
 obtain ⟨i, j, rfl, rfl, hc, q⟩ := h
 obtain ⟨t, rfl⟩ := rx
 obtain ⟨t', rfl⟩ := ry
 exact rule i j t t' s _ _ hc ⟨.int (g i j), H, I.tok _, ⟨_, rfl⟩, q⟩
theorem Il {f : Value -> Value -> Sem Value} {g : Int -> Int -> Int}
  (rule : ∀ (i j : Int) (t u : Tok) (s : Shared) (Q : Value -> Shared -> Prop) (E : Value -> Shared -> Prop), Q (.int (g i j) s.toks) { s with toks := s.toks + 1 } -> wpAny (model X.prog X.w) X.A (f (.int i t) (.int j u)) Q E s) :
  OpR X f (rI0 fun i j => .int (g i j)) := by
 intro pins s σ H x y v u Q I rx ry h
 obtain ⟨i, j, rfl, rfl, q⟩ := h
 obtain ⟨t, rfl⟩ := rx
 obtain ⟨t', rfl⟩ := ry
 exact rule i j t t' s _ _ ⟨.int (g i j), H, I.tok _, ⟨_, rfl⟩, q⟩
theorem EY {f : Value -> Value -> Sem Value} {g : Int -> Int -> Bool}
  (rule : ∀ (i j : Int) (t u : Tok) (s : Shared) (Q : Value -> Shared -> Prop) (E : Value -> Shared -> Prop), Q (.bool (g i j)) s -> wpAny (model X.prog X.w) X.A (f (.int i t) (.int j u)) Q E s) :
  OpR X f (rI0 fun i j => .bl (g i j)) := by
 intro pins s σ H x y v u Q I rx ry h
 obtain ⟨i, j, rfl, rfl, q⟩ := h
 obtain ⟨t, rfl⟩ := rx
 obtain ⟨t', rfl⟩ := ry
 exact rule i j t t' s _ _ ⟨.bl (g i j), H, I, rfl, q⟩
def Lg (i j : Int) : Prop := 0 < j /\ j < 1073741824
def Ma (i j : Int) : Prop := j ≠ 0 /\ j.natAbs < 1073741824
def MP (i j : Int) : Prop := 0 <= j /\ j <= 1000000 /\ i.natAbs < 2 ^ 64
def CMul (i j : Int) : Prop := (-(2 ^ 64) < i /\ i < 2 ^ 64) \/ (-(2 ^ 64) < j /\ j < 2 ^ 64)
theorem CMul.ok {i j : Int} (h : CMul i j) : IntMulOk i j := by
 rcases h with ⟨h1, h2⟩ | ⟨h1, h2⟩
 ·exact .of_left (intBits_le_64 h1 h2)
 ·exact .of_right (intBits_le_64 h1 h2)
theorem lH : OpR X (binaryOp .Add) (rI0 fun i j => .int (i + j)) := Il fun _ _ _ _ _ _ _ q => add_int q
theorem wW : OpR X (binaryOp .Sub) (rI0 fun i j => .int (i - j)) := Il fun _ _ _ _ _ _ _ q => sub_int q
theorem lX : OpR X (binaryOp .FloorDiv) (rI Lg fun i j => .int (i / j)) := opI fun i j _ _ _ _ _ hc q => by
 have h1 : (0 : Int) < j := hc.1
 have h2 : j < 1073741824 := hc.2
 exact floordiv_int (by omega) (by rw [Int.fdiv_eq_ediv_of_nonneg i (by omega)]; exact q) (.inl (PyProof.noPylong_small (by omega)))
theorem dH : OpR X (binaryOp .Mod) (rI (fun _ j => 0 < j) fun i j => .int (i % j)) := opI fun i j _ _ _ _ _ hc q => by
 have h1 : (0 : Int) < j := hc
 exact mod_int' (by omega) (by rw [Int.fmod_eq_emod_of_nonneg i (by omega)]; exact q)
theorem unI {f : Value -> Sem Value} {g : Int -> Int}
  (rule : ∀ (i : Int) (t : Tok) (s : Shared) (Q : Value -> Shared -> Prop) (E : Value -> Shared -> Prop), Q (.int (g i) s.toks) { s with toks := s.toks + 1 } -> wpAny (model X.prog X.w) X.A (f (.int i t)) Q E s) :
  UnR X f (rU fun i => .int (g i)) := by
 intro pins s σ H x v Q I rx h
 obtain ⟨i, rfl, q⟩ := h
 obtain ⟨t, rfl⟩ := rx
 exact rule i t s _ _ ⟨.int (g i), H, I.tok _, ⟨_, rfl⟩, q⟩
theorem oW : UnR X (unaryOp .USub) (rU fun i => .int (-i)) := unI fun _ _ _ _ _ q => neg_int q
end
def IV : V -> V -> Bool
 | .non, .non => true | .non, .int _ => true | .int _, .non => true | .non, .bl _ => true | .bl _, .non => true | .non, .str _ => true | .str _, .non => true
 | .int _, .int _ => true | .bl _, .bl _ => true | .str _, .str _ => true | .byt _, .byt _ => true
 | .int _, .str _ => true | .str _, .int _ => true | .bl _, .str _ => true | .str _, .bl _ => true
 | _, _ => false
def rEq : R2 := fun x y H Q => IV x y = true /\ Q (.bl (decide (x = y))) H
def rNe : R2 := fun x y H Q => IV x y = true /\ Q (.bl (!decide (x = y))) H
theorem An {i j : Int} : decide (V.int i = V.int j) = (i == j) := by
 rw [Bool.eq_iff_iff]
 simp
theorem Eb {i j : Bool} : decide (V.bl i = V.bl j) = (i == j) := by
 rw [Bool.eq_iff_iff]
 simp
theorem zP {i j : Str} : decide (V.str i = V.str j) = (i == j) := by
 rw [Bool.eq_iff_iff]
 simp
theorem Am {i j : Array UInt8} : decide (V.byt i = V.byt j) = (i.toList == j.toList) := by
 rw [Bool.eq_iff_iff]
 cases i
 cases j
 simp
section
variable {X : Cx} {a b c : Expr} {ta tb tc : TE} {pos : Pos}
theorem bI {pins : List (Addr × Obj)} {σ : St} {H : Hp} {s : Shared} {Q : VK} {k k' : Bool} (I : Inv X pins σ H s) (q : Q (.bl k) H) (e : k = k') : EP X pins σ Q (.bool k') s := by
 subst e
 exact ⟨.bl k, H, I, rfl, q⟩
theorem bR : OpR X (compareOp .Eq) rEq := by
 intro pins s σ H x y v u Q I rx ry h
 obtain ⟨hs, q⟩ := h
 cases x with
 | non =>
  cases rx
  cases y with
  | non => cases ry; exact PySem.EqNone.eq_none_none (bI I q (by simp))
  | bl j => cases ry; exact PySem.EqNone.eq_none_bool (bI I q (by simp))
  | int j => obtain ⟨t', rfl⟩ := ry; exact PySem.EqNone.eq_none_int (bI I q (by simp))
  | str j => obtain ⟨t', rfl⟩ := ry; exact PySem.EqNone.eq_none_str (bI I q (by simp))
  | _ => exact absurd (show false = true from hs) Bool.false_ne_true
 | bl i =>
  cases rx
  cases y with
  | non => cases ry; exact PySem.EqNone.eq_bool_none (bI I q (by simp))
  | bl j => cases ry; exact eq_bool (bI I q Eb)
  | str j => obtain ⟨t', rfl⟩ := ry; exact PySem.EqMixed.eq_bool_str (bI I q (by simp))
  | _ => exact absurd (show false = true from hs) Bool.false_ne_true
 | int i =>
  obtain ⟨t, rfl⟩ := rx
  cases y with
  | non => cases ry; exact PySem.EqNone.eq_int_none (bI I q (by simp))
  | int j => obtain ⟨t', rfl⟩ := ry; exact eq_int (bI I q An)
  | str j => obtain ⟨t', rfl⟩ := ry; exact PySem.EqMixed.eq_int_str (bI I q (by simp))
  | _ => exact absurd (show false = true from hs) Bool.false_ne_true
 | str i =>
  obtain ⟨t, rfl⟩ := rx
  cases y with
  | non => cases ry; exact PySem.EqNone.eq_str_none (bI I q (by simp))
  | bl j => cases ry; exact PySem.EqMixed.eq_str_bool (bI I q (by simp))
  | int j => obtain ⟨t', rfl⟩ := ry; exact PySem.EqMixed.eq_str_int (bI I q (by simp))
  | str j => obtain ⟨t', rfl⟩ := ry; exact eq_str (bI I q zP)
  | _ => exact absurd (show false = true from hs) Bool.false_ne_true
 | byt i =>
  obtain ⟨t, rfl⟩ := rx
  cases y with
  | byt j => obtain ⟨t', rfl⟩ := ry; exact PySem.W.eq_bytes (bI I q Am)
  | _ => exact absurd (show false = true from hs) Bool.false_ne_true
 | _ => cases y <;> exact absurd (show false = true from hs) Bool.false_ne_true
theorem tM : OpR X (compareOp .NotEq) rNe := by
 intro pins s σ H x y v u Q I rx ry h
 obtain ⟨hs, q⟩ := h
 cases x with
 | non =>
  cases rx
  cases y with
  | non => cases ry; exact PySem.EqNone.ne_none_none (bI I q (by simp))
  | bl j => cases ry; exact PySem.EqNone.ne_none_bool (bI I q (by simp))
  | int j => obtain ⟨t', rfl⟩ := ry; exact PySem.EqNone.ne_none_int (bI I q (by simp))
  | str j => obtain ⟨t', rfl⟩ := ry; exact PySem.EqNone.ne_none_str (bI I q (by simp))
  | _ => exact absurd (show false = true from hs) Bool.false_ne_true
 | bl i =>
  cases rx
  cases y with
  | non => cases ry; exact PySem.EqNone.ne_bool_none (bI I q (by simp))
  | bl j => cases ry; exact ne_bool (bI I q (congrArg not Eb))
  | str j => obtain ⟨t', rfl⟩ := ry; exact PySem.EqMixed.ne_bool_str (bI I q (by simp))
  | _ => exact absurd (show false = true from hs) Bool.false_ne_true
 | int i =>
  obtain ⟨t, rfl⟩ := rx
  cases y with
  | non => cases ry; exact PySem.EqNone.ne_int_none (bI I q (by simp))
  | int j => obtain ⟨t', rfl⟩ := ry; exact ne_int (bI I q (congrArg not An))
  | str j => obtain ⟨t', rfl⟩ := ry; exact PySem.EqMixed.ne_int_str (bI I q (by simp))
  | _ => exact absurd (show false = true from hs) Bool.false_ne_true
 | str i =>
  obtain ⟨t, rfl⟩ := rx
  cases y with
  | non => cases ry; exact PySem.EqNone.ne_str_none (bI I q (by simp))
  | bl j => cases ry; exact PySem.EqMixed.ne_str_bool (bI I q (by simp))
  | int j => obtain ⟨t', rfl⟩ := ry; exact PySem.EqMixed.ne_str_int (bI I q (by simp))
  | str j => obtain ⟨t', rfl⟩ := ry; exact ne_str (bI I q (congrArg not zP))
  | _ => exact absurd (show false = true from hs) Bool.false_ne_true
 | byt i =>
  obtain ⟨t, rfl⟩ := rx
  cases y with
  | byt j => obtain ⟨t', rfl⟩ := ry; exact PySem.W.ne_bytes (bI I q (congrArg not Am))
  | _ => exact absurd (show false = true from hs) Bool.false_ne_true
 | _ => cases y <;> exact absurd (show false = true from hs) Bool.false_ne_true
theorem dX : OpR X (compareOp .Lt) (rI0 fun i j => .bl (decide (i < j))) := EY fun _ _ _ _ _ _ _ q => lt_int q
theorem eZ : OpR X (compareOp .LtE) (rI0 fun i j => .bl (decide (i <= j))) := EY fun _ _ _ _ _ _ _ q => le_int q
theorem Bw : OpR X (compareOp .Gt) (rI0 fun i j => .bl (decide (j < i))) := EY fun _ _ _ _ _ _ _ q => gt_int q
theorem Ip : OpR X (compareOp .Is) (fun x y H Q => y = .non /\ Q (.bl (decide (x = .non))) H) := by
 intro pins s σ H x y v u Q I rx ry h
 obtain ⟨rfl, q⟩ := h
 cases ry
 refine is_none_gen (bI I q ?_)
 cases x <;> first
  | (cases rx; rfl)
  | (obtain ⟨t, rfl⟩ := rx; rfl)
theorem GZ : OpR X (compareOp .IsNot) (fun x y H Q => y = .non /\ Q (.bl (!decide (x = .non))) H) := by
 intro pins s σ H x y v u Q I rx ry h
 obtain ⟨rfl, q⟩ := h
 cases ry
 refine isnot_none_gen (bI I q ?_)
 cases x <;> first
  | (cases rx; rfl)
  | (obtain ⟨t, rfl⟩ := rx; rfl)
def isObj : HO -> Bool
 | .lst _ => true
 | .ins _ _ _ => true
 | _ => false
theorem OpR.or {f : Value -> Value -> Sem Value} {r r' : R2} (h : OpR X f r) (h' : OpR X f r') : OpR X f (fun x y H Q => r x y H Q \/ r' x y H Q) := by
 intro pins s σ H x y v u Q I rx ry q
 rcases q with q | q
 ·exact h pins s σ H x y v u Q I rx ry q
 ·exact h' pins s σ H x y v u Q I rx ry q
theorem aQ (b : Expr) {op : CmpOp} (h : op ≠ .In := by decide) (h2 : op ≠ .NotIn := by decide) : behindInMarks op b = false := by
 have e1 : (op == CmpOp.In) = false := by cases op <;> first | rfl | exact absurd rfl h
 have e2 : (op == CmpOp.NotIn) = false := by cases op <;> first | rfl | exact absurd rfl h2
 cases b <;> simp [behindInMarks, e1, e2]
theorem cA {op : CmpOp} {r : R2} (ho : OpR X (compareOp op) r) (ha : PE X a ta) (hb : PE X b tb) (hm : behindInMarks op b = false) : PE X (.Compare a [op] [b] pos) (tOp r ta tb) := by
 intro pins s σ H Q I h
 exact wpAny_Compare1 (Ft ha hb I h fun v u s2 x y H2 I2 rx ry q => ho pins s2 σ H2 x y v u Q I2 rx ry q) hm
def Gy (t : TE) : TT := fun σ H Q => t σ H fun x H' => ∃ k, x = .bl k /\ Q k H'
theorem aX {op : CmpOp} {r : R2} (ho : OpR X (compareOp op) r) (ha : PE X a ta) (hb : PE X b tb) (hm : behindInMarks op b = false) : PT X (.Compare a [op] [b] pos) (Gy (tOp r ta tb)) := by
 intro pins s σ H Q I h
 refine wpAny_isTrue_Compare1 (thn (ha pins s σ H _ I h) fun v s1 ⟨x, H1, I1, r1, q1⟩ => thn (hb pins s1 σ H1 _ I1 q1) fun u s2 ⟨y, H2, I2, r2, q2⟩ =>
  thn (ho pins s2 σ H2 x y v u _ I2 r1 r2 q2) fun c s3 ⟨z, H3, I3, r3, k, e, q3⟩ => ?_) hm
 subst e
 cases r3
 exact wpAny_truthy_bool ⟨H3, I3, q3⟩
def CW (r r' : R2) (ta tb tc : TE) : TE := fun σ H Q => ta σ H fun x H1 => tb σ H1 fun y H2 => r x y H2 fun z H3 => ∃ k, z = .bl k /\
 (if k = true then tc σ H3 fun w' H4 => r' y w' H4 Q else Q (.bl false) H3)
theorem yw {op op' : CmpOp} {r r' : R2} (ho : OpR X (compareOp op) r) (ho' : OpR X (compareOp op') r') (ha : PE X a ta) (hb : PE X b tb) (hc : PE X c tc)
  (hm : lastMarks [op, op'] [b, c] = false := by with_unfolding_all rfl) : PE X (.Compare a [op, op'] [b, c] pos) (CW r r' ta tb tc) := by
 intro pins s σ H Q I h
 refine Compare_chain (thn (ha pins s σ H _ I h) fun v s1 ⟨x, H1, I1, r1, q1⟩ => chain_link (thn (hb pins s1 σ H1 _ I1 q1) fun u s2 ⟨y, H2, I2, r2, q2⟩ =>
  thn (ho pins s2 σ H2 x y v u _ I2 r1 r2 q2) fun d s3 ⟨z, H3, I3, r3, k, e, q3⟩ => ?_)) hm
 subst e
 cases r3
 refine wpAny_truthy_bool ?_
 cases k with
 | false => exact ite_ff ⟨.bl false, H3, I3, rfl, q3⟩
 | true => exact ite_tt (chain_last (thn (hc pins s3 σ H3 _ I3 q3) fun w' s4 ⟨z', H4, I4, r4, q4⟩ => ho' pins s4 σ H4 y z' u w' Q I4 r2 r4 q4))
theorem gQ {op op' : CmpOp} {r r' : R2} (ho : OpR X (compareOp op) r) (ho' : OpR X (compareOp op') r') (ha : PE X a ta) (hb : PE X b tb) (hc : PE X c tc)
  (hm : lastMarks [op, op'] [b, c] = false := by with_unfolding_all rfl) : PT X (.Compare a [op, op'] [b, c] pos) (Gy (CW r r' ta tb tc)) := by
 intro pins s σ H Q I h
 refine isTrue_chain (thn (ha pins s σ H _ I h) fun v s1 ⟨x, H1, I1, r1, q1⟩ => test_link (thn (hb pins s1 σ H1 _ I1 q1) fun u s2 ⟨y, H2, I2, r2, q2⟩ =>
  thn (ho pins s2 σ H2 x y v u _ I2 r1 r2 q2) fun d s3 ⟨z, H3, I3, r3, k, e, q3⟩ => ?_)) hm
 subst e
 cases r3
 refine wpAny_truthy_bool ?_
 cases k with
 | false =>
  obtain ⟨k', e', q'⟩ := q3
  cases e'
  exact ite_ff ⟨H3, I3, q'⟩
 | true =>
  refine ite_tt (test_last (thn (hc pins s3 σ H3 _ I3 q3) fun w' s4 ⟨z', H4, I4, r4, q4⟩ => thn (ho' pins s4 σ H4 y z' u w' _ I4 r2 r4 q4) fun d' s5 ⟨z2, H5, I5, r5, k2, e2, q5⟩ => ?_))
  subst e2
  cases r5
  exact wpAny_truthy_bool ⟨H5, I5, q5⟩
def Mx (K : PySem.W.Frag) (x : V) (H : Hp) (k : Bool) : Prop :=
 match x with
 | .non => k = false
 | .bl b => k = b
 | .int i => k = (i != 0)
 | .str y => y.length <= sizeLine /\ k = ((y.length : Int) != 0)
 | .byt y => y.size <= sizeLine /\ k = ((y.size : Int) != 0)
 | .ref p => (∃ xs, SqL K H p xs /\ k = !xs.isEmpty) \/ (∃ xs, SqT K H p xs /\ k = !xs.isEmpty) \/ ∃ kvs, H p = some (.dK kvs) /\ k = !kvs.isEmpty
 | _ => False
theorem tD : (sizeLine : Nat) < 2 ^ 63 := by rw [sizeLine_eq]; decide
def Kh (b : Expr) : Prop := ∀ o i, subscripted b false o i = operate [o, i] (getItem o i)
theorem vals1 {x : V} {us : List Value} (r : Vals [x] us) : ∃ u, us = [u] /\ RelV x u := by
 cases r with
 | cons r1 r2 => cases r2; exact ⟨_, rfl, r1⟩
theorem xP : CallR X (.builtin "abs") (fun xs H Q => ∃ i, xs = [.int i] /\ Q (.int (if i < 0 then -i else i)) H) := by
 intro pins s σ H xs us Q I r h
 obtain ⟨i, rfl, q⟩ := h
 obtain ⟨u, rfl, t, rfl⟩ := vals1 r
 exact call_abs_int fun u tk => ⟨.int (if i < 0 then -i else i), H, I.tok _, ⟨_, rfl⟩, q⟩
def My (K : PySem.W.Frag) (x : V) (H : Hp) (n : Nat) : Prop :=
 match x with
 | .str y => y.length <= sizeLine /\ n = y.length
 | .byt y => y.size <= sizeLine /\ n = y.size
 | .ref p => (∃ xs, SqL K H p xs /\ n = xs.length) \/ ∃ xs, SqT K H p xs /\ n = xs.length
 | _ => False
end
end L2
namespace L2
open PySem PySem.Spec PyProof.Rows
structure ObjM (h : Heap) (x dx C : Addr) (mA : Str -> Option Value) : Prop where
 obj : h.get? x = some (PySem.W.instObj C dx)
 ns : h.Ns1 dx mA
 ne : dx ≠ x
theorem Dg {h : Heap} {dx : Addr} {mA : Str -> Option Value} (n : h.Ns1 dx mA) : ∃ od, h.get? dx = some od /\ ∀ name, PySem.W.lookIn name od = some (mA name) := by
 obtain ⟨o, es, ep, ho, hd, hk, _, hm⟩ := n
 refine ⟨o, ho, fun name => ?_⟩
 have e := hm name
 unfold nsFind findBy at e
 rw [<- Array.find?_toList] at e
 unfold PySem.W.lookIn
 rw [hd]
 dsimp only
 split
 ·rename_i y q
  rw [q] at e
  exact congrArg some e
 ·rename_i q
  rw [q] at e
  have a : es.toList.any (·.refKey) = false := by
   rw [List.any_eq_false]
   intro y hy
   obtain ⟨z, t, hkey⟩ := hk y (Array.mem_toList_iff.mp hy)
   simp [DictEntry.refKey, hkey]
  have a' : ¬ es.toList.any (·.refKey) = true := by rw [a]; exact Bool.false_ne_true
  rw [if_neg a']
  exact congrArg some e
theorem ObjM.look {h : Heap} {x dx C : Addr} {mA : Str -> Option Value} (I : ObjM h x dx C mA) : ∃ od, PySem.W.InstAt h x (PySem.W.instObj C dx) C (some od) /\ ∀ name, PySem.W.lookIn name od = some (mA name) :=
 let ⟨od, ho, hl⟩ := Dg I.ns
 ⟨od, ⟨I.obj, rfl, rfl, ho⟩, hl⟩
section
variable {prog : Program} {w : World} {A : Around} {E : Value -> Shared -> Prop} {s : Shared} {K : PySem.W.Frag} {x dx C f : Addr} {mA : Str -> Option Value} {name : Str} {v : Value}
theorem G3 {expr : Bool} {Q : Value -> Shared -> Prop} (X : K.In s.heap) (I : ObjM s.heap x dx C mA) (hg : PySem.W.plainGet K C name = true) (hh : PySem.W.hasDictIn K C = true)
  (ha : PySem.W.findIn K (.ref C) name = some none) (hv : mA name = some v) (hv' : PySem.W.handedIn v = true) (h : Q v { s with toks := s.toks + 1 }) :
  wpAny (model prog w) A (getAttr (.ref x) name expr) Q E s := by
 obtain ⟨od, J, hl⟩ := I.look
 exact PySem.W.get_value X J (PySem.W.plainGet_of hg).1 (PySem.W.findObj_own hh ha rfl (by rw [hl, hv])) hv' h
theorem H_ {ns : List Str} {Q : Unit -> Shared -> Prop} (X : K.In s.heap) (I : ObjM s.heap x dx C mA)
  (hs : PySem.W.findIn K (.ref C) "__setattr__" = some (some (.builtin "object.__setattr__"))) (hp : PySem.W.plainOver K C = true) (ht : PySem.W.takerIn K C name = some none) (hh : PySem.W.hasDictIn K C = true)
  (hw : PySem.Within mA ns) (hsz : ns.length <= sizeLine)
  (h : ∀ h', ObjM h' x dx C (fun y => if y = name then some v else mA y) -> Heap.SameBut dx s.heap h' -> Q () { s with heap := h', toks := s.toks + 2 }) :
  wpAny (model prog w) A (setAttr (.ref x) name v) Q E s := by
 obtain ⟨od, J, hl⟩ := I.look
 refine PySem.W.set_plain X J hs (PySem.W.osa_open (s := { s with toks := s.toks + 1 }) (r := none) X J hp ht fun b => ?_)
 obtain ⟨cd, hc, hd'⟩ := PySem.W.any_some hh
 have hx : s.heap.get? x = some ⟨.ref C, some dx, .plain, #[]⟩ := I.obj
 refine wpAny_bind (wpAny_pure (wpAny_bind (wpAny_bind (wpAny_loadPart hx (wpAny_bind (PySem.W.Looks.here (s := { s with toks := s.toks + 1 }) (PySem.W.looks_clsIn X hc) ?_))))))
 rw [hd']
 refine wpAny_pure (a := some dx) (wpAny_bind (wpAny_pure (wpAny_bind ?_)))
 refine wpAny_nsSet1 (s := { s with toks := s.toks + 1 }) I.ns fun h' hn2 hs2 => ?_
 obtain ⟨oD, esD, epD, hoD, hdD, hcD⟩ := hn2.count (PySem.Within.cons name v hw)
 refine wpAny_bind (wpAny_lookBehind hoD (by rw [hdD]; exact pastItsLine_dict (Nat.le_trans hcD (by rw [List.length_cons]; omega))) ?_)
 exact wpAny_pure (h _ ⟨(hs2.2 _ (Ne.symm I.ne)).trans I.obj, hn2, I.ne⟩ hs2)
theorem FN {R : Result -> Shared -> Prop} {vs : List Value} {kw : List (Str × Value)} (X : K.In s.heap) (hm : PySem.W.makesIn K C = true)
  (hi : PySem.W.findIn K (.ref C) "__init__" = some (some (.ref f))) (hf : PySem.W.typeIn K (.ref f) = some (.type "function"))
  (h : codeAny (model prog w) (A.under (.builtin "type.__call__" ⟨.ref C :: vs, kw⟩)) (.call (.ref f) ⟨.ref (s.heap.objs.size + 1) :: vs, kw⟩) (PySem.W.InitBack (s.heap.objs.size + 1) R)
   { s with heap := (s.heap.push PySem.W.emptyDict).push (PySem.W.instObj C s.heap.objs.size) }) :
  codeAny (model prog w) A (.call (.ref C) ⟨vs, kw⟩) R s := by
 obtain ⟨hh, g, d, t, os⟩ := s
 exact PySem.W.make_core (PySem.W.makes_of X hm) (PySem.W.looks_findIn X hi) (fun self => PySem.W.bind_fn X self hf) (.inl rfl) h
end
def cN (f : Str) (v : V) : List (Str × V) -> List (Str × V)
 | [] => [(f, v)]
 | (g, x) :: r => if g = f then (g, v) :: r else (g, x) :: cN f v r
theorem gw (f g : Str) (v : V) : ∀ fs : List (Str × V), (cN f v fs).lookup g = if g = f then some v else fs.lookup g
 | [] => by
  show List.lookup g [(f, v)] = _
  by_cases h : g = f
  ·have hb : (g == f) = true := beq_iff_eq.mpr h
   simp only [List.lookup, hb, if_pos h]
  ·have hb : (g == f) = false := beq_eq_false_iff_ne.mpr h
   simp only [List.lookup, hb, if_neg h]
 | (k, x) :: r => by
  have ih := gw f g v r
  rw [show cN f v ((k, x) :: r) = (if k = f then (k, v) :: r else (k, x) :: cN f v r) from rfl]
  by_cases hk : k = f
  ·rw [if_pos hk]
   by_cases h : g = k
   ·have hb : (g == k) = true := beq_iff_eq.mpr h
    simp only [List.lookup, hb, if_pos (h.trans hk)]
   ·have hb : (g == k) = false := beq_eq_false_iff_ne.mpr h
    simp only [List.lookup, hb, if_neg (fun e : g = f => h (e.trans hk.symm))]
  ·rw [if_neg hk]
   by_cases h : g = k
   ·have hb : (g == k) = true := beq_iff_eq.mpr h
    simp only [List.lookup, hb, if_neg (fun e : g = f => hk (h.symm.trans e))]
   ·have hb : (g == k) = false := beq_eq_false_iff_ne.mpr h
    simp only [List.lookup, hb]
    exact ih
theorem pM (f : Str) (v : V) : ∀ fs : List (Str × V), f ∈ (cN f v fs).map (·.1) /\ ∀ g, g ∈ fs.map (·.1) -> g ∈ (cN f v fs).map (·.1)
 | [] => ⟨by simp [cN], fun g h => by simp at h⟩
 | (k, x) :: r => by
  obtain ⟨i1, i2⟩ := pM f v r
  rw [show cN f v ((k, x) :: r) = (if k = f then (k, v) :: r else (k, x) :: cN f v r) from rfl]
  by_cases hk : k = f
  ·rw [if_pos hk]
   subst hk
   exact ⟨by simp, fun g h => by simpa using h⟩
  ·rw [if_neg hk]
   refine ⟨?_, fun g h => ?_⟩
   ·rw [List.map_cons]
    exact List.mem_cons_of_mem _ i1
   ·rw [List.map_cons] at h ⊢
    rcases List.mem_cons.mp h with e | e
    ·exact List.mem_cons.mpr (.inl e)
    ·exact List.mem_cons_of_mem _ (i2 g e)
theorem qp (f : Str) (v : V) : ∀ fs : List (Str × V), (cN f v fs).length <= fs.length + 1
 | [] => by simp [cN]
 | (k, x) :: r => by
  have ih := qp f v r
  rw [show cN f v ((k, x) :: r) = (if k = f then (k, v) :: r else (k, x) :: cN f v r) from rfl]
  by_cases hk : k = f
  ·rw [if_pos hk, List.length_cons, List.length_cons]; omega
  ·rw [if_neg hk, List.length_cons, List.length_cons]; omega
theorem RelO.some_of {v : V} {o : Option Value} (r : RelO (some v) o) : ∃ u, o = some u /\ RelV v u := by
 cases o with
 | none => exact (show False from r).elim
 | some u => exact ⟨u, rfl, r⟩
theorem Ec {v : V} {u : Value} (r : RelV v u) : PySem.W.handedIn u = true := by
 cases v with
 | non => cases (show u = Value.none from r); rfl
 | bl b => cases (show u = Value.bool b from r); rfl
 | int i => obtain ⟨t, e⟩ := (show ∃ t, u = Value.int i t from r); cases e; rfl
 | str x => obtain ⟨t, e⟩ := (show ∃ t, u = Value.str x t from r); cases e; rfl
 | byt b => obtain ⟨t, e⟩ := (show ∃ t, u = Value.bytes b t from r); cases e; rfl
 | flt b => obtain ⟨t, e⟩ := (show ∃ t, u = Value.float b t from r); cases e; rfl
 | ref a => cases (show u = Value.ref a from r); rfl
 | ty n => cases (show u = Value.type n from r); rfl
section
variable {P : Program} {w : World} {H H' : Hp} {h h' : Heap} {a C dx : Addr} {fs fs' : List (Str × V)}
theorem ux (hok : HOk P w H h) (e : H a = some (.ins C dx fs)) : ∃ mA, ObjM h a dx C mA /\ (∀ f, RelO (fs.lookup f) (mA f)) /\ PySem.Within mA (fs.map (·.1)) /\ fs.length <= 1000 /\ H dx = some (.own a) := by
 obtain ⟨d, z, ne, ob, mA, n, r, q⟩ := (show ObjOk P w H h a (.ins C dx fs) from hok a _ e)
 exact ⟨mA, ⟨ob, n, ne⟩, r, q, z, d⟩
end
structure Cls (K : PySem.W.Frag) (C : Addr) : Prop where
 pg : PySem.W.plainGet K C Str.empty = true
 hd : PySem.W.hasDictIn K C = true
 po : PySem.W.plainOver K C = true
 sa : PySem.W.findIn K (.ref C) "__setattr__" = some (some (.builtin "object.__setattr__"))
theorem Cls.get {K : PySem.W.Frag} {C : Addr} (c : Cls K C) (f : Str) : PySem.W.plainGet K C f = true := c.pg
def NoAttr (K : PySem.W.Frag) (C : Addr) (f : Str) : Prop := PySem.W.findIn K (.ref C) f = some none
theorem NoAttr.taker {K : PySem.W.Frag} {C : Addr} {f : Str} (n : NoAttr K C f) : PySem.W.takerIn K C f = some none := by
 unfold PySem.W.takerIn
 rw [show PySem.W.findIn K (.ref C) f = some none from n]
 rfl
structure Con (K : PySem.W.Frag) (C : Addr) (f : Str) (v : V) (u : Value) : Prop where
 at_ : PySem.W.findIn K (.ref C) f = some (some u)
 rel : RelV v u
 get : PySem.W.specialIn K u "__get__" = some none
 cp : PySem.W.copiedNames.contains f = false
structure Meth (K : PySem.W.Frag) (C : Addr) (m : Str) (f : Addr) : Prop where
 at_ : PySem.W.findIn K (.ref C) m = some (some (.ref f))
 fn : PySem.W.isFn K (.ref f) = true
 kp : PySem.W.keepIn K (.ref f) = true
section
variable {X : Cx} {pins : List (Addr × Obj)} {σ : St} {H : Hp} {s : Shared} {a C dx : Addr} {fs : List (Str × V)} {f : Str} {v : V} {A : Around} {E : Value -> Shared -> Prop}
theorem Aw {b : Bool} {Q : Value -> Shared -> Prop} (I : Inv X pins σ H s) (e : H a = some (.ins C dx fs)) (c : Cls X.K C) (n : NoAttr X.K C f) (l : fs.lookup f = some v)
  (h : ∀ u s', Inv X pins σ H s' -> RelV v u -> Q u s') : wpAny (model X.prog X.w) A (getAttr (.ref a) f b) Q E s := by
 obtain ⟨mA, O, r, _, _, _⟩ := ux I.hok e
 obtain ⟨u, hu, ru⟩ := RelO.some_of (v := v) (o := mA f) (by rw [<- l]; exact r f)
 exact G3 I.kIn O (c.get f) c.hd n hu (Ec ru) (h u _ (I.tok _) ru)
theorem Ay {y : V} {u : Value} {Q : Unit -> Shared -> Prop} (I : Inv X pins σ H s) (e : H a = some (.ins C dx fs)) (c : Cls X.K C) (n : NoAttr X.K C f) (hl : fs.length < 1000) (ry : RelV y u)
  (h : ∀ s', Inv X pins σ (upd H a (.ins C dx (cN f y fs))) s' -> Q () s') : wpAny (model X.prog X.w) A (setAttr (.ref a) f u) Q E s := by
 obtain ⟨mA, O, r, wi, _, ho⟩ := ux I.hok e
 have hz : (fs.map (·.1)).length <= sizeLine := by rw [List.length_map, sizeLine_eq]; omega
 refine H_ I.kIn O c.sa c.po n.taker c.hd wi hz fun h' O' sb => h _ ?_
 have hd : ∃ o, h'.get? dx = some o := let ⟨o, _, _, e', _⟩ := O'.ns; ⟨o, e'⟩
 refine I.write (x := a) (e := dx) (by rw [e]; exact True.intro) (.inr ho) (fun b q hb z => (sb.2 b hb).trans z) hd ?_
 refine ⟨by rw [aO O.ne]; exact ho, ?_, O.ne, O'.obj, _, O'.ns, fun g => ?_, fun g hg => ?_⟩
 ·have := qp f y fs; omega
 ·show RelO ((cN f y fs).lookup g) (if g = f then some u else mA g)
  rw [gw]
  by_cases q : g = f
  ·rw [if_pos q, if_pos q]; exact ry
  ·rw [if_neg q, if_neg q]; exact r g
 ·by_cases q : g = f
  ·rw [q]; exact (pM f y fs).1
  ·refine (pM f y fs).2 g (wi g fun z => hg ?_)
   show (if g = f then some u else mA g) = none
   rw [if_neg q]; exact z
theorem Inv.made (I : Inv X pins σ H s) : Inv X pins σ (upd (upd H s.heap.objs.size (.own (s.heap.objs.size + 1))) (s.heap.objs.size + 1) (.ins C s.heap.objs.size []))
  { s with heap := (s.heap.push PySem.W.emptyDict).push (PySem.W.instObj C s.heap.objs.size) } := by
 have e1 : (s.heap.push PySem.W.emptyDict).get? s.heap.objs.size = some PySem.W.emptyDict := Heap.get?_push_size s.heap rfl
 have e2 : ((s.heap.push PySem.W.emptyDict).push (PySem.W.instObj C s.heap.objs.size)).get? (s.heap.objs.size + 1) = some (PySem.W.instObj C s.heap.objs.size) := by
  have := Heap.get?_push_size (s.heap.push PySem.W.emptyDict) (o := PySem.W.instObj C s.heap.objs.size) rfl
  rwa [Heap.size_push] at this
 have e3 : (s.heap.push PySem.W.emptyDict).Ns s.heap.objs.size (fun _ => none) := ⟨PySem.W.emptyDict, #[], _, e1, rfl, (fun e he => absurd he (by simp)), fun _ => rfl⟩
 have I1 := I.laid (a := s.heap.objs.size) (o := .own (s.heap.objs.size + 1)) (h' := s.heap.push PySem.W.emptyDict) (t' := s.toks) (fun b u q => Heap.get?_push_of_some _ q) (Nat.le_refl _) ⟨_, e1⟩
 refine I1.laid (a := s.heap.objs.size + 1) (o := .ins C s.heap.objs.size []) (t' := s.toks) (fun b u q => Heap.get?_push_of_some _ q) (Nat.le_of_eq (Heap.size_push _ _)) ?_
 have ne : s.heap.objs.size ≠ s.heap.objs.size + 1 := Nat.ne_of_lt (Nat.lt_succ_self _)
 refine ⟨by rw [aO ne, az], Nat.zero_le _, ne, e2, fun _ => none, (Heap.Ns1.of_empty e3).at fun o q => Heap.get?_push_of_some _ q, fun _ => True.intro, fun y hy => absurd rfl hy⟩
theorem HB {prog : Program} {w : World} {env : Env} {e : Expr} {f : Str} {pos : Pos} {s : Shared} {Q : Value -> Shared -> Prop} (hb : attributeBase e f env (eval e env) = eval e env)
  (h : wpAny (model prog w) A (eval e env) (fun o s₁ => wpAny (model prog w) A (getAttr o f true) Q E s₁) E s) : wpAny (model prog w) A (eval (.Attribute e f pos) env) Q E s :=
 Attribute_any_ h (by rw [arm_eval_Attribute, hb])
end
def K7 (K : PySem.W.Frag) (ta : TE) (f : Str) : TE := fun σ H Q => ta σ H fun x H1 => ∃ a C dx fs v, x = .ref a /\ H1 a = some (.ins C dx fs) /\ Cls K C /\ NoAttr K C f /\ fs.lookup f = some v /\ Q v H1
def Ms (K : PySem.W.Frag) (ta : TE) (f : Str) : TE := fun σ H Q => ta σ H fun x H1 => ∃ a C dx fs v u, x = .ref a /\ H1 a = some (.ins C dx fs) /\ Cls K C /\ Con K C f v u /\ fs.lookup f = none /\ Q v H1
def Li (K : PySem.W.Frag) (ta tv : TE) (f : Str) : TS := fun D σ H => tv σ H fun y H1 => ta σ H1 fun x H2 => ∃ a C dx fs, x = .ref a /\ H2 a = some (.ins C dx fs) /\ Cls K C /\ NoAttr K C f /\ fs.length < 1000 /\
 D.nx σ (upd H2 a (.ins C dx (cN f y fs)))
def MN (X : Cx) (op : Operator) (rd : V -> V -> Hp -> VK -> Prop) : Prop :=
 ∀ (pins : List (Addr × Obj)) (s : Shared) (σ : St) (H : Hp) (x y : V) (u v : Value) (Q : VK), Inv X pins σ H s -> RelV x u -> RelV y v -> rd x y H Q -> wpAny (model X.prog X.w) X.A (inplaceOp op u v) (EP X pins σ Q) X.xe s
def Lw (K : PySem.W.Frag) (ta tv : TE) (rd : V -> V -> Hp -> VK -> Prop) (f : Str) : TS := fun D σ H => ta σ H fun x H1 => ∃ a C dx fs v, x = .ref a /\ H1 a = some (.ins C dx fs) /\ Cls K C /\ NoAttr K C f /\ fs.lookup f = some v /\
 tv σ H1 fun y H2 => rd v y H2 fun z H3 => ∃ dx' fs', H3 a = some (.ins C dx' fs') /\ fs'.length < 1000 /\ D.nx σ (upd H3 a (.ins C dx' (cN f z fs')))
section
variable {X : Cx} {o e value : Expr} {f : Str} {pos pos' tpos : Pos} {ta tv : TE}
theorem BX (he : PE X e ta) (hb : attributeBase e f X.env (eval e X.env) = eval e X.env) : PE X (.Attribute e f pos) (K7 X.K ta f) := by
 intro pins s σ H Q I h
 refine HB hb (thn (he pins s σ H _ I h) fun u s1 ⟨x, H1, I1, rx, a, C, dx, fs, v, ex, ea, c, n, l, q⟩ => ?_)
 subst ex
 obtain rfl : u = Value.ref a := rx
 exact Aw I1 ea c n l fun u' s2 I2 ru => ⟨v, H1, I2, ru, q⟩
theorem tQ (ha : PE X o ta) (hv : PE X value tv) (hs : swapsWith value (some (.Attribute o f pos')) pos.line X.env = pure false) : PS X (.Assign [.Attribute o f pos'] value pos) (Li X.K ta tv f) := by
 intro pins s σ H D I h
 refine plainObj_wpAny_Assign_Attribute (thn (hv pins s σ H _ I h) fun u s1 ⟨y, H1, I1, ry, q⟩ => thn (ha pins s1 σ H1 _ I1 q) fun ov s2 ⟨x, H2, I2, rx, a, C, dx, fs, ex, ea, c, n, l, q2⟩ => ?_) hs
 subst ex
 obtain rfl : ov = Value.ref a := rx
 exact Ay I2 ea c n l ry fun s3 I3 => ⟨σ, _, I3, q2⟩
def M5 : V -> V -> Hp -> VK -> Prop := fun x y H Q => ∃ i j, x = .int i /\ y = .int j /\ Q (.int (i + j)) H
def Mr : V -> V -> Hp -> VK -> Prop := fun x y H Q => ∃ i j, x = .int i /\ y = .int j /\ Q (.int (i - j)) H
end
section
variable {X : Cx} {pins : List (Addr × Obj)} {σ : St} {H : Hp} {s : Shared} {A : Around} {E : Value -> Shared -> Prop} {Q : Value -> Shared -> Prop} {c : Value} {b : Bool}
inductive TyOf (K : PySem.W.Frag) (H : Hp) : V -> Value -> Prop where
 | non : TyOf K H .non (.type "NoneType")
 | bl (x : Bool) : TyOf K H (.bl x) (.type "bool")
 | int (i : Int) : TyOf K H (.int i) (.type "int")
 | str (x : Str) : TyOf K H (.str x) (.type "str")
 | flt (x : UInt64) : TyOf K H (.flt x) (.type "float")
 | lst {a : Addr} {xs : List V} (e : H a = some (.lst xs)) : TyOf K H (.ref a) (.type "list")
 | frz {a : Addr} {o : Obj} {xs : List V} (e : H a = some (.frz o (.lst xs))) : TyOf K H (.ref a) (.type "list")
 | tup {a : Addr} {xs : List V} (e : H a = some (.tup xs)) : TyOf K H (.ref a) (.type "tuple")
 | dK {a : Addr} {kvs : List (Key × V)} (e : H a = some (.dK kvs)) : TyOf K H (.ref a) (.type "dict")
 | dT {a : Addr} {kvs : List (List Key × V)} (e : H a = some (.dT kvs)) : TyOf K H (.ref a) (.type "dict")
 | ins {a C dx : Addr} {fs : List (Str × V)} (e : H a = some (.ins C dx fs)) (cl : Cls K C) (ha : PySem.W.findIn K (.ref C) "__class__" = some (some (.builtin "object.__class__")))
   (hn : PySem.W.specialIn K (.builtin "object.__class__") "__get__" = some (some (.builtin "getset_descriptor.__get__"))) (htk : PySem.W.takesIn K (.builtin "object.__class__") = some true)
   (hm : PySem.W.mroIn K C (.type "object") = some true) : TyOf K H (.ref a) (.ref C)
theorem uR {x : V} {u t : Value} (I : Inv X pins σ H s) (rx : RelV x u) (ty : TyOf X.K H x t) (e : PySem.W.kitOne X.K t c = some b) (h : ∀ tk, Q (.bool b) { s with toks := tk }) :
  wpAny (model X.prog X.w) A (call (.builtin "isinstance") [u, c]) Q E s := by
 cases ty with
 | non => cases (show u = Value.none from rx); exact PySem.W.kia_one PySem.W.kitx_none I.kIn True.intro e (fun z => nomatch z) h
 | bl y => cases (show u = Value.bool y from rx); exact PySem.W.kia_one PySem.W.kitx_bool I.kIn True.intro e (fun z => nomatch z) h
 | int i => obtain ⟨t, q⟩ := (show ∃ t, u = Value.int i t from rx); cases q; exact PySem.W.kia_one PySem.W.kitx_int I.kIn True.intro e (fun z => nomatch z) h
 | str y => obtain ⟨t, q⟩ := (show ∃ t, u = Value.str y t from rx); cases q; exact PySem.W.kia_one PySem.W.kitx_str I.kIn True.intro e (fun z => nomatch z) h
 | flt y => obtain ⟨t, q⟩ := (show ∃ t, u = Value.float y t from rx); cases q; exact PySem.W.kia_one PySem.W.kitx_float I.kIn True.intro e (fun z => nomatch z) h
 | @lst a xs ea =>
  cases (show u = Value.ref a from rx)
  obtain ⟨_, _, n, _, h1⟩ := (show ObjOk X.prog X.w H s.heap a (.lst xs) from I.hok a _ ea)
  exact PySem.W.kia_one PySem.W.kitx_list I.kIn ⟨_, h1, rfl⟩ e (fun z => nomatch z) h
 | @frz a ob xs ea =>
  cases (show u = Value.ref a from rx)
  obtain ⟨_, _, _, n, _, h1⟩ := (show ObjOk X.prog X.w H s.heap a (.frz ob (.lst xs)) from I.hok a _ ea)
  exact PySem.W.kia_one PySem.W.kitx_list I.kIn ⟨_, h1, rfl⟩ e (fun z => nomatch z) h
 | @tup a xs ea =>
  cases (show u = Value.ref a from rx)
  obtain ⟨_, _, _, p⟩ := (show ObjOk X.prog X.w H s.heap a (.tup xs) from I.hok a _ ea)
  obtain ⟨o, h1, h2, _⟩ := p
  exact PySem.W.kia_one PySem.W.kitx_tuple I.kIn ⟨o, h1, h2⟩ e (fun z => nomatch z) h
 | @dK a kvs ea =>
  cases (show u = Value.ref a from rx)
  obtain ⟨_, _, vs, _, p⟩ := (show ObjOk X.prog X.w H s.heap a (.dK kvs) from I.hok a _ ea)
  obtain ⟨o, es, ep, h1, h2, _⟩ := p
  exact PySem.W.kia_one PySem.W.kitx_dict I.kIn ⟨o, h1, h2.1⟩ e (fun z => nomatch z) h
 | @dT a kvs ea =>
  cases (show u = Value.ref a from rx)
  obtain ⟨_, _, xs, _, o, es, ep, h1, h2, _⟩ := (show ObjOk X.prog X.w H s.heap a (.dT kvs) from I.hok a _ ea)
  exact PySem.W.kia_one PySem.W.kitx_dict I.kIn ⟨o, h1, h2.1⟩ e (fun z => nomatch z) h
 | @ins a C dx fs ea cl ha hn htk hm =>
  cases (show u = Value.ref a from rx)
  obtain ⟨mA, O, _⟩ := ux I.hok ea
  obtain ⟨od, J, _⟩ := O.look
  exact PySem.W.kia_one (PySem.W.kitx_own (cl.get _) cl.hd ha hn htk hm) I.kIn J e (fun z => nomatch z) h
end
end L2
namespace L2
open PySem PySem.Spec PyProof.Rows
structure Room (k : Nat) (A : Around) : Prop where
 hd : A.handled = none
 dp : A.depth + 3 * k + 5 < recursionLimit
 un : A.units + 16 * k + 200 < cLine
theorem Room.mono {j k : Nat} {A : Around} (r : Room k A) (h : j <= k) : Room j A := ⟨r.hd, by have := r.dp; omega, by have := r.un; omega⟩
theorem Room.deeper {k : Nat} {A : Around} (r : Room (k + 1) A) (env : Env) : Room k (A.deeper env) :=
 ⟨r.hd, by have := r.dp; show A.depth + 1 + 3 * k + 5 < _; omega, by have := r.un; show A.units + 3 + 16 * k + 200 < _; omega⟩
theorem Room.in1 {k : Nat} {A : Around} (r : Room (k + 1) A) : Room k A.in1 :=
 ⟨r.hd, by have := r.dp; show A.depth + 3 * k + 5 < _; omega, by have := r.un; show A.units + 1 + 16 * k + 200 < _; omega⟩
theorem Bs {A : Around} {C : Addr} {us : List Value} {kw : List (Str × Value)} : (A.under (.builtin "type.__call__" ⟨.ref C :: us, kw⟩)).depth = A.depth + 1 := by
 first | rfl | simp [Around.under, Code.weight, Code.isCreation, Code.isGuard, Code.isCaller, Code.frames, Code.isFrame, guardIds]
theorem Bc {A : Around} {C : Addr} {us : List Value} {kw : List (Str × Value)} : (A.under (.builtin "type.__call__" ⟨.ref C :: us, kw⟩)).units = A.units + 1 := by
 first | rfl | simp [Around.under, Code.cUnits, Code.frames, Code.isFrame]
theorem Room.make {k : Nat} {A : Around} (r : Room (k + 1) A) (C : Addr) (us : List Value) (kw : List (Str × Value)) : Room k (A.under (.builtin "type.__call__" ⟨.ref C :: us, kw⟩)) :=
 ⟨r.hd, by have := r.dp; rw [Bs]; omega, by have := r.un; rw [Bc]; omega⟩
theorem Room.depth {k : Nat} {A : Around} (r : Room k A) : A.depth < recursionLimit := by have := r.dp; omega
theorem Room.units {k : Nat} {A : Around} (r : Room k A) : A.units + 64 < cLine := by have := r.un; omega
def KZ : TA := fun _ H Q => Q [] H
def JV (ta : TE) (tr : TA) : TA := fun σ H Q => ta σ H fun x H1 => tr σ H1 fun xs H2 => Q (x :: xs) H2
section
variable {X : Cx} {e : Expr} {es : List Expr} {te : TE} {t : TA} {pos : Pos}
theorem pa_nil : PA X [] KZ := fun _ _ _ _ H Q I h => Calls.spliced_nil ⟨[], H, I, .nil, h⟩
theorem aa (ha : PE X e te) (hr : PA X es t) (hs : starEach (e :: es) X.env = (false, eval e X.env) :: starEach es X.env := by rfl) : PA X (e :: es) (JV te t) := by
 intro pos pins s σ H Q I h
 rw [hs]
 show wpAny _ _ (spliced ((false, eval e X.env) :: backTo pos (starEach es X.env))) _ _ s
 refine Calls.spliced_cons (thn (ha pins s σ H _ I h) fun u s1 ⟨x, H1, I1, r1, q1⟩ => ?_)
 exact thn (hr pos pins s1 σ H1 _ I1 q1) fun us s2 ⟨xs, H2, I2, r2, q2⟩ => ⟨x :: xs, H2, I2, .cons r1 r2, q2⟩
def Kd (t : TA) : TE := fun σ H Q => t σ H fun xs H1 => xs.length <= sizeLine /\ ∀ p, H1 p = none -> Q (.ref p) (upd H1 p (.tup xs))
def K6 (t : TA) : TE := fun σ H Q => t σ H fun xs H1 => xs.length <= sizeLine /\ ∀ p, H1 p = none -> Q (.ref p) (upd H1 p (.lst xs))
theorem cQ {x1} (h : PA X es t) : PE X (.Tuple es x1 pos) (Kd t) := by
 intro pins s σ H Q I hq
 refine wpAny_Tuple_spliced (thn (h pos pins s σ H _ I hq) fun us s1 ⟨xs, H1, I1, r, z, q⟩ => ⟨by rw [<- r.length]; exact z, ?_⟩)
 have hf : H1 s1.heap.objs.size = none := I1.hok.fresh (Nat.le_refl _)
 refine ⟨.ref s1.heap.objs.size, upd H1 s1.heap.objs.size (.tup xs), I1.laid (t' := s1.toks) (fun b u e => Heap.get?_push_of_some _ e) (Nat.le_refl _) ?_, rfl, q _ hf⟩
 exact ⟨z, us, r, ⟨_, Heap.get?_push_size _ rfl, rfl, _, rfl⟩⟩
theorem bL (h : PA X es t) : PE X (.List es pos) (K6 t) := by
 intro pins s σ H Q I hq
 refine wpAny_List_spliced (thn (h pos pins s σ H _ I hq) fun us s1 ⟨xs, H1, I1, r, z, q⟩ => ⟨by rw [<- r.length]; exact z, ?_⟩)
 have hf : H1 s1.heap.objs.size = none := I1.hok.fresh (Nat.le_refl _)
 refine ⟨.ref s1.heap.objs.size, upd H1 s1.heap.objs.size (.lst xs), I1.laid (t' := s1.toks) (fun b u e => Heap.get?_push_of_some _ e) (Nat.le_refl _) ?_, rfl, q _ hf⟩
 exact ⟨z, us, 0, r, Heap.get?_push_size _ rfl⟩
end
abbrev Sp := List V -> Hp -> VK -> XK -> Prop
abbrev CXT := List Env -> Hp -> Shared -> XK -> Value -> Shared -> Prop
structure Env0 (P : Program) (w : World) (K : PySem.W.Frag) (mg : Str -> Option Value) (base : Heap) (A : Around) (outer : List Env) (s : Shared) (H : Hp) : Prop where
 frames : A.frames = some outer
 mod : Mod K mg base
 bs : ∀ b o, base.get? b = some o -> s.heap.get? b = some o /\ H b = none
 bsz : base.objs.size <= s.heap.objs.size
 funs : s.heap.FunFrames base outer
 frf : ∀ b ∈ frs outer, H b = none
 hok : HOk P w H s.heap
 bare : AllBare s.gens
def CE (outer : List Env) (P : Program) (w : World) (H : Hp) (s : Shared) (Q : VK) (u : Value) (s' : Shared) : Prop :=
 ∃ v H', s'.os = s.os /\ AllBare s'.gens /\ Un (frs outer) [] H H' s.heap s'.heap /\ HOk P w H' s'.heap /\ RelV v u /\ Q v H'
def CR (CX : CXT) (outer : List Env) (P : Program) (w : World) (H : Hp) (s : Shared) (Q : VK) (E : XK) (r : Result) (s' : Shared) : Prop :=
 match r with
 | .ok (.ret u) => CE outer P w H s Q u s'
 | .ok _ => False
 | .error e => CX outer H s E e s'
structure FnOk (P : Program) (w : World) (K : PySem.W.Frag) (mg : Str -> Option Value) (base : Heap) (CX : CXT) (k : Nat) (f : Addr) (fd : FuncData) (ps : List Str) (sp : Sp) : Prop where
 len : ∀ vs H Q E, sp vs H Q E -> vs.length = ps.length
 run : ∀ (A : Around) (outer : List Env) (s : Shared) (H : Hp) (args : Args) (us : List Value) (vs : List V) (Q : VK) (E : XK), Room k A -> Env0 P w K mg base A outer s H -> BindsTo s fd args (ps.zip us) -> Vals vs us -> sp vs H Q E ->
  codeAny (model P w) A (.call (.ref f) args) (CR CX outer P w H s Q E) s
theorem FnOk.mono {P : Program} {w : World} {K : PySem.W.Frag} {mg : Str -> Option Value} {base : Heap} {CX : CXT} {j k : Nat} {f : Addr} {fd : FuncData} {ps : List Str} {sp : Sp} (F : FnOk P w K mg base CX j f fd ps sp) (h : j <= k) :
  FnOk P w K mg base CX k f fd ps sp := ⟨F.len, fun A outer s H args us vs Q E hr => F.run A outer s H args us vs Q E (hr.mono h)⟩
theorem FnOk.imp {P : Program} {w : World} {K : PySem.W.Frag} {mg : Str -> Option Value} {base : Heap} {CX : CXT} {k : Nat} {f : Addr} {fd : FuncData} {ps : List Str} {sp sp' : Sp} (F : FnOk P w K mg base CX k f fd ps sp)
  (h : ∀ vs H Q E, sp' vs H Q E -> sp vs H Q E) : FnOk P w K mg base CX k f fd ps sp' :=
 ⟨fun vs H Q E q => F.len vs H Q E (h _ _ _ _ q), fun A outer s H args us vs Q E hr he hb hv hs => F.run A outer s H args us vs Q E hr he hb hv (h _ _ _ _ hs)⟩
theorem Env0.make {P : Program} {w : World} {K : PySem.W.Frag} {mg : Str -> Option Value} {base : Heap} {A : Around} {outer : List Env} {s : Shared} {H : Hp} (e : Env0 P w K mg base A outer s H) (C : Addr) (us : List Value) (kw : List (Str × Value)) :
  Env0 P w K mg base (A.under (.builtin "type.__call__" ⟨.ref C :: us, kw⟩)) outer s H := ⟨by first | exact e.frames | (simpa [Around.under, Code.envs, Code.isFrame, pushEnvs] using e.frames), e.mod, e.bs, e.bsz, e.funs, e.frf, e.hok, e.bare⟩
theorem Env0.in1 {P : Program} {w : World} {K : PySem.W.Frag} {mg : Str -> Option Value} {base : Heap} {A : Around} {outer : List Env} {s : Shared} {H : Hp} (e : Env0 P w K mg base A outer s H) :
  Env0 P w K mg base A.in1 outer s H := ⟨e.frames, e.mod, e.bs, e.bsz, e.funs, e.frf, e.hok, e.bare⟩
section
variable {X : Cx} {pins : List (Addr × Obj)} {σ : St} {H : Hp} {s s' : Shared}
theorem Inv.env0 (I : Inv X pins σ H s) : Env0 X.prog X.w X.K X.mg X.base X.A X.stack s H :=
 ⟨I.ok.frames, I.ok.mod, I.bs, Nat.le_trans I.ok.bsz I.sz, I.stack, I.stkFree, I.hok, I.bare⟩
theorem Inv.after {Q : VK} {u : Value} (I : Inv X pins σ H s) (h : CE X.stack X.prog X.w H s Q u s') : EP X pins σ Q u s' := by
 obtain ⟨v, H', os, bare, un, hok, r, q⟩ := h
 obtain ⟨hh, g, d, t, os'⟩ := s'
 obtain rfl : os' = s.os := os
 exact ⟨v, H', I.call (h' := hh) (g' := g) (d' := d) (t' := t) (ch := []) un hok bare (fun b z => absurd z (by simp)), r, q⟩
end
def Bb (sp : Sp) (dvs : List V) (E : XK) (t : TA) : TE := fun σ H Q => t σ H fun vs H1 => sp (vs ++ dvs) H1 Q E
def Mj (C : Addr) (m : Str) (sp : Sp) (dvs : List V) (E : XK) (ta : TE) (t : TA) : TE := fun σ H Q => ta σ H fun x H1 => ∃ a dx fs, x = .ref a /\ H1 a = some (.ins C dx fs) /\ fs.lookup m = none /\
 t σ H1 fun vs H2 => sp (x :: (vs ++ dvs)) H2 Q E
def GJ (C : Addr) (sp : Sp) (dvs : List V) (E : XK) (t : TA) : TE := fun σ H Q => t σ H fun vs H1 => ∀ x dx, H1 x = none -> H1 dx = none -> dx ≠ x ->
 sp (.ref x :: (vs ++ dvs)) (upd (upd H1 dx (.own x)) x (.ins C dx [])) (fun v H2 => v = .non /\ Q (.ref x) H2) E
def Binds (K : PySem.W.Frag) (fd : FuncData) (ps : List Str) (ds : List Value) : Prop :=
 ∀ (s : Shared) (us : List Value), K.In s.heap -> (us ++ ds).length = ps.length -> BindsTo s fd ⟨us, []⟩ (ps.zip (us ++ ds))
theorem Binds.all {K : PySem.W.Frag} {fd : FuncData} {ps : List Str} (h : ∀ us : List Value, us.length = ps.length -> bindArgs fd ⟨us, []⟩ = pure (ps.zip us)) : Binds K fd ps [] := fun s us _ hl => by
 rw [List.append_nil] at hl ⊢
 exact .of_eq (h us hl)
def ig (CX : CXT) (X : Cx) (E : XK) : Prop := ∀ (pins : List (Addr × Obj)) (σ : St) (H : Hp) (s : Shared) (e : Value) (s' : Shared), Inv X pins σ H s -> CX X.stack H s E e s' -> X.xe e s'
section
variable {X : Cx} {CX : CXT} {k : Nat} {f C : Addr} {fd : FuncData} {ps : List Str} {sp : Sp} {dvs : List V} {ds : List Value} {E : XK} {x m : Str} {p pos apos : Pos} {e o : Expr} {es : List Expr} {ta : TE} {t : TA}
theorem Dh {pins : List (Addr × Obj)} {σ : St} {H : Hp} {s : Shared} {Q : VK} {us : List Value} {vs : List V} (F : FnOk X.prog X.w X.K X.mg X.base CX k f fd ps sp) (hr : Room k X.A) (hb : Binds X.K fd ps ds) (hd : Vals dvs ds) (hx : ig CX X E)
  (I : Inv X pins σ H s) (r : Vals vs us) (h : sp (vs ++ dvs) H Q E) : wpAny (model X.prog X.w) X.A (call (.ref f) us) (EP X pins σ Q) X.xe s := by
 have r2 : Vals (vs ++ dvs) (us ++ ds) := r.append hd
 have hl : (us ++ ds).length = ps.length := by rw [<- r2.length]; exact F.len _ _ _ _ h
 refine wpAny_call (codeAny_mono (F.run X.A X.stack s H ⟨us, []⟩ (us ++ ds) (vs ++ dvs) Q E hr I.env0 (hb s us I.kIn hl) r2 h) fun r s' hq => ?_)
 cases r with
 | error e => exact hx pins σ H s e s' I hq
 | ok fl =>
  cases fl with
  | ret u => exact I.after hq
  | next => exact False.elim hq
  | brk => exact False.elim hq
  | cont => exact False.elim hq
theorem zY (F : FnOk X.prog X.w X.K X.mg X.base CX k f fd ps sp) (hr : Room k X.A) (hg : Gl X x) (hm : X.mg x = some (.ref f)) (hk : PySem.W.keepIn X.K (.ref f) = true) (hb : Binds X.K fd ps ds) (hd : Vals dvs ds) (hx : ig CX X E)
  (ha : PA X (e :: es) t) (hdb : (x == ("__debug__" : Str)) = false := by decide) (he : starEach (e :: es) X.env = (false, eval e X.env) :: starEach es X.env := by rfl) (hpl : (backTo pos (starEach es X.env)).any (·.1) = false := by rfl) :
  PE X (.Call (.Name x p) (e :: es) [] pos) (Bb sp dvs E t) := by
 intro pins s σ H Q I h
 refine wpAny_Call_Name_kw (lF I hg hm ?_ hdb)
 refine PySem.W.callWith_K (h₀ := X.base) I.ok.mod.kin hk (thn (ha pos pins s σ H _ I h) fun us s1 ⟨vs, H1, I1, r, q⟩ => ⟨I1.kIn, ?_⟩) he hpl
 exact Dh F hr hb hd hx I1 r q
structure Mk (K : PySem.W.Frag) (C f : Addr) : Prop where
 makes : PySem.W.makesIn K C = true
 init : PySem.W.findIn K (.ref C) "__init__" = some (some (.ref f))
 fn : PySem.W.isFn K (.ref f) = true
 kp : PySem.W.keepIn K (.ref C) = true
theorem FZ {pins : List (Addr × Obj)} {σ : St} {H : Hp} {s : Shared} {Q : VK} {us : List Value} {vs : List V} (M : Mk X.K C f) (F : FnOk X.prog X.w X.K X.mg X.base CX k f fd ps sp) (hr : Room (k + 1) X.A) (hb : Binds X.K fd ps ds) (hd : Vals dvs ds)
  (hx : ig CX X E) (I : Inv X pins σ H s) (r : Vals vs us)
  (h : ∀ x dx, H x = none -> H dx = none -> dx ≠ x -> sp (.ref x :: (vs ++ dvs)) (upd (upd H dx (.own x)) x (.ins C dx [])) (fun v H2 => v = .non /\ Q (.ref x) H2) E) :
  wpAny (model X.prog X.w) X.A (call (.ref C) us) (EP X pins σ Q) X.xe s := by
 have hq := h (s.heap.objs.size + 1) s.heap.objs.size (I.hok.fresh (Nat.le_succ _)) (I.hok.fresh (Nat.le_refl _)) (Nat.ne_of_lt (Nat.lt_succ_self _))
 have I2 := Inv.made (C := C) I
 have r2 : Vals (V.ref (s.heap.objs.size + 1) :: (vs ++ dvs)) (Value.ref (s.heap.objs.size + 1) :: (us ++ ds)) := .cons rfl (r.append hd)
 have hl : (Value.ref (s.heap.objs.size + 1) :: us ++ ds).length = ps.length := by
  have e := r2.length
  rw [F.len _ _ _ _ hq] at e
  exact e.symm
 refine wpAny_call (FN (f := f) I.kIn M.makes M.init (beq_iff_eq.mp M.fn) (codeAny_mono (F.run _ X.stack _ _ ⟨Value.ref (s.heap.objs.size + 1) :: us, []⟩ (Value.ref (s.heap.objs.size + 1) :: (us ++ ds)) _ _ E (hr.make C us [])
  (I2.env0.make C us []) (hb _ (Value.ref (s.heap.objs.size + 1) :: us) I2.kIn hl) r2 hq) fun r s' hq' => ?_))
 cases r with
 | error e => exact hx pins σ _ _ e s' I2 hq'
 | ok fl =>
  cases fl with
  | ret u =>
   obtain ⟨v, H', I3, rv, ev, q3⟩ := I2.after hq'
   subst ev
   exact ⟨rv, ⟨V.ref (s.heap.objs.size + 1), H', I3, rfl, q3⟩⟩
  | next => exact False.elim hq'
  | brk => exact False.elim hq'
  | cont => exact False.elim hq'
theorem G8 (M : Mk X.K C f) (F : FnOk X.prog X.w X.K X.mg X.base CX k f fd ps sp) (hr : Room (k + 1) X.A) (hg : Gl X x) (hm : X.mg x = some (.ref C)) (hb : Binds X.K fd ps ds) (hd : Vals dvs ds) (hx : ig CX X E)
  (ha : PA X (e :: es) t) (hdb : (x == ("__debug__" : Str)) = false := by decide) (he : starEach (e :: es) X.env = (false, eval e X.env) :: starEach es X.env := by rfl) (hpl : (backTo pos (starEach es X.env)).any (·.1) = false := by rfl) :
  PE X (.Call (.Name x p) (e :: es) [] pos) (GJ C sp dvs E t) := by
 intro pins s σ H Q I h
 refine wpAny_Call_Name_kw (lF I hg hm ?_ hdb)
 refine PySem.W.callWith_K (h₀ := X.base) I.ok.mod.kin M.kp (thn (ha pos pins s σ H _ I h) fun us s1 ⟨vs, H1, I1, r, q⟩ => ⟨I1.kIn, ?_⟩) he hpl
 exact FZ M F hr hb hd hx I1 r q
end
def PK (X : Cx) (kws : List Keyword) (t : TA) : Prop :=
 ∀ (pos : Pos) (pins : List (Addr × Obj)) (s : Shared) (σ : St) (H : Hp) (Q : List V -> Hp -> Prop), Inv X pins σ H s -> t σ H Q -> wpAny (model X.prog X.w) X.A (evalAll ((backToKw pos (keywordEach kws X.env)).map (·.2))) (AP X pins σ Q) X.xe s
section
variable {X : Cx} {CX : CXT} {k : Nat} {f C : Addr} {fd : FuncData} {ps ks : List Str} {sp : Sp} {E : XK} {x m : Str} {p pos apos kpos : Pos} {e o : Expr} {es : List Expr} {kws : List Keyword} {te ta : TE} {t tk : TA} {nm : Option Str}
structure KBinds (K : PySem.W.Frag) (fd : FuncData) (ps ks : List Str) (g : List Value -> List Value -> List Value) (gV : List V -> List V -> List V) : Prop where
 to : ∀ (s : Shared) (us ws : List Value), K.In s.heap -> (g us ws).length = ps.length -> BindsTo s fd ⟨us, ks.zip ws⟩ (ps.zip (g us ws))
 rel : ∀ {vs : List V} {us : List Value} {zs : List V} {ws : List Value}, Vals vs us -> Vals zs ws -> Vals (gV vs zs) (g us ws)
def LK (sp : Sp) (gV : List V -> List V -> List V) (E : XK) (t tk : TA) : TE := fun σ H Q => t σ H fun vs H1 => tk σ H1 fun zs H2 => sp (gV vs zs) H2 Q E
variable {g : List Value -> List Value -> List Value} {gV : List V -> List V -> List V}
end
structure FnScope (N P : List Str) (sc : Scope) : Prop where
 kind : sc.kind = .function
 co : sc.isCoroutine = false
 gen : sc.isGenerator = false
 nd : N.Nodup
 pre : N.take P.length = P
 par : ∀ x ∈ P, sc.names.lookup x = some .local \/ sc.names.lookup x = some .cell
 nofree : ∀ y ∈ sc.names, y.2 ≠ .free
theorem vd {kindOf : Str -> Option NameKind} {x : Str} : ∀ {binds : List (Str × Value)} {m : Str -> Option Value}, (∀ v, (x, v) ∉ binds) -> bindL kindOf binds m x = m x
 | [], _, _ => rfl
 | (n, v) :: r, m, h => by
  unfold bindL
  rw [vd fun w hw => h w (List.mem_cons_of_mem _ hw)]
  split
  ·have : x ≠ n := by rintro rfl; exact h v List.mem_cons_self
   simp [this]
  ·rfl
theorem vm {kindOf : Str -> Option NameKind} {x : Str} : ∀ {binds : List (Str × Value)} {m : Str -> Option Value}, (∀ v, (x, v) ∉ binds) -> bindC kindOf binds m x = m x
 | [], _, _ => rfl
 | (n, v) :: r, m, h => by
  unfold bindC
  rw [vm fun w hw => h w (List.mem_cons_of_mem _ hw)]
  split
  ·rfl
  ·have : x ≠ n := by rintro rfl; exact h v List.mem_cons_self
   simp [this]
theorem vo {kindOf : Str -> Option NameKind} {x : Str} {v : Value} : ∀ {P : List Str} {vs : List Value} {i : Nat} {m : Str -> Option Value}, P.Nodup -> P[i]? = some x -> vs[i]? = some v -> kindOf x = some .local ->
  bindL kindOf (P.zip vs) m x = some v
 | [], _, _, _, _, h, _, _ => by simp at h
 | _ :: _, [], _, _, _, _, h, _ => by simp at h
 | p :: P, w :: vs, 0, m, nd, h1, h2, hk => by
  simp at h1 h2; subst h1; subst h2
  show bindL kindOf ((p, w) :: P.zip vs) m p = _
  unfold bindL
  rw [vd fun v hv => (List.nodup_cons.mp nd).1 (List.of_mem_zip hv).1, if_pos hk]
  simp
 | p :: P, w :: vs, i + 1, m, nd, h1, h2, hk => by
  show bindL kindOf ((p, w) :: P.zip vs) m x = _
  unfold bindL
  exact vo (i := i) (List.nodup_cons.mp nd).2 (by simpa using h1) (by simpa using h2) hk
theorem uZ {kindOf : Str -> Option NameKind} {x : Str} {v : Value} : ∀ {P : List Str} {vs : List Value} {i : Nat} {m : Str -> Option Value}, P.Nodup -> P[i]? = some x -> vs[i]? = some v -> kindOf x ≠ some .local ->
  bindC kindOf (P.zip vs) m x = some v
 | [], _, _, _, _, h, _, _ => by simp at h
 | _ :: _, [], _, _, _, _, h, _ => by simp at h
 | p :: P, w :: vs, 0, m, nd, h1, h2, hk => by
  simp at h1 h2; subst h1; subst h2
  show bindC kindOf ((p, w) :: P.zip vs) m p = _
  unfold bindC
  rw [vm fun v hv => (List.nodup_cons.mp nd).1 (List.of_mem_zip hv).1, if_neg hk]
  simp
 | p :: P, w :: vs, i + 1, m, nd, h1, h2, hk => by
  show bindC kindOf ((p, w) :: P.zip vs) m x = _
  unfold bindC
  exact uZ (i := i) (List.nodup_cons.mp nd).2 (by simpa using h1) (by simpa using h2) hk
def start (N : List Str) (vs : List V) : St := vs.map some ++ List.replicate (N.length - vs.length) none
def dh (CX : CXT) (P : Program) (w : World) (K : PySem.W.Frag) (mg : Str -> Option Value) (base : Heap) (N : List Str) (qual : Str) (scope : Scope) (f : Addr) (cd : Value) (A : Around) (outer : List Env) (s : Shared) (H : Hp) (E : XK) : Cx where
 prog := P
 w := w
 K := K
 mg := mg
 base := base
 A := A.deeper (envOfC qual scope s.heap.objs.size f cd)
 N := N
 s₀ := s
 H₀ := H
 env := envOfC qual scope s.heap.objs.size f cd
 outer := outer
 stack := envOfC qual scope s.heap.objs.size f cd :: outer
 ex := []
 calm := true
 fn := fun _ => true
 pn := []
 xe := fun e s' => wpAny (model P w) (A.deeper (envOfC qual scope s.heap.objs.size f cd)) (leaving (envOfC qual scope s.heap.objs.size f cd) e) (fun _ s'' => CX outer H s E e s'') (fun e' s'' => CX outer H s E e' s'') s'
theorem wQ {sc : Scope} {n : Nat} {x : Str} (h : sc.names.lookup x = some .cell) : ∃ c, (cellsFrom n sc.names []).lookup x = some c := by
 have q := PySem.W.cellsFrom_some sc.names n [] (.inl h)
 exact Option.isSome_iff_exists.mp q
theorem Do {CX : CXT} {P : Program} {w : World} {K : PySem.W.Frag} {mg : Str -> Option Value} {base : Heap} {N ps : List Str} {qual : Str} {scope : Scope} {f : Addr} {cd : Value} {A : Around} {outer : List Env} {s s1 : Shared} {H : Hp} {E : XK} {us : List Value} {vs : List V}
  (S : FnScope N ps scope) (hd : A.handled = none) (e0 : Env0 P w K mg base A outer s H) (hl : vs.length = ps.length) (r : Vals vs us)
  (x : InCallC s s.heap.objs.size (bindL (envOfC qual scope s.heap.objs.size f cd).kindOf (ps.zip us) fun _ => none) (cellsFrom (s.heap.objs.size + 1) scope.names []) (bindC (envOfC qual scope s.heap.objs.size f cd).kindOf (ps.zip us) fun _ => none) s1) :
  Inv (dh CX P w K mg base N qual scope f cd A outer s H E) [] (start N vs) H s1 := by
 have hpl : ps.length <= N.length := by have := congrArg List.length S.pre; rw [List.length_take] at this; omega
 obtain ⟨h1, tk, rfl, hk⟩ := x.done
 have noA : ∀ b : Addr, b ∉ (dh CX P w K mg base N qual scope f cd A outer s H E).ex := fun b z => absurd (show b ∈ ([] : List Addr) from z) (by simp)
 refine ⟨⟨e0.mod, S.kind, rfl, rfl, Nat.le_refl _, fun y z c h1 h2 => ?_, fun y hy => ?_, fun y c _ h => ?_, fun _ => hd, Around.frames_deeper e0.frames, .inr ⟨rfl, rfl⟩, fun b z => absurd z (noA b), e0.bs, e0.bsz, fun b _ _ => noA b, fun b z => absurd z (noA b), e0.funs, e0.frf⟩,
  rfl, e0.bare, Un.kept hk, ⟨_, x.toInCall.ns, fun i y v h1 h2 h3 => ?_⟩, fun y c h => ⟨_, x.cell y c h⟩, e0.hok.fresh (Nat.le_refl _), fun y c h => ?_, fun p hp => absurd (show p ∈ ([] : List (Addr × Obj)) from hp) (by simp), e0.hok.kept hk, ?_⟩
 ·exact name_of_addr x.apart (PySem.mem_of_lookup h1) (PySem.mem_of_lookup h2)
 ·have hy : scope.names.lookup y = some .cell \/ scope.names.lookup y = some .free := hy
  rcases hy with hy | hy
  ·exact wQ hy
  ·exact absurd rfl (S.nofree _ (PySem.mem_of_lookup hy))
 ·exact Nat.le_of_lt (x.above y c (PySem.mem_of_lookup h))
 ·have hi : i < vs.length := by
   unfold start at h2
   by_cases hi : i < vs.length
   ·exact hi
   ·rw [List.getElem?_append_right (by simpa using hi)] at h2
    rw [List.getElem?_replicate] at h2
    split at h2 <;> cases h2
  have ha : vs[i]? = some v := by
   unfold start at h2
   rw [List.getElem?_append_left (by simpa using hi), List.getElem?_map] at h2
   cases e : vs[i]? with
   | none => rw [e] at h2; cases h2
   | some a => rw [e] at h2; cases h2; rfl
  obtain ⟨u, hu, rv⟩ := r.get ha
  have hp : ps[i]? = some y := by
   rw [<- S.pre, List.getElem?_take_of_lt (by omega)]; exact h1
  have ndP : ps.Nodup := by rw [<- S.pre]; exact S.nd.sublist (List.take_sublist _ _)
  refine ⟨u, rv, ?_⟩
  rcases S.par y (List.mem_of_getElem? hp) with k | k
  ·exact .inl ⟨k, vo ndP hp hu k⟩
  ·obtain ⟨c, e⟩ := wQ (n := s.heap.objs.size + 1) k
   refine .inr ⟨.inl k, c, e, ?_⟩
   have q := x.cell y c e
   rw [uZ ndP hp hu (by show scope.names.lookup y ≠ _; rw [k]; decide)] at q
   exact q
 ·exact e0.hok.fresh (Nat.le_of_lt (x.above y c (PySem.mem_of_lookup h)))
 ·unfold start
  show _ = N.length
  rw [List.length_append, List.length_map, List.length_replicate]
  omega
theorem Gw {CX : CXT} {P : Program} {w : World} {K : PySem.W.Frag} {mg : Str -> Option Value} {base : Heap} {k : Nat} {f : Addr} {name qual : Str} {params : Arguments} {body : List Stmt} {scope : Scope} {dV kV doc pm cdv ct oc : Value} {an od : Option Addr}
  {osl : Array (Option Value)} {N ps : List Str} {sp : Sp} (lk : K.lookup f = some ⟨oc, od, .func (PySem.W.fnOf name qual params body scope dV kV doc pm an cdv ct), osl⟩) (hcd : PySem.W.codeIn K cdv qual = true) (S : FnScope N ps scope)
  (len : ∀ vs H Q E, sp vs H Q E -> vs.length = ps.length)
  (hbody : ∀ (A : Around) (outer : List Env) (s : Shared) (H : Hp) (vs : List V) (Q : VK) (E : XK), Room k (A.deeper (envOfC qual scope s.heap.objs.size f cdv)) -> sp vs H Q E ->
   ∃ t, PSs (dh CX P w K mg base N qual scope f cdv A outer s H E) body t /\ t { nx := fun _ H' => Q .non H', rt := Q } (start N vs) H) :
  FnOk P w K mg base CX (k + 1) f (PySem.W.fnOf name qual params body scope dV kV doc pm an cdv ct) ps sp := by
 refine ⟨len, fun A outer s H args us vs Q E hr e0 hb r hsp => ?_⟩
 have hl := len _ _ _ _ hsp
 have KX : K.In s.heap := e0.mod.kin.keeps fun b o e => (e0.bs b o e).1
 have lim : s.heap.NoLimit := e0.mod.nolimit.keeps fun b o e => (e0.bs b o e).1
 have hkind : ∀ y ∈ ps.zip us, scope.names.lookup y.1 = some .local \/ (scope.names.lookup y.1 = some .cell /\ ((cellsFrom (s.heap.objs.size + 1) scope.names []).lookup y.1).isSome = true) := fun ⟨n, v⟩ hy => by
  rcases S.par n (List.of_mem_zip hy).1 with q | q
  ·exact .inl q
  ·exact .inr ⟨q, PySem.W.cellsFrom_some _ _ _ (.inl q)⟩
 refine codeAny_call_function hr.depth (KX _ _ lk) rfl S.co S.gen rfl (PySem.W.codeRec_of KX hcd) (hb _ _ _ _ ?_)
 refine wpAny_newFunctionEnv_cells S.kind hkind fun env he s1 x => ?_
 subst he
 refine ⟨lim.keeps x.toInCall.keep, codeAny_func ?_⟩
 obtain ⟨t, ht, hq⟩ := hbody A outer s H vs Q E (hr.deeper _) hsp
 have I : Inv (dh CX P w K mg base N qual scope f cdv A outer s H E) [] (start N vs) H s1 := Do S hr.hd e0 hl r x
 refine wpAny_mono (ht [] s1 (start N vs) H _ I hq) (fun fl s' hs => ?_) fun e s' hs => hs
 have fin : ∀ {σ' : St} {H' : Hp} {v : V} {u : Value}, Inv (dh CX P w K mg base N qual scope f cdv A outer s H E) [] σ' H' s' -> RelV v u -> Q v H' -> CE outer P w H s Q u s' :=
  fun {σ' H' v u} J rv q => ⟨v, H', J.os, J.bare, J.base, J.hok, rv, q⟩
 cases fl with
 | ret u =>
  obtain ⟨v, σ', H', J, rv, q⟩ := hs
  exact fin J rv q
 | next =>
  obtain ⟨σ', H', J, q⟩ := hs
  exact fin (v := V.non) (u := Value.none) J rfl q
 | brk =>
  obtain ⟨_, _, _, q⟩ := hs
  exact False.elim q
 | cont =>
  obtain ⟨_, _, _, q⟩ := hs
  exact False.elim q
end L2
namespace L2
open PySem PySem.Spec PyProof.Rows
section
variable {X : Cx} {x : Str} {p pos : Pos} {e : Expr} {es : List Expr} {t : TA} {id T : String} {r : List V -> Hp -> VK -> Prop}
def tCB (r : List V -> Hp -> VK -> Prop) (t : TA) : TE := fun σ H Q => t σ H fun vs H1 => r vs H1 Q
theorem aJ (hc : CallR X (.builtin id) r) (hg : Gl X x) (hm : X.mg x = none) (hv : bootBuiltins x = some (.builtin id)) (ha : PA X (e :: es) t) (hn : x ≠ "__name__" := by decide) (hdb : (x == ("__debug__" : Str)) = false := by decide)
  (he : starEach (e :: es) X.env = (false, eval e X.env) :: starEach es X.env := by rfl) (hpl : (backTo pos (starEach es X.env)).any (·.1) = false := by rfl) : PE X (.Call (.Name x p) (e :: es) [] pos) (tCB r t) := by
 intro pins s σ H Q I h
 refine wpAny_Call_Name_kw (jc I hg hm hv ?_ hn hdb)
 exact PyProof.Rows.callWith_builtin1 (thn (ha pos pins s σ H _ I h) fun us s1 ⟨vs, H1, I1, r1, q1⟩ => hc pins s1 σ H1 vs us Q I1 r1 q1) he hpl
theorem pH (hc : CallR X (.type T) r) (hg : Gl X x) (hm : X.mg x = none) (hv : bootBuiltins x = some (.type T)) (ha : PA X (e :: es) t) (hn : x ≠ "__name__" := by decide) (hdb : (x == ("__debug__" : Str)) = false := by decide)
  (he : starEach (e :: es) X.env = (false, eval e X.env) :: starEach es X.env := by rfl) (hpl : (backTo pos (starEach es X.env)).any (·.1) = false := by rfl) : PE X (.Call (.Name x p) (e :: es) [] pos) (tCB r t) := by
 intro pins s σ H Q I h
 refine wpAny_Call_Name_kw (jc I hg hm hv ?_ hn hdb)
 exact PyProof.Rows.callWith_type1 (thn (ha pos pins s σ H _ I h) fun us s1 ⟨vs, H1, I1, r1, q1⟩ => hc pins s1 σ H1 vs us Q I1 r1 q1) he hpl
end
end L2
namespace HT
open PySem PyProof.Rows
def lexLt : List Int -> List Int -> Bool
 | [], [] => false
 | [], _ :: _ => true
 | _ :: _, [] => false
 | x :: xs, y :: ys => if x = y then lexLt xs ys else decide (x < y)
section
open PySem.SeqAt
open PySem.AutoSeq1 (wpAny_loadPart')
open PySem.MeetsSeq PySem.MeetsSeq2 PySem.MeetsSeq3
end
section
variable {prog : Program} {w : World} {A : Around} {E : Value -> Shared -> Prop} {s : Shared}
def sIx (n d : Nat) : Option Int -> Nat
 | none => d
 | some v => if v < 0 then (v + (n : Int)).toNat else min v.toNat n
end
end HT
namespace L2
open PySem PySem.Spec PyProof.Rows
abbrev TO := St -> Hp -> (Option Int -> Hp -> Prop) -> Prop
def PO (X : Cx) (e : Option Expr) (t : TO) : Prop :=
 ∀ (pins : List (Addr × Obj)) (s : Shared) (σ : St) (H : Hp) (Q : Option Int -> Hp -> Prop), Inv X pins σ H s -> t σ H Q ->
  wpAny (model X.prog X.w) X.A (evalPart e X.env) (fun u s' => ∃ o H', Inv X pins σ H' s' /\ IsPart u o /\ Q o H') X.xe s
def Hl : TO := fun _ H Q => Q none H
def JZ (t : TE) : TO := fun σ H Q => t σ H fun x H1 => ∃ i, x = .int i /\ Q (some i) H1
section
variable {X : Cx} {e : Expr} {te : TE} {lo hi : Option Expr} {tl th : TO} {pos p2 : Pos}
theorem jD : PO X none Hl := by
 intro pins s σ H Q I h
 rw [evalPart_none]
 exact wpAny_pure ⟨none, H, I, .none, h⟩
theorem jC (h : PE X e te) : PO X (some e) (JZ te) := by
 intro pins s σ H Q I hw
 rw [evalPart_some]
 refine thn (h pins s σ H _ I hw) fun u s1 ⟨x, H1, I1, r1, q1⟩ => ?_
 obtain ⟨i, rfl, q⟩ := q1
 obtain ⟨t, rfl⟩ := r1
 exact ⟨some i, H1, I1, .int i t, q⟩
def SlR (X : Cx) (r : V -> Option Int -> Option Int -> Hp -> VK -> Prop) : Prop :=
 ∀ (pins : List (Addr × Obj)) (s : Shared) (σ : St) (H : Hp) (x : V) (v vl vu : Value) (lo hi : Option Int) (sl : Addr) (Q : VK), Inv X pins σ H s -> RelV x v -> s.heap.IsSliceOf sl vl vu .none -> IsPart vl lo -> IsPart vu hi -> r x lo hi H Q ->
  ∃ T id, typeLookup (.type T) "__getitem__" = pure (some (.builtin id)) /\ s.TypeIs v T /\ wpAny (model X.prog X.w) X.A (getItem v (.ref sl)) (EP X pins σ Q) X.xe s
theorem SlR.or {r r' : V -> Option Int -> Option Int -> Hp -> VK -> Prop} (h : SlR X r) (h' : SlR X r') : SlR X (fun x lo hi H Q => r x lo hi H Q \/ r' x lo hi H Q) := by
 intro pins s σ H x v vl vu lo hi sl Q I rx hs pl pu q
 rcases q with q | q
 ·exact h pins s σ H x v vl vu lo hi sl Q I rx hs pl pu q
 ·exact h' pins s σ H x v vl vu lo hi sl Q I rx hs pl pu q
def tSl (r : V -> Option Int -> Option Int -> Hp -> VK -> Prop) (te : TE) (tl th : TO) : TE := fun σ H Q => te σ H fun x H1 => tl σ H1 fun l H2 => th σ H2 fun u H3 => r x l u H3 Q
theorem iU {r : V -> Option Int -> Option Int -> Hp -> VK -> Prop} (hr : SlR X r) (he : PE X e te) (hl : PO X lo tl) (hu : PO X hi th) : PE X (.Subscript e (.Slice lo hi none p2) pos) (tSl r te tl th) := by
 intro pins s σ H Q I h
 refine Subscript_ (thn (he pins s σ H _ I h) fun v s1 ⟨x, H1, I1, r1, q1⟩ => ?_)
 refine wpAny_Slice (thn (hl pins s1 σ H1 _ I1 q1) fun vl s2 ⟨l, H2, I2, pl, q2⟩ => thn (hu pins s2 σ H2 _ I2 q2) fun vu s3 ⟨u, H3, I3, pu, q3⟩ => ?_)
 rw [evalPart_none]
 refine wpAny_pure ?_
 have I4 : Inv X pins σ H3 { s3 with heap := s3.heap.push { cls := .type "slice", data := .fields #[vl, vu, .none] } } := I3.kept (t' := s3.toks) fun b ob q => Heap.get?_push_of_some _ q
 obtain ⟨T, id, hT, ht, hg⟩ := hr pins { s3 with heap := s3.heap.push { cls := .type "slice", data := .fields #[vl, vu, .none] } } σ H3 x v vl vu l u s3.heap.objs.size Q I4 r1 (Heap.IsSliceOf.new ..) pl pu q3
 show wpAny (model X.prog X.w) X.A (subscriptTail e (.Slice lo hi none p2) v (.ref s3.heap.objs.size)) (EP X pins σ Q) X.xe { s3 with heap := s3.heap.push { cls := .type "slice", data := .fields #[vl, vu, .none] } }
 exact tail_any (ops := [.ref s3.heap.objs.size, v]) ht hT hg (by with_unfolding_all rfl)
def dJ (xs : List V) (lo hi : Option Int) : List V := (xs.drop (HT.sIx xs.length 0 lo)).take (HT.sIx xs.length xs.length hi - HT.sIx xs.length 0 lo)
theorem zr (xs : List V) (lo hi : Option Int) : (dJ xs lo hi).length <= xs.length := by
 unfold dJ
 rw [List.length_take, List.length_drop]
 omega
def Mt (K : PySem.W.Frag) : V -> Option Int -> Option Int -> Hp -> VK -> Prop := fun x lo hi H Q => ∃ a xs, x = .ref a /\ SqT K H a xs /\
 ¬ (HT.sIx xs.length 0 lo = 0 /\ HT.sIx xs.length xs.length hi = xs.length) /\ ∀ p, H p = none -> Q (.ref p) (upd H p (.tup (dJ xs lo hi)))
def Mu (K : PySem.W.Frag) : R2 := fun x y H Q => ∃ a b ns ms, x = .ref a /\ y = .ref b /\ SqT K H a (ns.map V.int) /\ SqT K H b (ms.map V.int) /\ Q (.bl (HT.lexLt ns ms)) H
def LR (K : PySem.W.Frag) : R2 := fun x y H Q => ∃ a b xs ys, x = .ref a /\ y = .ref b /\ SqT K H a xs /\ SqT K H b ys /\ xs ≠ [] /\ xs.length + ys.length <= sizeLine /\
 (ys = [] -> Q (.ref a) H) /\ (ys ≠ [] -> ∀ p, H p = none -> Q (.ref p) (upd H p (.tup (xs ++ ys))))
end
end L2
namespace L2
open PySem PySem.Spec PyProof.Rows
def ixN (n : Nat) (i : Int) : Option Nat := if 0 <= i then (if i < n then some i.toNat else none) else if -(n : Int) <= i then some (i + n).toNat else none
def atI {α : Type} (xs : List α) (i : Int) : Option α := (ixN xs.length i).bind fun j => xs[j]?
theorem Aj {n : Nat} {i : Int} {j : Nat} (h : ixN n i = some j) : seqIndex? i n = some j /\ j < n /\ -(n : Int) <= i /\ i < n := by
 unfold ixN at h
 by_cases h0 : 0 <= i
 ·rw [if_pos h0] at h
  by_cases h1 : i < n
  ·rw [if_pos h1] at h
   have e : i.toNat = j := Option.some.inj h
   exact ⟨by rw [seqIndex_of h0 h1, e], by omega, by omega, h1⟩
  ·rw [if_neg h1] at h; cases h
 ·rw [if_neg h0] at h
  by_cases h1 : -(n : Int) <= i
  ·rw [if_pos h1] at h
   have e : (i + n).toNat = j := Option.some.inj h
   exact ⟨by rw [seqIndex_neg (by omega) h1, e], by omega, h1, by omega⟩
  ·rw [if_neg h1] at h; cases h
theorem zL {α : Type} {xs : List α} {i : Int} {v : α} (h : atI xs i = some v) : ∃ j, seqIndex? i xs.length = some j /\ xs[j]? = some v /\ j < xs.length /\ -(xs.length : Int) <= i /\ i < xs.length := by
 unfold atI at h
 cases e : ixN xs.length i with
 | none => rw [e] at h; cases h
 | some j =>
  rw [e] at h
  obtain ⟨h1, h2, h3, h4⟩ := Aj e
  exact ⟨j, h1, h, h2, h3, h4⟩
theorem d_ {α : Type} {xs : List α} {j : Nat} {v : α} (h : xs[j]? = some v) : atI xs (j : Int) = some v := by
 have hj : j < xs.length := (List.getElem?_eq_some_iff.mp h).1
 have e : ixN xs.length (j : Int) = some j := by
  unfold ixN
  rw [if_pos (by omega), if_pos (by omega)]; simp
 unfold atI; rw [e]; exact h
def Ha (b : Expr) : Prop := ∀ o i, subscripted b false o i = operate [o, i] (getItem o i)
def IxR (X : Cx) (r : R2) : Prop :=
 ∀ (value slice : Expr) (pins : List (Addr × Obj)) (s : Shared) (σ : St) (H : Hp) (x y : V) (v u : Value) (Q : VK), Inv X pins σ H s -> RelV x v -> RelV y u -> r x y H Q ->
  subscripted slice false v u = operate [v, u] (getItem v u) -> wpAny (model X.prog X.w) X.A (subscriptTail value slice v u) (EP X pins σ Q) X.xe s
def MtR (X : Cx) (id : String) (r : V -> List V -> Hp -> VK -> Prop) : Prop :=
 ∀ (pins : List (Addr × Obj)) (s : Shared) (σ : St) (H : Hp) (x : V) (xs : List V) (v : Value) (us : List Value) (Q : VK), Inv X pins σ H s -> RelV x v -> Vals xs us -> r x xs H Q ->
  wpAny (model X.prog X.w) X.A (call (.builtin id) (v :: us)) (EP X pins σ Q) X.xe s
section
variable {X : Cx} {a b : Expr} {ta tb : TE} {pos : Pos}
theorem IxR.or {r r' : R2} (h : IxR X r) (h' : IxR X r') : IxR X (fun x y H Q => r x y H Q \/ r' x y H Q) := by
 intro value slice pins s σ H x y v u Q I rx ry q hs
 rcases q with q | q
 ·exact h value slice pins s σ H x y v u Q I rx ry q hs
 ·exact h' value slice pins s σ H x y v u Q I rx ry q hs
theorem MtR.or {id : String} {r r' : V -> List V -> Hp -> VK -> Prop} (h : MtR X id r) (h' : MtR X id r') : MtR X id (fun x xs H Q => r x xs H Q \/ r' x xs H Q) := by
 intro pins s σ H x xs v us Q I rx rs q
 rcases q with q | q
 ·exact h pins s σ H x xs v us Q I rx rs q
 ·exact h' pins s σ H x xs v us Q I rx rs q
theorem aV {r : R2} (hr : IxR X r) (ha : PE X a ta) (hb : PE X b tb) (hs : Ha b) : PE X (.Subscript a b pos) (tOp r ta tb) := by
 intro pins s σ H Q I h
 exact Subscript_ (Ft ha hb I h fun v u s2 x y H2 I2 rx ry q => hr a b pins s2 σ H2 x y v u Q I2 rx ry q (hs _ _))
def Et (K : PySem.W.Frag) : R2 := fun x y H Q => ∃ p xs i v, x = .ref p /\ y = .int i /\ SqL K H p xs /\ atI xs i = some v /\ Q v H
def Fl (K : PySem.W.Frag) : R2 := fun x y H Q => ∃ p xs i v, x = .ref p /\ y = .int i /\ SqT K H p xs /\ atI xs i = some v /\ Q v H
def K_ : R2 := fun x y H Q => ∃ z i c, x = .str z /\ y = .int i /\ z.length <= sizeLine /\ atI z.cps.toList i = some c /\ Q (.str ⟨#[c]⟩) H
theorem HR : IxR X (Et X.K) := by
 intro value slice pins s σ H x y v u Q I rx ry h hs
 obtain ⟨p, xs, i, z, rfl, rfl, hq, he, q⟩ := h
 cases rx
 obtain ⟨t, rfl⟩ := ry
 obtain ⟨its, r, pl, hz⟩ := I.list hq
 obtain ⟨j, h1, h2, h3, h4, h5⟩ := zL he
 obtain ⟨w, ew, rw'⟩ := r.get h2
 have hl := r.length
 have hn := tD
 have fin : EP X pins σ Q w s := ⟨z, H, I, rw', q⟩
 by_cases h0 : 0 <= i
 ·have hj : i.toNat = j := by
   rw [seqIndex_of h0 h5] at h1
   exact Option.some.inj h1
  exact item_listR pl.isList h0 (by omega) (by rw [hj]; simpa using ew) fin hs
 ·have hj : (i + (its.toArray.size : Int)).toNat = j := by
   rw [seqIndex_neg (by omega) h4] at h1
   rw [List.size_toArray, <- hl]
   exact Option.some.inj h1
  exact subscriptTail_builtinR (x := w) pl.isList.typeIs slot_list_getitem.lookup
   (wpAny_getItem_list_neg (Q := fun r s' => r = w /\ EP X pins σ Q r s') pl.isList (by omega) (by rw [List.size_toArray] <;> omega) (by omega) (by rw [hj]; simpa using ew) ⟨rfl, fin⟩) hs
theorem Jp : IxR X (Fl X.K) := by
 intro value slice pins s σ H x y v u Q I rx ry h hs
 obtain ⟨p, xs, i, z, rfl, rfl, hq, he, q⟩ := h
 cases rx
 obtain ⟨t, rfl⟩ := ry
 obtain ⟨its, r, pl, hz⟩ := I.tuple hq
 obtain ⟨j, h1, h2, h3, h4, h5⟩ := zL he
 obtain ⟨w, ew, rw'⟩ := r.get h2
 have hl := r.length
 have hn := tD
 have fin : EP X pins σ Q w s := ⟨z, H, I, rw', q⟩
 exact subscriptTail_builtinR (x := w) pl.typeIs slot_tuple_getitem.lookup
  (getItem_tuple (j := j) (Q := fun r s' => r = w /\ EP X pins σ Q r s') pl (by omega) (by omega) (by rw [List.size_toArray, <- hl]; exact h1) (by simpa using ew) ⟨rfl, fin⟩) hs
def rIx (K : PySem.W.Frag) : R2 := fun x y H Q => Et K x y H Q \/ Fl K x y H Q \/ K_ x y H Q
theorem Bf (its : List Value) (n j : Nat) (u : Value) : Obj.mapSeq (·.setIfInBounds j u) { cls := .type "list", data := .seq its.toArray n } = { cls := .type "list", data := .seq (its.set j u).toArray n } := by
 simp [Obj.mapSeq]
theorem Inv.lst {pins : List (Addr × Obj)} {σ : St} {H : Hp} {s : Shared} {p : Addr} {xs : List V} (I : Inv X pins σ H s) (h : H p = some (.lst xs)) :
  ∃ (its : List Value) (n : Nat), Vals xs its /\ s.heap.get? p = some { cls := .type "list", data := .seq its.toArray n } /\ xs.length <= sizeLine := by
 obtain ⟨z, its, n, r, e⟩ := I.hok p _ h
 exact ⟨its, n, r, e, z⟩
theorem Inv.lstUpd {pins : List (Addr × Obj)} {σ : St} {H : Hp} {s : Shared} {p : Addr} {xs ys : List V} {its its' : List Value} {n n' : Nat} {f : Obj -> Obj} (I : Inv X pins σ H s) (h : H p = some (.lst xs))
  (ho : s.heap.get? p = some { cls := .type "list", data := .seq its.toArray n }) (hf : f { cls := .type "list", data := .seq its.toArray n } = { cls := .type "list", data := .seq its'.toArray n' }) (r : Vals ys its') (hz : ys.length <= sizeLine) (t : Nat) :
  Inv X pins σ (upd H p (.lst ys)) { s with heap := s.heap.update p f, toks := t } := by
 have e : (s.heap.update p f).get? p = some { cls := .type "list", data := .seq its'.toArray n' } := by
  rw [Heap.get?_update_self f ho (by rw [hf] <;> rfl), hf]
 refine I.write (x := p) (e := p) (by rw [h]; trivial) (.inl rfl) (fun b u hb q => (Heap.get?_update_other _ _ (Ne.symm hb)).trans q) ⟨_, e⟩ ?_
 exact ⟨hz, its', n', r, e⟩
def JM : V -> V -> V -> Hp -> (Hp -> Prop) -> Prop := fun o i v H Q => ∃ p xs k j, o = .ref p /\ i = .int k /\ H p = some (.lst xs) /\ ixN xs.length k = some j /\ Q (upd H p (.lst (xs.set j v)))
theorem set_list : Jb X JM := by
 intro pins s σ H o i v ov iv u Q I ro ri rv h
 obtain ⟨p, xs, k, j, rfl, rfl, hp, hj, q⟩ := h
 cases ro
 obtain ⟨t, rfl⟩ := ri
 obtain ⟨its, n, r, ho, hz⟩ := I.lst hp
 obtain ⟨h1, h2, h3, h4⟩ := Aj hj
 have hl := r.length
 have hn := tD
 have I' : Inv X pins σ (upd H p (.lst (xs.set j v))) { s with heap := s.heap.update p (Obj.mapSeq (·.setIfInBounds j u)) } :=
  I.lstUpd hp ho (Bf its n j u) (r.set rv j) (by rw [List.length_set]; exact hz) s.toks
 by_cases h0 : 0 <= k
 ·have hk : k.toNat = j := by
   rw [seqIndex_of h0 h4] at h1
   exact Option.some.inj h1
  exact PySem.W.ki_setAt ho h0 (by omega) (by rw [List.size_toArray, <- hl]; exact h4) (by rw [hk]; exact ⟨_, I', q⟩)
 ·have hk : (k + (its.toArray.size : Int)).toNat = j := by
   rw [seqIndex_neg (by omega) h3] at h1
   rw [List.size_toArray, <- hl]
   exact Option.some.inj h1
  exact PySem.W.ki_setBack ho (by omega) (by rw [List.size_toArray, <- hl]; exact h3) (by omega) (by rw [hk]; exact ⟨_, I', q⟩)
theorem wj (lo hi : Option Int) (n : Nat) : (sliceBounds lo hi none n).1 = ((HT.sIx n 0 lo : Nat) : Int) /\ (sliceBounds lo hi none n).2.1 = ((HT.sIx n n hi : Nat) : Int) /\ (sliceBounds lo hi none n).2.2 = 1 := by
 refine ⟨?_, ?_, rfl⟩
 ·cases lo with
  | none => simp [sliceBounds, HT.sIx]
  | some i =>
   simp only [sliceBounds, HT.sIx, Option.getD_none, show (1 : Int) > 0 by decide, if_true]
   by_cases h : i < 0
   ·simp only [h, if_true] <;> omega
   ·simp only [h, if_false] <;> omega
 ·cases hi with
  | none => simp [sliceBounds, HT.sIx]
  | some i =>
   simp only [sliceBounds, HT.sIx, Option.getD_none, show (1 : Int) > 0 by decide, if_true]
   by_cases h : i < 0
   ·simp only [h, if_true] <;> omega
   ·simp only [h, if_false] <;> omega
theorem vP (its : List Value) (lo hi : Option Int) : slicePick its.toArray lo hi none = ((its.drop (HT.sIx its.length 0 lo)).take (HT.sIx its.length its.length hi - HT.sIx its.length 0 lo)).toArray := by
 obtain ⟨h1, h2, h3⟩ := wj lo hi its.toArray.size
 unfold slicePick
 rw [h1, h2, h3]
 simp only [sliceRange_one, pick_run, List.size_toArray] <;> rfl
def Ja (K : PySem.W.Frag) : V -> Option Int -> Option Int -> Hp -> VK -> Prop := fun x lo hi H Q => ∃ a xs, x = .ref a /\ SqL K H a xs /\ ∀ p, H p = none -> Q (.ref p) (upd H p (.lst (dJ xs lo hi)))
theorem G6 : SlR X (Ja X.K) := by
 intro pins s σ H x v vl vu lo hi sl Q I rx hs pl pu h
 obtain ⟨a, xs, rfl, hx, q⟩ := h
 cases rx
 obtain ⟨its, r, ht, hz⟩ := I.list hx
 have hlen := r.length
 refine ⟨"list", _, slot_list_getitem.lookup, ht.isList.typeIs, ?_⟩
 refine wpAny_getItem_list_slice ht.isList hs pl pu .none (by simp) ?_ (by rw [List.size_toArray] <;> omega)
 rw [vP, <- hlen]
 refine ⟨.ref s.heap.objs.size, _, I.laid (t' := s.toks) (o := .lst (dJ xs lo hi)) (fun b ob q => Heap.get?_push_of_some _ q) (Nat.le_refl _) ?_, rfl, q _ (I.hok.fresh (Nat.le_refl _))⟩
 exact ⟨Nat.le_trans (zr xs lo hi) hz, _, 0, (r.drop (HT.sIx xs.length 0 lo)).take (HT.sIx xs.length xs.length hi - HT.sIx xs.length 0 lo), Heap.get?_push_size _ rfl⟩
def GR : V -> Bool
 | .non => true
 | .bl _ => true
 | .int _ => true
 | .str _ => true
 | _ => false
def eqV : V -> V -> Bool
 | .non, .non => true
 | .bl a, .bl b => a == b
 | .bl a, .int b => (if a then 1 else 0) == b
 | .int a, .bl b => a == (if b then 1 else 0)
 | .int a, .int b => a == b
 | .str a, .str b => a == b
 | _, _ => false
def eqU (x : V) (u : Value) : Bool := match u with
 | .none => eqV .non x
 | .bool b => eqV (.bl b) x
 | .int i _ => eqV (.int i) x
 | .str z _ => eqV (.str z) x
 | _ => false
def inV (x : V) (xs : List V) : Bool := xs.any fun y => eqV y x
def rIn (K : PySem.W.Frag) (neg : Bool) : R2 := fun x y H Q => ∃ p xs, y = .ref p /\ (SqL K H p xs \/ SqT K H p xs) /\ GR x = true /\ xs.all GR = true /\ Q (.bl (if neg then !inV x xs else inV x xs)) H
theorem ww : CallR X (.builtin "len") (fun xs H Q => ∃ p ys, xs = [.ref p] /\ (SqL X.K H p ys \/ SqT X.K H p ys) /\ Q (.int ys.length) H) := by
 intro pins s σ H xs us Q I r h
 obtain ⟨p, ys, rfl, hq, q⟩ := h
 obtain ⟨u, rfl, rx⟩ := vals1 r
 cases rx
 have hn := tD
 rcases hq with hq | hq
 ·obtain ⟨its, r', pl, hz⟩ := I.list hq
  have hlen := r'.length
  exact Calls.call_len_list pl.isList (by simp only [List.size_toArray] <;> omega) ⟨.int ys.length, H, I.tok _, ⟨s.toks + 1, by rw [List.size_toArray, hlen]⟩, q⟩
 ·obtain ⟨its, r', pl, hz⟩ := I.tuple hq
  have hlen := r'.length
  exact len_tuple pl (by simp only [List.size_toArray] <;> omega) ⟨.int ys.length, H, I.tok _, ⟨s.toks + 1, by rw [List.size_toArray, hlen]⟩, q⟩
theorem CallR.or {f : Value} {r r' : List V -> Hp -> VK -> Prop} (h : CallR X f r) (h' : CallR X f r') : CallR X f (fun xs H Q => r xs H Q \/ r' xs H Q) := by
 intro pins s σ H xs us Q I rs q
 rcases q with q | q
 ·exact h pins s σ H xs us Q I rs q
 ·exact h' pins s σ H xs us Q I rs q
theorem yD : CallR X (.type "list") (fun xs H Q => ∃ p ys, xs = [.ref p] /\ (SqL X.K H p ys \/ SqT X.K H p ys) /\ ∀ l, H l = none -> Q (.ref l) (upd H l (.lst ys))) := by
 intro pins s σ H xs us Q I r h
 obtain ⟨p, ys, rfl, hq, q⟩ := h
 obtain ⟨u, rfl, rx⟩ := vals1 r
 cases rx
 have fin : ∀ (its : List Value), Vals ys its -> ys.length <= sizeLine -> ∀ (h' : Heap) (c' : Nat), (∀ b o', s.heap.get? b = some o' -> h'.get? b = some o') ->
   h'.get? s.heap.objs.size = some { cls := .type "list", dict := none, data := .seq its.toArray c', slots := #[] } -> EP X pins σ Q (.ref s.heap.objs.size) { s with heap := h' } := fun its r' hz h' c' kp e =>
  ⟨.ref s.heap.objs.size, _, I.laid (t' := s.toks) kp (Nat.le_refl _) (show ObjOk X.prog X.w _ h' _ (.lst ys) from ⟨hz, its, c', r', e⟩), rfl, q _ (I.hok.fresh (Nat.le_refl _))⟩
 rcases hq with hq | hq
 ·obtain ⟨its, r', pl, hz⟩ := I.list hq
  have hlen := r'.length
  obtain ⟨o, ho, hc, n, hd⟩ := pl.isList
  exact call_list_seq p (.inl rfl) ho hc hd (fun h' c' kp e => fin its r' hz h' c' kp e) (by simp only [List.size_toArray] <;> omega)
 ·obtain ⟨its, r', pl, hz⟩ := I.tuple hq
  have hlen := r'.length
  obtain ⟨o, ho, hc, n, hd⟩ := pl
  exact call_list_seq p (.inr rfl) ho hc hd (fun h' c' kp e => fin its r' hz h' c' kp e) (by simp only [List.size_toArray] <;> omega)
def tyV (K : PySem.W.Frag) (T : String) (x : V) (H : Hp) : Prop := match x with
 | .str _ => T = "str"
 | .int _ => T = "int"
 | .ref p => (T = "list" /\ ∃ xs, SqL K H p xs) \/ (T = "tuple" /\ ∃ o, K.lookup p = some o /\ o.cls = .type "tuple" /\ o.dict = none) \/
   (T = "dict" /\ ((∃ kvs, H p = some (.dK kvs)) \/ ∃ kvs, H p = some (.dT kvs))) \/ (T = "set" /\ ∃ S n, H p = some (.set S n))
 | _ => False
theorem Iw {pins : List (Addr × Obj)} {σ : St} {H : Hp} {s : Shared} {T : String} {x : V} {v : Value} (I : Inv X pins σ H s) (r : RelV x v) (ty : tyV X.K T x H) :
  s.TypeIs v T /\ ∀ a, v = .ref a -> ∃ ob, s.heap.get? a = some ob /\ ob.dict = none := by
 cases x with
 | str z =>
  obtain ⟨t, rfl⟩ := r
  cases (show T = "str" from ty)
  exact ⟨typeIs_str s z t, fun _ e => nomatch e⟩
 | int i =>
  obtain ⟨t, rfl⟩ := r
  cases (show T = "int" from ty)
  exact ⟨typeIs_int s i t, fun _ e => nomatch e⟩
 | ref p =>
  cases r
  rcases ty with ⟨rfl, xs, hq⟩ | ⟨rfl, o, hk, hc, hd⟩ | ⟨rfl, hk⟩ | ⟨rfl, S, n, hk⟩
  ·obtain ⟨its, _, pl, _⟩ := I.list hq
   refine ⟨pl.isList.typeIs, fun a e => ?_⟩
   cases e
   obtain ⟨o, n, e, c, hd, _⟩ := pl
   exact ⟨o, e, hd⟩
  ·refine ⟨⟨o, I.kIn p o hk, hc⟩, fun a e => ?_⟩
   cases e
   exact ⟨o, I.kIn _ o hk, hd⟩
  ·have z : ∃ o, s.heap.get? p = some o /\ o.ExactDict := by
    rcases hk with ⟨kvs, hk⟩ | ⟨kvs, hk⟩
    ·obtain ⟨_, _, _, _, o, _, _, e, ex, _⟩ := I.hok p _ hk
     exact ⟨o, e, ex⟩
    ·obtain ⟨_, _, _, _, o, _, _, e, ex, _⟩ := I.hok p _ hk
     exact ⟨o, e, ex⟩
   obtain ⟨o, e, ex⟩ := z
   refine ⟨⟨o, e, ex.1⟩, fun a e2 => ?_⟩
   cases e2
   exact ⟨o, e, ex.2.1⟩
  ·obtain ⟨o, _, _, _, e, ex, _⟩ := I.hok p _ hk
   refine ⟨⟨o, e, ex.1⟩, fun a e2 => ?_⟩
   cases e2
   exact ⟨o, e, ex.2.1⟩
 | _ => exact False.elim ty
def MT (K : PySem.W.Frag) (T : String) (r : V -> List V -> Hp -> VK -> Prop) (to : TE) : TE := fun σ H Q => to σ H fun x H1 => tyV K T x H1 /\ r x [] H1 Q
def tBM (K : PySem.W.Frag) (T : String) (r : V -> List V -> Hp -> VK -> Prop) (to : TE) (t : TA) : TE := fun σ H Q => to σ H fun x H1 => tyV K T x H1 /\ t σ H1 fun xs H2 => r x xs H2 Q
variable {o e : Expr} {es : List Expr} {to : TE} {t : TA} {name : Str} {apos cpos : Pos} {T id : String} {r : V -> List V -> Hp -> VK -> Prop}
theorem jY (pa : PlainAttrs T) (slot : Slot T name id) (hty : typeOf (.builtin id) = pure (.type "method_descriptor")) (hm : MtR X id r) (ho : PE X o to) (ha : PA X (e :: es) t)
  (hbase : attributeBase o name X.env (eval o X.env) = eval o X.env := by rfl)
  (hfew : ((backTo cpos (starEach (e :: es) X.env)).all (fun x => !x.1) && (backToKw cpos (keywordEach [] X.env)).all (fun x => x.1.isSome)
   && decide ((e :: es).length + ([] : List Keyword).length + (if ([] : List Keyword).isEmpty then 0 else 1) < 30)) = true := by rfl)
  (hline : (apos.endLine == cpos.line) = true := by rfl) (hs : starEach (e :: es) X.env = (false, eval e X.env) :: starEach es X.env := by rfl) (hplain : (backTo cpos (starEach es X.env)).any (·.1) = false := by rfl) :
  PE X (.Call (.Attribute o name apos) (e :: es) [] cpos) (tBM X.K T r to t) := by
 intro pins s σ H Q I h
 refine wpAny_Call_method_late hbase hfew hline rfl (thn (ho pins s σ H _ I h) fun v s1 ⟨x, H1, I1, r1, ty, q1⟩ => ?_)
 obtain ⟨h1, h2⟩ := Iw I1 r1 ty
 refine ⟨T, id, pa, slot, hty, h1, h2, ?_⟩
 have hA := ha cpos pins s1 σ H1 _ I1 q1
 rw [hs] at hA ⊢
 refine Calls.callWith_builtin (by show (false || (backTo cpos (starEach es X.env)).any (·.1)) = false; rw [hplain] <;> rfl) (Calls.evalArgs_plain ?_)
 exact thn hA fun us s2 ⟨vs, H2, I2, r2, q2⟩ => hm pins s2 σ H2 x vs v us Q I2 r1 r2 q2
end
end L2
namespace L2
open PySem PySem.Spec PyProof.Rows
def MtM (X : Cx) (id : String) (r : V -> List V -> Hp -> VK -> Prop) : Prop :=
 ∀ (pins : List (Addr × Obj)) (s : Shared) (σ : St) (H : Hp) (x : V) (xs : List V) (v : Value) (us : List Value) (Q : VK), Inv X pins σ H s -> RelV x v -> Vals xs us -> r x xs H Q ->
  wpAny (model X.prog X.w) X.A (call (.builtin id) (v :: us)) (EP X pins σ Q) X.xe s
theorem Vals.one : ∀ {x : V} {us : List Value}, Vals [x] us -> ∃ u, us = [u] /\ RelV x u
 | _, _, .cons r .nil => ⟨_, rfl, r⟩
theorem Vals.two : ∀ {x y : V} {us : List Value}, Vals [x, y] us -> ∃ u v, us = [u, v] /\ RelV x u /\ RelV y v
 | _, _, _, .cons r (.cons q .nil) => ⟨_, _, rfl, r, q⟩
theorem Vals.zero : ∀ {us : List Value}, Vals [] us -> us = []
 | _, .nil => rfl
theorem Vals.dropLast {xs : List V} {us : List Value} (h : Vals xs us) : Vals xs.dropLast us.dropLast := by
 induction h with
 | nil => exact .nil
 | cons r t ih =>
  cases t with
  | nil => exact .nil
  | cons q t' => exact .cons r ih
theorem Vals.eraseIdx : ∀ {xs : List V} {us : List Value} (i : Nat), Vals xs us -> Vals (xs.eraseIdx i) (us.eraseIdx i)
 | _, _, _, .nil => .nil
 | _, _, 0, .cons _ t => t
 | _, _, i + 1, .cons r t => .cons r (Vals.eraseIdx i t)
theorem Vals.reverse {xs : List V} {us : List Value} (h : Vals xs us) : Vals xs.reverse us.reverse := by
 induction h with
 | nil => exact .nil
 | cons r t ih => rw [List.reverse_cons, List.reverse_cons]; exact Vals.append ih (.cons r .nil)
theorem Vals.rep {xs : List V} {us : List Value} (h : Vals xs us) : ∀ k : Nat, Vals (List.replicate k xs).flatten (List.replicate k us).flatten
 | 0 => .nil
 | k + 1 => by
  rw [List.replicate_succ, List.replicate_succ, List.flatten_cons, List.flatten_cons]
  exact Vals.append h (Vals.rep h k)
theorem foldl_rep (its : List Value) : ∀ (k : Nat) (acc : List Value),
  List.foldl (fun x1 x2 => x1 ++ x2) acc.toArray (List.replicate k its.toArray) = (acc ++ (List.replicate k its).flatten).toArray
 | 0, acc => by simp
 | k + 1, acc => by
  have e : acc.toArray ++ its.toArray = (acc ++ its).toArray := by simp
  have e2 : (acc ++ its) ++ (List.replicate k its).flatten = acc ++ (List.replicate (k + 1) its).flatten := by
   rw [List.replicate_succ, List.flatten_cons, List.append_assoc]
  rw [<- e2, <- foldl_rep its k (acc ++ its), <- e, List.replicate_succ, List.foldl_cons]
section
variable {X : Cx} {pins : List (Addr × Obj)} {σ : St} {H : Hp} {s : Shared} {l b : Addr} {xs ys zs : List V}
theorem Inv.lset {its its' : List Value} {n : Nat} {f : Array Value -> Array Value} {t' : Nat} (I : Inv X pins σ H s) (hH : H l = some (.lst xs))
  (e : s.heap.get? l = some { cls := .type "list", data := .seq its.toArray n }) (hf : f its.toArray = its'.toArray) (hv : Vals ys its') (hz : ys.length <= sizeLine) :
  Inv X pins σ (upd H l (.lst ys)) { s with heap := s.heap.update l (Obj.mapSeq f), toks := t' } := by
 have q := PySem.IsL.update e f
 rw [hf] at q
 refine I.write (x := l) (e := l) (by rw [hH]; exact trivial) (.inl rfl) (fun b' u hb hu => (Heap.get?_update_other s.heap (Obj.mapSeq f) (Ne.symm hb)).trans hu) ⟨_, q⟩ ?_
 exact ⟨hz, its', _, hv, q⟩
theorem Inv.lnew {its : List Value} {t' : Nat} (I : Inv X pins σ H s) (hv : Vals ys its) (hz : ys.length <= sizeLine) :
  Inv X pins σ (upd H s.heap.objs.size (.lst ys)) { s with heap := s.heap.push { cls := .type "list", data := .seq its.toArray }, toks := t' } :=
 I.laid (fun _ _ q => Heap.get?_push_of_some _ q) (Nat.le_refl _) ⟨hz, its, 0, hv, Heap.get?_push_size _ rfl⟩
theorem Inv.fresh (I : Inv X pins σ H s) : H s.heap.objs.size = none := I.hok.fresh (Nat.le_refl _)
theorem Inv.lstM (I : Inv X pins σ H s) (hH : H l = some (.lst xs)) : xs.length <= sizeLine /\ ∃ (its : List Value) (n : Nat), Vals xs its /\ xs.length = its.length /\ s.heap.get? l = some { cls := .type "list", data := .seq its.toArray n } := by
 obtain ⟨z, its, n, r, e⟩ := I.hok l _ hH
 exact ⟨z, its, n, r, r.length, e⟩
theorem yF {n : Nat} (h : n <= sizeLine) : Builtin.List.listTooLong n = false := by
 unfold Builtin.List.listTooLong
 exact decide_eq_false (by omega)
end
section
variable {X : Cx}
def Hf : V -> List V -> Hp -> VK -> Prop := fun x vs H Q => ∃ l xs y, x = .ref l /\ vs = [y] /\ H l = some (.lst xs) /\ xs.length < sizeLine /\ Q .non (upd H l (.lst (xs ++ [y])))
theorem jf : MtM X "list.append" Hf := by
 intro pins s σ H x vs v us Q I rx rv h
 obtain ⟨l, xs, y, rfl, rfl, hH, hz, q⟩ := h
 cases rx
 obtain ⟨u, rfl, ru⟩ := rv.one
 obtain ⟨z, its, n, r, hl, e⟩ := I.lstM hH
 refine call_meets F.slot_list_append ⟨_, e, rfl⟩ F.entry_list_append (F.args_list_append_2 _ _) (PySem.list_append l its.toArray n u (by rw [List.size_toArray]; omega)) ⟨e, ?_⟩
 refine ⟨.non, _, I.lset (its' := its ++ [u]) hH e (by simp) (r.append (.cons ru .nil)) ?_, rfl, q⟩
 rw [List.length_append, List.length_singleton]
 omega
def HN : V -> List V -> Hp -> VK -> Prop := fun x vs H Q => ∃ l b xs zs, x = .ref l /\ vs = [.ref b] /\ H l = some (.lst xs) /\ H b = some (.lst zs) /\ xs.length + zs.length <= sizeLine /\ Q .non (upd H l (.lst (xs ++ zs)))
theorem o9 : MtM X "list.extend" HN := by
 intro pins s σ H x vs v us Q I rx rv h
 obtain ⟨l, b, xs, zs, rfl, rfl, hH, hB, hz, q⟩ := h
 cases rx
 obtain ⟨u, rfl, ru⟩ := rv.one
 cases ru
 obtain ⟨z, its, n, r, hl, e⟩ := I.lstM hH
 obtain ⟨z2, its2, n2, r2, hl2, e2⟩ := I.lstM hB
 have hsz : its.toArray.size + its2.toArray.size <= sizeLine := by rw [List.size_toArray, List.size_toArray]; omega
 have hlong : ¬ (!its.toArray.isEmpty && Builtin.List.listTooLong (its.toArray.size + its2.toArray.size)) = true := by
  rw [yF hsz, Bool.and_false]
  exact Bool.false_ne_true
 refine call_meets F.slot_list_extend ⟨_, e, rfl⟩ F.entry_list_extend (F.args_list_extend_2 _ _)
  (AutoSeq1.list_extend_list_list_0 l its.toArray n b its2.toArray n2 hlong (by rw [List.size_toArray]; omega) (by omega)) ⟨e, e2, ?_⟩
 refine ⟨.non, _, I.lset (its' := its ++ its2) hH e (by simp) (r.append r2) ?_, rfl, q⟩
 rw [List.length_append]
 omega
def M4 : V -> List V -> Hp -> VK -> Prop := fun x vs H Q => ∃ l xs y, x = .ref l /\ vs = [] /\ H l = some (.lst xs) /\ xs[xs.length - 1]? = some y /\ Q y (upd H l (.lst xs.dropLast))
def Lz : V -> List V -> Hp -> VK -> Prop := fun x vs H Q => ∃ l xs i k y, x = .ref l /\ vs = [.int i] /\ H l = some (.lst xs) /\ -(2 ^ 63) <= i /\ i < 2 ^ 63 /\ seqIndex? i xs.length = some k /\ xs[k]? = some y /\ Q y (upd H l (.lst (xs.eraseIdx k)))
def KC : V -> List V -> Hp -> VK -> Prop := fun x vs H Q => ∃ l xs, x = .ref l /\ vs = [] /\ H l = some (.lst xs) /\ Q .non (upd H l (.lst xs.reverse))
def Ly : V -> List V -> Hp -> VK -> Prop := fun x vs H Q => ∃ l xs, x = .ref l /\ vs = [] /\ H l = some (.lst xs) /\ Q .non (upd H l (.lst []))
def Lh : R2 := fun x y H Q => ∃ l b xs zs, x = .ref l /\ y = .ref b /\ H l = some (.lst xs) /\ H b = some (.lst zs) /\ xs.length + zs.length <= sizeLine /\ ∀ p, H p = none -> Q (.ref p) (upd H p (.lst (xs ++ zs)))
theorem fj : OpR X (binaryOp .Add) Lh := by
 intro pins s σ H x y v u Q I rx ry h
 obtain ⟨l, b, xs, zs, rfl, rfl, hH, hB, hz, q⟩ := h
 cases rx
 cases ry
 obtain ⟨z, its, n, r, hl, e⟩ := I.lstM hH
 obtain ⟨z2, its2, n2, r2, hl2, e2⟩ := I.lstM hB
 refine PySem.P.add_list e e2 ?_ (by rw [List.size_toArray, List.size_toArray]; omega)
 have ea : its.toArray ++ its2.toArray = (its ++ its2).toArray := by simp
 rw [ea]
 exact ⟨.ref _, _, I.lnew (t' := s.toks) (r.append r2) (by rw [List.length_append]; omega), rfl, q _ I.fresh⟩
def Le : R2 := fun x y H Q => ∃ l k xs, x = .ref l /\ y = .int k /\ H l = some (.lst xs) /\ -(2 ^ 63) <= k /\ k < 2 ^ 63 /\ xs.length * k.toNat <= sizeLine /\
 ∀ p, H p = none -> Q (.ref p) (upd H p (.lst (List.replicate k.toNat xs).flatten))
theorem len_rep {α : Type} (xs : List α) (k : Nat) : (List.replicate k xs).flatten.length = k * xs.length := by
 induction k with
 | zero => simp
 | succ k ih => rw [List.replicate_succ, List.flatten_cons, List.length_append, ih, Nat.succ_mul, Nat.add_comm]
theorem xH : OpR X (binaryOp .Mult) Le := by
 intro pins s σ H x y v u Q I rx ry h
 obtain ⟨l, k, xs, rfl, rfl, hH, h1, h2, hz, q⟩ := h
 cases rx
 obtain ⟨t, rfl⟩ := ry
 obtain ⟨z, its, n, r, hl, e⟩ := I.lstM hH
 have hlen : its.toArray.size * k.toNat <= sizeLine := by rw [List.size_toArray, <- hl]; exact hz
 have hcap : ¬ its.toArray.size * k.toNat > (2 ^ 63 - 1) / 8 := by
  have : (sizeLine : Nat) <= (2 ^ 63 - 1) / 8 := by decide
  omega
 have hfit : ¬ (!Builtin.List.listFitsIndex k) = true := by
  rw [fitsIndex_both h1 h2]
  exact Bool.false_ne_true
 have hlong : ¬ Builtin.List.listTooLong (its.toArray.size * k.toNat) = true := by
  rw [yF hlen]
  exact Bool.false_ne_true
 have hnew : List.foldl (fun x1 x2 => x1 ++ x2) #[] (List.replicate (if its.toArray.isEmpty = true then 0 else k.toNat) its.toArray) = (List.replicate k.toNat its).flatten.toArray := by
  have f0 : ∀ m : Nat, List.foldl (fun x1 x2 => x1 ++ x2) #[] (List.replicate m its.toArray) = (List.replicate m its).flatten.toArray := fun m => by
   have := foldl_rep its m []
   rw [List.nil_append] at this
   exact this
  rw [f0]
  cases its with
  | nil => simp
  | cons a r' => rw [if_neg (by simp)]
 refine wpAny_binaryOp_repeat_ref (T := "list") (U := "int") (by decide) ⟨_, e, rfl⟩ (fun s' => typeIs_int s' k t) noFill_list_mul F.fills_int_mul F.slot_int_rmul repeat_list F.slot_int_index.lookup
  (call_meets F.slot_int_rmul (typeIs_int s k t) F.entry_int_rmul (F.args_int_rmul_2 _ _) (int___rmul___int_list k t l its.toArray n)
   ⟨e, rfl, ⟨_, e, rfl⟩, call_meets F.slot_list_mul ⟨_, e, rfl⟩ F.entry_list_mul (F.args_list_mul_2 _ _) (AutoListH.list___mul___list_int_3 l its.toArray n k t hfit hcap hlong) ⟨e, ?_⟩⟩)
 rw [hnew]
 exact ⟨.ref _, _, I.lnew (t' := s.toks) (r.rep k.toNat) (by rw [len_rep, Nat.mul_comm]; exact hz), rfl, q _ I.fresh⟩
end
section
variable {prog : Program} {w : World} {A : Around} {E : Value -> Shared -> Prop} {s : Shared}
end
section
variable {X : Cx}
end
end L2
namespace Att
open PySem PySem.W PySem.Calls PyProof.Rows
theorem rK {P : Params} {h : Heap} : ∀ (ns : List Int) (vs : List Value), WellAll P h vs (ns.map WData.int) -> IntsAre vs ns := by
 intro ns
 induction ns with
 | nil =>
  intro vs w
  rw [List.map_nil] at w
  cases w
  exact .nil
 | cons n ns ih =>
  intro vs w
  rw [List.map_cons] at w
  cases w with
  | cons a b =>
   cases a
   exact .cons _ _ (ih _ b)
theorem Cv {l : OpenLaw} {n : Nat} (hn : l.most = some n) {P : Params} {h : Heap} {args : List WData} {vals : List Value}
  (hpre : l.row.toRowW.claim.pre args = true) (hwl : WellAll P h vals args) :
  ∃ a vs ns, vals = [Value.ref a] /\ args = [WData.list (ns.map WData.int)] /\ h.get? a = some { cls := .type "list", data := .seq vs.toArray } /\ IntsAre vs ns /\ ns.length <= n := by
 have hsh : WShape.hasAll [] args [.list .int] = true := (pre_splitW hpre).1
 have hc : l.pre.holds [] { args := args } = true := (pre_splitW hpre).2
 obtain ⟨d, r, rfl, h1, h2⟩ := hasAllW_cons hsh
 obtain rfl := hasAllW_nil h2
 obtain ⟨xs, rfl, h3⟩ := hasW_list h1
 obtain ⟨ns, rfl⟩ := items_int h3
 have hlen : ns.length <= n := by
  unfold OpenLaw.pre at hc
  have h4 : (WTm.not (.lt (.lit (.int (n : Int))) (.len (.arg 0)))).holds [] { args := [.list (ns.map .int)] } = true := by
   have h4 := (holds_andW hc).1
   rw [hn] at h4
   exact h4
  have h5 := condW_of h4 (w_not (w_lt w_lit (w_len_list (w_arg rfl))))
  rw [List.length_map] at h5
  refine Nat.le_of_not_lt fun q => ?_
  have q' : (n : Int) < ((ns.length : Nat) : Int) := by omega
  first
   | (rw [decide_eq_true q'] at h5; exact absurd h5 (by decide))
   | (simp at h5; omega)
 cases hwl with
 | cons w1 w2 =>
  cases w2
  cases w1 with
  | list ho hall => exact ⟨_, _, ns, rfl, rfl, ho, rK ns _ hall, hlen⟩
theorem DG (l : OpenLaw) (args : List WData) : l.row.toRowW.claim.post args (.bool true) args = true :=
 postW_of (r := l.row.toRowW) (X := (true == true))
  (show WShape.has [] (.bool true) .bool = true by first | rfl | decide | simp [WShape.has, WShape.arms, WShape.armsAll])
  (show (WTm.eq .res (.lit (.bool true))).value [] { args := args, res := some (.bool true), after := args } = some (.bool (true == true)) from w_eq_bool (w_res rfl) w_lit) rfl
theorem attach_call {l : OpenLaw} {n : Nat} {q : Program} {loose : List Str} {XP : (Str -> Option Value) -> Heap -> Prop} {YP : World -> Heap -> Prop} {d : DefRec}
  (hn : l.most = some n) (hdf : d.params.defaults = [])
  (call : ∀ (w : World) (s₀ s₁ : Shared) (mg mb : Str -> Option Value) (fa : Addr) (o : Obj) (pm cd doc : Value) (a : Addr) (vs : List Value) (ns : List Int),
   Ground q loose [] XP w s₀ mg mb s₁.heap -> YP w s₁.heap ->
   s₁.heap.get? fa = some o -> o.data = .func (docDef d.name d.params d.body d.scope pm cd doc) -> s₁.heap.CodeRec cd d.name -> mg d.name = some (.ref fa) ->
   s₁.heap.get? a = some { cls := .type "list", data := .seq vs.toArray } -> IntsAre vs ns -> ns.length <= n -> s₁.gens = #[] ->
   codeAny (model l.prog w) callerA (.call (.ref fa) ⟨[.ref a], []⟩) (fun r s' => r = .ok (.ret (.bool true)) /\ OldK s₁.heap s'.heap /\ s'.os = s₁.os /\ AllBare s'.gens) s₁) :
  WalkO q loose XP YP l.row.toRowW d [] (fun f vs => PySem.call f vs) := by
 intro w s₀ s₁ mg mb G Y fa o pm cd doc dV kV ho hd hcd hD hmg hg args vals as hpre hlay hrd hwl hlo
 obtain rfl : dV = .none := Dflts.none hD hdf
 obtain rfl : kV = .none := Dflts.noKw hD
 obtain ⟨a, vs, ns, rfl, rfl, hobj, hints, hlen⟩ := Cv hn hpre hwl
 refine enter_call (codeAny_mono (call w s₀ s₁ mg mb fa o pm cd doc a vs ns G Y ho (fd_plain hd) hcd hmg hobj hints hlen hg) fun r s' hq => ?_)
 obtain ⟨rfl, h2, h3, h4⟩ := hq
 exact ⟨.inl ⟨.bool true, .bool true, [], rfl, fun _ => rfl, .bool true, DG l _, fun _ => ⟨List.Pairwise.nil, fun _ hm => (nomatch hm)⟩⟩, h2, h3, h4⟩
section
variable {prog : Program} {w : World} {A : Around} {E : Value -> Shared -> Prop} {s : Shared} {K : Frag}
def Lx (h : Heap) : Heap := { h with objs := #[] }
def ledger (h : Heap) (L d : Addr) : List (Addr × Obj) := (List.range h.objs.size).filterMap fun a => if a = L \/ a = d then none else (h.get? a).map fun o => (a, o)
end
end Att
namespace L2
open PySem PySem.Spec PyProof.Rows
theorem uN : ∀ {vs : List Value} {ns : List Int}, IntsAre vs ns -> Vals (ns.map V.int) vs
 | _, _, .nil => .nil
 | _, _, .cons n t h => .cons ⟨t, rfl⟩ (uN h)
def Only (H : Hp) : Prop := ∀ b, H b = none \/ ∃ o xs, H b = some (.frz o (.lst xs))
theorem Gi {P : Program} {w : World} {K : PySem.W.Frag} {mg mb : Str -> Option Value} {CX : CXT} {k : Nat} {fa a : Addr} {fd : FuncData} {x : Str} {sp : Sp} {s₁ : Shared} {vs : List Value} {ns : List Int}
  (KX : K.In s₁.heap) (hns : s₁.heap.Ns mainGlobals mg) (hb : s₁.heap.Ns builtinsNs mb) (hbb : ∀ x : Str, x ≠ "__name__" -> mb x = bootBuiltins x) (hlim : s₁.heap.NoLimit) (hg : s₁.gens = #[])
  (ha : s₁.heap.get? a = some { cls := .type "list", data := .seq vs.toArray }) (hi : IntsAre vs ns) (hl : ns.length <= sizeLine) (hr : Room k callerA)
  (F : ∀ base : Heap, K.In base -> base.Ns mainGlobals mg -> FnOk P w K mg base CX k fa fd [x] sp) (hbind : ∀ (s : Shared) (u : Value), BindsTo s fd ⟨[u], []⟩ [(x, u)])
  (hsp : ∀ H : Hp, Only H -> SqL K H a (ns.map V.int) -> sp [.ref a] H (fun v _ => v = .bl true) fun _ _ _ => False)
  (hCX : ∀ H e s', CX [] H s₁ (fun _ _ _ => False) e s' -> False) :
  codeAny (model P w) callerA (.call (.ref fa) ⟨[.ref a], []⟩) (fun r s' => r = .ok (.ret (.bool true)) /\ OldK s₁.heap s'.heap /\ s'.os = s₁.os /\ AllBare s'.gens) s₁ := by
 have rv := uN hi
 have lenV := hi.length
 have core : ∀ H : Hp, Only H -> SqL K H a (ns.map V.int) -> HOk P w H s₁.heap -> (∀ b, H b ≠ none -> b = a) -> (H a ≠ none -> K.lookup a = none) ->
   codeAny (model P w) callerA (.call (.ref fa) ⟨[.ref a], []⟩) (fun r s' => r = .ok (.ret (.bool true)) /\ OldK s₁.heap s'.heap /\ s'.os = s₁.os /\ AllBare s'.gens) s₁ := by
  intro H hO hS hok hA hK
  have base_of : ∀ {b : Addr} {o : Obj}, s₁.heap.get? b = some o -> H b = none -> (nW s₁.heap H).get? b = some o := fun e n => Gj e n
  have noA : ∀ {b : Addr} {o : Obj} {es : Array DictEntry} {ep : Nat}, s₁.heap.get? b = some o -> o.data = .dict es ep -> H b = none := fun {b o es ep} e d => by
   cases q : H b with
   | none => rfl
   | some u =>
    have e' : b = a := hA b (by rw [q]; simp)
    subst e'
    rw [ha] at e; cases e
    have d' : Data.seq vs.toArray _ = Data.dict es ep := d
    cases d'
  have nsK : ∀ {b : Addr} {m : Str -> Option Value}, s₁.heap.Ns b m -> (nW s₁.heap H).Ns b m := fun {b m} ⟨o, es, ep, e, d, r⟩ => ⟨o, es, ep, base_of e (noA e d), d, r⟩
  have hKb : K.In (nW s₁.heap H) := fun b o e => base_of (KX b o e) (by
   cases q : H b with
   | none => rfl
   | some u =>
    have e' : b = a := hA b (by rw [q]; simp)
    subst e'
    rw [hK (by rw [q]; simp)] at e; cases e)
  have hM : Mod K mg (nW s₁.heap H) := ⟨hKb, nsK hns, ⟨mb, nsK hb, hbb⟩, let ⟨mc, h1, h2⟩ := hlim; ⟨mc, nsK h1, h2⟩⟩
  have e0 : Env0 P w K mg (nW s₁.heap H) callerA [] s₁ H := ⟨rfl, hM, fun b o e => Hv e, Nat.le_of_eq (Eo _ _), trivial, fun b hb => absurd (show b ∈ ([] : List Addr) from hb) (by simp), hok, .of_eq hg⟩
  refine codeAny_mono ((F _ hKb (nsK hns)).run callerA [] s₁ H ⟨[.ref a], []⟩ [.ref a] [.ref a] _ _ hr e0 (hbind s₁ (.ref a)) (.cons rfl .nil) (hsp H hO hS)) fun r s' h => ?_
  cases r with
  | error e => exact (hCX H e s' h).elim
  | ok fl =>
   cases fl with
   | next => exact False.elim h
   | brk => exact False.elim h
   | cont => exact False.elim h
   | ret u =>
    obtain ⟨v, H', os, bare, un, hok', r', q⟩ := h
    have q' : v = .bl true := q
    subst q'
    obtain rfl : u = Value.bool true := r'
    refine ⟨rfl, OldK.of_keep fun b o e => ?_, os, bare⟩
    cases q : H b with
    | none => exact un.keep b o e q (by intro z; exact absurd (show b ∈ ([] : List Addr) from z) (by simp)) (by simp)
    | some u =>
     rcases hO b with z | ⟨ob, xs, z⟩
     ·rw [q] at z; cases z
     ·have z2 := un.frzs b ob _ z
      obtain ⟨e1, _⟩ := hok b _ z
      obtain ⟨e2, _⟩ := hok' b _ z2
      rw [e] at e1; cases e1
      exact e2
 cases hk : K.lookup a with
 | some o =>
  have e := KX a o hk
  rw [ha] at e
  cases e
  refine core (fun _ => none) (fun _ => .inl rfl) (.inr ⟨_, vs.toArray, _, hk, rfl, rfl, rfl, by rw [List.size_toArray, lenV]; exact hl, by simpa using rv⟩) (fun b u z => by have z' : (none : Option HO) = some u := z; cases z') (fun b z => absurd rfl z) fun z => absurd rfl z
 | none =>
  refine core (fun b => if b = a then some (.frz { cls := .type "list", data := .seq vs.toArray } (.lst (ns.map V.int))) else none) (fun b => ?_) (.inl (.inr ⟨{ cls := .type "list", data := .seq vs.toArray }, if_pos rfl⟩)) (fun b u z => ?_) (fun b z => ?_) fun _ => hk
  ·by_cases hb : b = a
   ·exact .inr ⟨_, _, if_pos hb⟩
   ·exact .inl (if_neg hb)
  ·by_cases hb : b = a
   ·have z' := (if_pos hb).symm.trans z
    cases z'
    subst hb
    exact ⟨ha, by rw [List.length_map]; exact hl, vs, _, rv, ha⟩
   ·have z' := (if_neg hb).symm.trans z
    cases z'
  ·by_cases hb : b = a
   ·exact hb
   ·exact absurd (if_neg hb) z
end L2
namespace L2
open PySem PySem.Spec PyProof.Rows
abbrev KOf {K : PySem.W.Frag} {h : Heap} (_ : K.In h) : PySem.W.Frag := K
theorem walk_of {l : PySem.W.OpenLaw} {n k : Nat} {q : Program} {loose : List Str} {XP : (Str -> Option Value) -> Heap -> Prop} {YP : World -> Heap -> Prop} {d : DefRec} {K : Params -> PySem.W.Frag} {CX : World -> CXT} {sp : World -> Sp} {x : Str}
  (hn : l.most = some n) (hn2 : n <= sizeLine) (hdf : d.params.defaults = []) (hr : Room k callerA)
  (hY : ∀ (w : World) (h : Heap), YP w h -> (K w.params).In h)
  (F : ∀ (w : World) (mg : Str -> Option Value) (fa : Addr) (h : Heap), (K w.params).In h -> h.Ns mainGlobals mg -> mg d.name = some (.ref fa) ->
   ∃ fd : FuncData, (∀ (s : Shared) (u : Value), BindsTo s fd ⟨[u], []⟩ [(x, u)]) /\
    ∀ base : Heap, (K w.params).In base -> base.Ns mainGlobals mg -> FnOk l.prog w (K w.params) mg base (CX w) k fa fd [x] (sp w))
  (hsp : ∀ (w : World) (H : Hp) (a : Addr) (ns : List Int), ns.length <= n -> Only H -> SqL (K w.params) H a (ns.map V.int) -> sp w [.ref a] H (fun v _ => v = .bl true) fun _ _ _ => False)
  (hCX : ∀ (w : World) (H : Hp) (s : Shared) (e : Value) (s' : Shared), CX w [] H s (fun _ _ _ => False) e s' -> False) :
  PySem.W.WalkO q loose XP YP l.row.toRowW d [] (fun f vs => PySem.call f vs) := by
 refine Att.attach_call hn hdf fun w s₀ s₁ mg mb fa o pm cd doc a vs ns G Y ho hd hcd hmg hobj hints hlen hg => ?_
 have KX := hY w _ Y
 obtain ⟨fd, hb, hF⟩ := F w mg fa _ KX G.T.g hmg
 exact Gi KX G.T.g G.T.b G.T.builtins G.T.nolimit hg hobj hints (Nat.le_trans hlen hn2) hr hF hb (fun H hO hS => hsp w H a ns hlen hO hS) fun H e s' => hCX w H s₁ e s'
end L2
namespace L2
open PySem PySem.Spec PyProof.Rows
def inClass (s : Stmt) (j : Nat) : Stmt := match s with
 | .ClassDef _ _ _ body _ _ _ _ _ _ _ => body.getD j (.Pass ⟨0, 0, 0, 0⟩)
 | _ => .Pass ⟨0, 0, 0, 0⟩
def d8 (s : Stmt) : Arguments := match s with
 | .FunctionDef _ a _ _ _ _ _ _ _ _ => a
 | _ => { posonlyargs := [], args := [], vararg := none, kwonlyargs := [], kw_defaults := [], kwarg := none, defaults := [] }
def cO (s : Stmt) : List Stmt := match s with
 | .FunctionDef _ _ b _ _ _ _ _ _ _ => b
 | _ => []
def aF (s : Stmt) : Scope := match s with
 | .FunctionDef _ _ _ _ _ _ sc _ _ _ => sc
 | _ => { kind := .function, names := [], isGenerator := false, isCoroutine := false }
abbrev CX0 : CXT := fun _ _ _ _ _ _ => False
abbrev E0 : XK := fun _ _ _ => False
theorem Gn {X : Cx} : ig CX0 X E0 := fun _ _ _ _ _ _ _ h => h.elim
structure Fun (K : PySem.W.Frag) (x qual : Str) (st : Stmt) (f : Addr) (fd : FuncData) : Prop where
 ex : ∃ (oc : Value) (od : Option Addr) (kV doc pm : Value) (an : Option Addr) (cdv ct : Value) (osl : Array (Option Value)),
  fd = PySem.W.fnOf x qual (d8 st) (cO st) (aF st) .none kV doc pm an cdv ct /\ K.lookup f = some ⟨oc, od, .func fd, osl⟩ /\ PySem.W.codeIn K cdv qual = true
 kp : PySem.W.keepIn K (.ref f) = true
section
variable {P : Program} {w : World} {K : PySem.W.Frag} {mg : Str -> Option Value} {base : Heap}
theorem Fun.ok {x qual : Str} {st : Stmt} {f : Addr} {fd : FuncData} {N ps : List Str} {k : Nat} {sp : Sp} (F : Fun K x qual st f fd) (S : FnScope N ps (aF st)) (len : ∀ vs H Q E, sp vs H Q E -> vs.length = ps.length)
  (hbody : ∀ (cdv : Value) (A : Around) (outer : List Env) (s : Shared) (H : Hp) (vs : List V) (Q : VK) (E : XK), Room k (A.deeper (envOfC qual (aF st) s.heap.objs.size f cdv)) -> sp vs H Q E ->
   ∃ t, PSs (dh CX0 P w K mg base N qual (aF st) f cdv A outer s H E).nox (cO st) t /\ t { nx := fun _ H' => Q .non H', rt := Q } (start N vs) H) : FnOk P w K mg base CX0 (k + 1) f fd ps sp := by
 obtain ⟨oc, od, kV, doc, pm, an, cdv, ct, osl, rfl, lk, hcd⟩ := F.ex
 refine Gw lk hcd S len fun A outer s H vs Q E hr hsp => ?_
 obtain ⟨t, h, q⟩ := hbody cdv A outer s H vs Q E hr hsp
 exact ⟨t, h.nox, q⟩
theorem Fun.binds {x qual : Str} {st : Stmt} {f : Addr} {fd : FuncData} {ps : List Str} (F : Fun K x qual st f fd)
  (h : ∀ (kV doc pm : Value) (an : Option Addr) (cdv ct : Value) (us : List Value), us.length = ps.length -> bindArgs (PySem.W.fnOf x qual (d8 st) (cO st) (aF st) .none kV doc pm an cdv ct) ⟨us, []⟩ = pure (ps.zip us)) : Binds K fd ps [] := by
 obtain ⟨oc, od, kV, doc, pm, an, cdv, ct, osl, rfl, lk, hcd⟩ := F.ex
 exact .all (h kV doc pm an cdv ct)
theorem wG {x qual : Str} {st : Stmt} {f : Addr} {oc : Value} {od an : Option Addr} {osl : Array (Option Value)} {kV doc pm cdv ct : Value} (l : K.lookup f = some ⟨oc, od, .func (PySem.W.fnOf x qual (d8 st) (cO st) (aF st) .none kV doc pm an cdv ct), osl⟩)
  (c : PySem.W.codeIn K cdv qual = true) (k : PySem.W.keepIn K (.ref f) = true) : Fun K x qual st f (PySem.W.fnOf x qual (d8 st) (cO st) (aF st) .none kV doc pm an cdv ct) := ⟨⟨oc, od, kV, doc, pm, an, cdv, ct, osl, rfl, l, c⟩, k⟩
end
theorem aR {n : Nat} (h : n <= 1000) : n < sizeLine := Nat.lt_of_le_of_lt h (by decide)
section
variable {X : Cx}
theorem pv (i : Nat) {x : Str} {pos : Pos} (hN : X.N[i]? = some x := by rfl) (hv : Vis X.env.scope x := by first | exact Or.inl rfl | exact Or.inr (Or.inl rfl) | exact Or.inr (Or.inr rfl)) (hd : (x == ("__debug__" : Str)) = false := by decide)
  (hcd : (x == ("__classdict__" : Str)) = false := by decide) : PE X (.Name x pos) (t8 i) := Iz hN hv hd hcd
end
theorem bW {A B : Prop} (h : B) : if false = true then A else B := by
 rw [if_neg Bool.false_ne_true]
 exact h
theorem bH {A B : Prop} (h : A) : if true = true then A else B := by
 rw [if_pos rfl]
 exact h
theorem K9 {c A B : Prop} [Decidable c] (h1 : c -> A) (h2 : ¬ c -> B) : if c then A else B := by
 by_cases h : c
 ·rw [if_pos h]
  exact h1 h
 ·rw [if_neg h]
  exact h2 h
theorem vY {c A B : Prop} [Decidable c] (hc : c) (h : B) : if (!decide c) = true then A else B := by
 rw [decide_eq_true hc]
 exact bW h
def Same (H H' : Hp) : Prop := ∀ b o, H b = some o -> H' b = some o
theorem Same.refl (H : Hp) : Same H H := fun _ _ h => h
theorem Same.trans {H H1 H2 : Hp} (a : Same H H1) (b : Same H1 H2) : Same H H2 := fun c o h => b c o (a c o h)
theorem Same.free {H H' : Hp} (e : Same H H') {l : Addr} (h : H' l = Option.none) : H l = Option.none := by
 cases q : H l with
 | none => rfl
 | some o =>
  rw [e l o q] at h
  cases h
theorem Same.seq {K : PySem.W.Frag} {H H' : Hp} {a : Addr} {xs : List V} (e : Same H H') (h : SqL K H a xs) : SqL K H' a xs := by
 rcases h with (h | ⟨o, h⟩) | h
 ·exact .inl (.inl (e _ _ h))
 ·exact .inl (.inr ⟨o, e _ _ h⟩)
 ·exact .inr h
end L2
set_option Elab.async false
set_option linter.all false
set_option maxRecDepth 100000
namespace L2
open PySem PySem.Spec PyProof.Rows
theorem Inv.track {X : Cx} {pins : List (Addr × Obj)} {σ : St} {H : Hp} {s : Shared} {D : Addr} {o : HO} (I : Inv X pins σ H s) (f : gK X pins H D) (new : ObjOk X.prog X.w (upd H D o) s.heap D o) : Inv X pins σ (upd H D o) s := by
 obtain ⟨f0, f1, f2, f3, f4, f5⟩ := f
 refine I.step (h' := s.heap) (g' := s.gens) (d' := s.drawn) (t' := s.toks) (ch := [D]) (fun b hb => ?_) (fun b u _ _ _ e _ => e) (fun b u _ _ _ e _ => ⟨u.slots, e⟩) (fun b u hc _ n => ?_) (fun b u _ e => ⟨u, e⟩)
  (fun b xs q => ?_) (fun b u xs q => ?_) (fun b ps q => ⟨#[], ?_⟩) (fun m hm => hm) (fun b u e => ?_) I.bare
 ·have e : b = D := by simpa using hb
  subst e
  exact ⟨f3, f1, f4, f5⟩
 ·rw [aO (by simpa using hc)]
  exact n
 ·rw [aO (bh q f0)]
  exact q
 ·rw [aO (bh q f0)]
  exact q
 ·rw [aO (bh q f0), q]
  simp
 ·by_cases hb : b = D
  ·subst hb
   rw [az] at e
   cases e
   exact new
  ·rw [aO hb] at e
   exact (I.hok b u e).stay (fun c v _ q => q) (fun c q => by rw [aO (bh q f0)]; exact q) fun c xs q => by rw [aO (bh q f0)]; exact q
def g_ (scope : Scope) (env : Env) : List (Str × Addr) :=
 scope.names.foldl (fun acc x => if x.2 == .free then (match env.cells.lookup x.1 with | some a => (x.1, a) :: acc | none => acc) else acc) []
theorem yM {env : Env} : ∀ (names : List (Str × NameKind)) (acc : List (Str × Addr)), (∀ x c, acc.lookup x = some c -> env.cells.lookup x = some c) ->
  ∀ x c, (names.foldl (fun acc x => if x.2 == .free then (match env.cells.lookup x.1 with | some a => (x.1, a) :: acc | none => acc) else acc) acc).lookup x = some c -> env.cells.lookup x = some c
 | [], acc, h, x, c, e => h x c e
 | (n, k) :: r, acc, h, x, c, e => by
  rw [List.foldl_cons] at e
  refine yM r _ (fun y d q => ?_) x c e
  by_cases hk : (k == NameKind.free) = true
  ·simp only [hk, if_true] at q
   cases hc : env.cells.lookup n with
   | none => rw [hc] at q; exact h y d q
   | some a =>
    rw [hc] at q
    simp only [List.lookup_cons] at q
    cases hy : y == n with
    | true =>
     rw [hy] at q
     have : y = n := by simpa using hy
     subst this
     rw [hc]
     exact q
    | false =>
     rw [hy] at q
     exact h y d q
  ·rw [if_neg hk] at q
   exact h y d q
theorem oO {scope : Scope} {env : Env} {x : Str} {c : Addr} (e : (g_ scope env).lookup x = some c) : env.cells.lookup x = some c :=
 yM scope.names [] (fun _ _ q => by simp at q) x c e
theorem qy {env : Env} {x : Str} : ∀ (names : List (Str × NameKind)) (acc : List (Str × Addr)), (acc.lookup x).isSome = true ->
  ((names.foldl (fun acc x => if x.2 == .free then (match env.cells.lookup x.1 with | some a => (x.1, a) :: acc | none => acc) else acc) acc).lookup x).isSome = true
 | [], _, h => h
 | (n, k) :: r, acc, h => by
  rw [List.foldl_cons]
  refine qy r _ ?_
  by_cases hk : (k == NameKind.free) = true
  ·simp only [hk, if_true]
   cases hc : env.cells.lookup n with
   | none => exact h
   | some a =>
    simp only [List.lookup_cons]
    cases hy : x == n with
    | true => rfl
    | false => exact h
  ·rw [if_neg hk]
   exact h
theorem tL {env : Env} {x : Str} {c : Addr} (hc : env.cells.lookup x = some c) : ∀ (names : List (Str × NameKind)) (acc : List (Str × Addr)), (x, NameKind.free) ∈ names ->
  ((names.foldl (fun acc x => if x.2 == .free then (match env.cells.lookup x.1 with | some a => (x.1, a) :: acc | none => acc) else acc) acc).lookup x).isSome = true
 | [], _, h => nomatch h
 | (n, k) :: r, acc, h => by
  rw [List.foldl_cons]
  rcases List.mem_cons.mp h with e | h
  ·cases e
   refine qy r _ ?_
   simp [hc, List.lookup_cons]
  ·exact tL hc r _ h
theorem vB {scope : Scope} {env : Env} {x : Str} {c : Addr} (hc : env.cells.lookup x = some c) (hm : (x, NameKind.free) ∈ scope.names) : (g_ scope env).lookup x = some c := by
 have h := tL (env := env) hc scope.names [] hm
 obtain ⟨d, e⟩ := Option.isSome_iff_exists.mp h
 have e' : (g_ scope env).lookup x = some d := e
 have := oO e'
 rw [hc] at this
 cases this
 exact e'
theorem jl {env : Env} : ∀ (names : List (Str × NameKind)) (acc : List (Str × Addr)), (∀ n, (n, NameKind.free) ∈ names -> ∃ c, env.cells.lookup n = some c) ->
  (forIn names acc fun x r => (if x.2 == .free then do let c <- cellOf env x.1; pure (ForInStep.yield ((x.1, c) :: r)) else pure (ForInStep.yield r) : Sem _)) =
   pure (names.foldl (fun acc x => if x.2 == .free then (match env.cells.lookup x.1 with | some a => (x.1, a) :: acc | none => acc) else acc) acc)
 | [], _, _ => rfl
 | (n, k) :: r, acc, h => by
  rw [List.forIn_cons, List.foldl_cons]
  by_cases hk : (k == NameKind.free) = true
  ·have hk' : k = .free := by simpa using hk
   obtain ⟨c, hc⟩ := h n (by rw [hk']; exact List.mem_cons_self)
   simp only [hk, if_true, cellOf, hc]
   exact jl r _ fun y hy => h y (List.mem_cons_of_mem _ hy)
  ·simp only [hk, if_false, Bool.false_eq_true]
   exact jl r _ fun y hy => h y (List.mem_cons_of_mem _ hy)
theorem vN {scope : Scope} {env : Env} (h : ∀ n, (n, NameKind.free) ∈ scope.names -> ∃ c, env.cells.lookup n = some c) : closureFor scope env = pure (g_ scope env) := by
 have e := jl (env := env) scope.names [] h
 unfold g_
 show (forIn scope.names [] (fun x r => (if x.2 == .free then do let c <- cellOf env x.1; pure (ForInStep.yield ((x.1, c) :: r)) else pure (ForInStep.yield r) : Sem _)) >>= fun cs => pure cs) = _
 rw [e]
 rfl
theorem xj {scope : Scope} {env : Env} {x : Str} (h : (relabel scope env).names.lookup x = some .cell \/ (relabel scope env).names.lookup x = some .free) : scope.names.lookup x = some .free \/ scope.names.lookup x = some .cell := by
  have go : ∀ names : List (Str × NameKind),
      ((names.map fun (n, k) => if (k == NameKind.free && env.scope.kind == .function && env.kindOf n == some .cell) then (n, NameKind.cell) else (n, k)).lookup x = some .cell \/
       (names.map fun (n, k) => if (k == NameKind.free && env.scope.kind == .function && env.kindOf n == some .cell) then (n, NameKind.cell) else (n, k)).lookup x = some .free) -> names.lookup x = some .free \/ names.lookup x = some .cell := by
    intro names
    induction names with
    | nil => intro h; simp at h
    | cons y r ih =>
      obtain ⟨n, k⟩ := y
      intro h
      rw [List.map_cons] at h
      cases hx : x == n with
      | true =>
        rw [List.lookup_cons, hx]
        by_cases hf : (k == NameKind.free && env.scope.kind == .function && env.kindOf n == some .cell) = true
        · have : (k == NameKind.free) = true := by
            cases q : (k == NameKind.free) with
            | true => rfl
            | false => rw [q] at hf; simp at hf
          have e : k = .free := by simpa using this
          rw [e]
          exact .inl rfl
        · simp only [hf, Bool.false_eq_true, if_false, List.lookup_cons, hx] at h
          rcases h with h | h
          · exact .inr h
          · exact .inl h
      | false =>
        rw [List.lookup_cons, hx]
        refine ih ?_
        by_cases hf : (k == NameKind.free && env.scope.kind == .function && env.kindOf n == some .cell) = true
        · simpa only [hf, if_true, List.lookup_cons, hx] using h
        · simpa only [hf, Bool.false_eq_true, if_false, List.lookup_cons, hx] using h
  exact go scope.names h
theorem zm {scope : Scope} {env : Env} {x : Str} (h : scope.names.lookup x = some .free) : (relabel scope env).names.lookup x = some .cell \/ (relabel scope env).names.lookup x = some .free := by
  have go : ∀ names : List (Str × NameKind), names.lookup x = some .free ->
      ((names.map fun (n, k) => if (k == NameKind.free && env.scope.kind == .function && env.kindOf n == some .cell) then (n, NameKind.cell) else (n, k)).lookup x = some .cell \/
       (names.map fun (n, k) => if (k == NameKind.free && env.scope.kind == .function && env.kindOf n == some .cell) then (n, NameKind.cell) else (n, k)).lookup x = some .free) := by
    intro names
    induction names with
    | nil => intro h; simp at h
    | cons y r ih =>
      obtain ⟨n, k⟩ := y
      intro h
      rw [List.map_cons]
      cases hx : x == n with
      | true =>
        rw [List.lookup_cons, hx] at h
        have e : k = .free := Option.some.inj h
        subst e
        by_cases hf : ((NameKind.free == NameKind.free) && env.scope.kind == .function && env.kindOf n == some .cell) = true
        · left; simp only [hf, if_true, List.lookup_cons, hx]
        · right; simp only [hf, Bool.false_eq_true, if_false, List.lookup_cons, hx]
      | false =>
        rw [List.lookup_cons, hx] at h
        by_cases hf : (k == NameKind.free && env.scope.kind == .function && env.kindOf n == some .cell) = true
        · simpa only [hf, if_true, List.lookup_cons, hx] using ih h
        · simpa only [hf, Bool.false_eq_true, if_false, List.lookup_cons, hx] using ih h
  exact go scope.names h
theorem i_ : ∀ {names : List (Str × NameKind)} {x : Str}, names.lookup x = some .free -> (x, NameKind.free) ∈ names := fun h => PySem.mem_of_lookup h
theorem dm : ∀ (names : List (Str × NameKind)) (n : Nat) (acc : List (Str × Addr)), cellsFrom n names acc = cellsFrom n names [] ++ acc
 | [], _, _ => rfl
 | (x, k) :: r, n, acc => by
  unfold cellsFrom
  split
  ·rw [dm r (n + 1) ((x, n) :: acc), dm r (n + 1) [(x, n)], List.append_assoc]
   rfl
  ·exact dm r n acc
theorem jh : ∀ {names : List (Str × NameKind)} {n : Nat} {acc : List (Str × Addr)} {x : Str} {c : Addr}, (x, c) ∈ cellsFrom n names acc -> (x, NameKind.cell) ∈ names \/ (x, c) ∈ acc
 | [], _, _, _, _, h => .inr h
 | (y, k) :: r, n, acc, x, c, h => by
  unfold cellsFrom at h
  split at h
  ·rename_i hk
   have hk' : k = .cell := by simpa using hk
   rcases jh h with q | q
   ·exact .inl (List.mem_cons_of_mem _ q)
   ·rcases List.mem_cons.mp q with e | q
    ·cases e
     rw [hk']
     exact .inl List.mem_cons_self
    ·exact .inr q
  ·rcases jh h with q | q
   ·exact .inl (List.mem_cons_of_mem _ q)
   ·exact .inr q
def fM (scope : Scope) (env : Env) (C : Addr) : List (Str × Addr) := cellsFrom (C + 1) scope.names (g_ scope env)
theorem cJ {scope : Scope} {env : Env} {C : Addr} {x : Str} {c : Addr} (e : (fM scope env C).lookup x = some c) : (x, c) ∈ cellsFrom (C + 1) scope.names [] \/ ((cellsFrom (C + 1) scope.names []).lookup x = none /\ (g_ scope env).lookup x = some c) := by
 unfold fM at e
 rw [dm, List.lookup_append] at e
 cases q : (cellsFrom (C + 1) scope.names []).lookup x with
 | some d =>
  rw [q] at e
  have e' : d = c := by simpa using e
  subst e'
  exact .inl (PySem.mem_of_lookup q)
 | none =>
  rw [q] at e
  exact .inr ⟨rfl, by simpa using e⟩
theorem zu {M : Model} {A : Around} {E : Value -> Shared -> Prop} {s : Shared} {scope : Scope} {globals : Addr} {cl : List (Str × Addr)} {qual : Str} {env : Env} {Q : Env -> Shared -> Prop}
  (hQ : ∀ h', h'.Ns s.heap.objs.size (fun _ => none) -> (∀ b o, s.heap.get? b = some o -> h'.get? b = some o) -> CellsOk h' (s.heap.objs.size + 1) (cellsFrom (s.heap.objs.size + 1) scope.names []) ->
   Q (newEnv scope s.heap.objs.size globals (cellsFrom (s.heap.objs.size + 1) scope.names cl) qual none .none (some env) builtinsNs) { s with heap := h' }) :
  wpAny M A (newFunctionEnv scope globals cl [] qual none .none (some env)) Q E s := by
 simp only [newFunctionEnv, Option.isSome_some, if_true]
 refine wpAny_bind (wpAny_alloc ?_)
 refine wpAny_bind (wpAny_layCells _ (fun name kind cells => by cases hkc : kind == NameKind.cell <;> simp [hkc]) _ _ _ _ ?_)
 have ok := cellsFrom_ok scope.names (s.heap.push { cls := .type "dict", data := .dict #[] }) (s.heap.objs.size + 1) [] ⟨fun _ _ hm => (nomatch hm), List.Pairwise.nil⟩ (by rw [Heap.size_push]; exact Nat.le_refl _)
 rw [Heap.size_push] at ok
 rw [show ({ s with heap := s.heap.push { cls := .type "dict", data := .dict #[] } } : Shared).heap.objs.size = s.heap.objs.size + 1 from Heap.size_push ..]
 refine wpAny_bind (wpAny_pure (wpAny_pure ?_))
 exact hQ _ ((Heap.Ns.new s.heap (.type "dict")).keeps (pushCells_keeps _ _)) (fun b o e => pushCells_keeps _ _ b o (Heap.get?_push_of_some _ e)) ok
def b_ (X : Cx) (pins : List (Addr × Obj)) (scope : Scope) (N' : List Str) (fp : List Addr) (s2 : Shared) (C : Addr) (H : Hp) : Cx where
 prog := X.prog
 w := X.w
 K := X.K
 mg := X.mg
 base := X.base
 A := X.A
 N := N'
 s₀ := s2
 H₀ := H
 env := compEnvC scope (fM scope X.env C) C X.env
 outer := X.stack
 stack := X.stack
 ex := fp
 fn := fun x => scope.names.lookup x == some .cell
 calm := X.calm
 pn := X.pn ++ pins
 xe := fun _ _ => False
def e_ (src : List (Option Nat)) (σ : St) : St := src.map fun o => match o with | none => none | some j => (σ[j]?).getD none
def sI (scope around : Scope) (N N' : List Str) (src : List (Option Nat)) : Bool :=
 scope.kind == .function && scope.names.all (fun x => (x.2 != .cell || scope.names.lookup x.1 == some .cell) && (x.2 != .local || scope.names.lookup x.1 == some .local) && (x.2 != .free || around.names.lookup x.1 == some .cell || around.names.lookup x.1 == some .free)) &&
 N'.length == src.length && (N'.zip src).all fun x => match x.2 with | none => true | some j => N[j]? == some x.1 && scope.names.lookup x.1 == some .free
structure CompOk (scope around : Scope) (N N' : List Str) (src : List (Option Nat)) : Prop where
 kind : scope.kind = .function
 cellk : ∀ y ∈ scope.names, y.2 = .cell -> scope.names.lookup y.1 = some .cell
 loc : ∀ y ∈ scope.names, y.2 = .local -> scope.names.lookup y.1 = some .local
 free : ∀ y, (y, NameKind.free) ∈ scope.names -> around.names.lookup y = some .cell \/ around.names.lookup y = some .free
 len : N'.length = src.length
 src : ∀ (i j : Nat) (x : Str), N'[i]? = some x -> src[i]? = some (some j) -> N[j]? = some x /\ scope.names.lookup x = some .free
theorem CompOk.of {scope around : Scope} {N N' : List Str} {src : List (Option Nat)} (h : sI scope around N N' src = true) : CompOk scope around N N' src := by
 unfold sI at h
 simp only [Bool.and_eq_true, List.all_eq_true] at h
 obtain ⟨⟨⟨h1, h2⟩, h3⟩, h4⟩ := h
 refine ⟨by simpa using h1, fun y hy e => ?_, fun y hy e => ?_, fun y hy => ?_, by simpa using h3, fun i j x e1 e2 => ?_⟩
 ·have := (h2 y hy).1.1
  rw [e] at this
  simpa using this
 ·have := (h2 y hy).1.2
  rw [e] at this
  simpa using this
 ·have := (h2 _ hy).2
  simpa using this
 ·have hm : (x, some j) ∈ N'.zip src := by
   refine List.mem_of_getElem? (i := i) ?_
   rw [List.getElem?_zip_eq_some]
   exact ⟨e1, e2⟩
  have := h4 _ hm
  simpa using this
theorem DR {src : List (Option Nat)} {σ : St} {i : Nat} {v : V} (e : (e_ src σ)[i]? = some (some v)) : ∃ j, src[i]? = some (some j) /\ σ[j]? = some (some v) := by
 unfold e_ at e
 rw [List.getElem?_map] at e
 cases q : src[i]? with
 | none => rw [q] at e; cases e
 | some o =>
  rw [q] at e
  cases o with
  | none => simp at e
  | some j =>
   refine ⟨j, rfl, ?_⟩
   have e' : (σ[j]?).getD none = some v := by simpa using e
   cases r : σ[j]? with
   | none => rw [r] at e'; cases e'
   | some y => rw [r] at e'; simpa using e'
section
variable {X : Cx} {pins : List (Addr × Obj)} {σ : St} {H : Hp} {s2 : Shared} {scope : Scope} {N' : List Str} {src : List (Option Nat)} {fp : List Addr} {C : Addr}
theorem wy (k : CompOk scope X.env.scope X.N N' src) (I : Inv X pins σ H s2) (m : Str -> Option Value) (i : Nat) (x : Str) (v : V) (e1 : N'[i]? = some x) (e2 : (e_ src σ)[i]? = some (some v)) :
  ∃ u, RelV v u /\ Look (compEnvC scope (fM scope X.env C) C X.env) s2.heap m x u := by
 obtain ⟨j, ej, ev⟩ := DR e2
 obtain ⟨hN, hf⟩ := k.src i j x e1 ej
 have hm := i_ hf
 have hk : X.env.scope.names.lookup x = some .cell \/ X.env.scope.names.lookup x = some .free := k.free x hm
 obtain ⟨m0, _, hl⟩ := I.loc
 obtain ⟨u, r, lk⟩ := hl j x v hN ev (.inr hk)
 refine ⟨u, r, .inr ⟨zm hf, ?_⟩⟩
 rcases lk with ⟨q, _⟩ | ⟨_, c, hc, z⟩
 ·have q' : X.env.scope.names.lookup x = some .local := q
  rcases hk with w | w
  ·rw [w] at q'; cases q'
  ·rw [w] at q'; cases q'
 ·refine ⟨c, ?_, z⟩
  have q : (cellsFrom (C + 1) scope.names []).lookup x = none := by
   cases q : (cellsFrom (C + 1) scope.names []).lookup x with
   | none => rfl
   | some d =>
    rcases jh (PySem.mem_of_lookup q) with y | y
    ·have := k.cellk _ y rfl
     rw [hf] at this
     cases this
    ·exact nomatch y
  show (fM scope X.env C).lookup x = some c
  unfold fM
  rw [dm, List.lookup_append, q, vB hc hm]
  rfl
theorem yV (k : CompOk scope X.env.scope X.N N' src) {s0 : Shared} {H0 : Hp} {pl : List (Addr × Obj)} {σ' : St} (I : Inv X pins σ H s2) (I' : Inv (b_ X pins scope N' fp s0 C H0) pl σ' H s2) : Inv (b_ X pins scope N' fp s0 C H0) pl (e_ src σ) H s2 := by
 obtain ⟨m, hns, _⟩ := I'.loc
 refine ⟨I'.ok, I'.os, I'.bare, I'.base, ⟨m, hns, fun i x v e1 e2 _ => wy (C := C) k I m i x v e1 e2⟩, I'.cell, I'.free, I'.freeC, I'.pin, I'.hok, ?_⟩
 unfold e_
 rw [List.length_map]
 exact k.len.symm
theorem Fx (k : CompOk scope X.env.scope X.N N' src) (I : Inv X pins σ H s2) (f : ∀ b ∈ fp, gK X pins H b) (fo : ∀ b ∈ fp, ∃ o, s2.heap.get? b = some o) (hC : s2.heap.objs.size <= C) {h1 : Heap} {tk : Nat} {m : Str -> Option Value} (hns : h1.Ns C m)
  (old : ∀ b o, s2.heap.get? b = some o -> h1.get? b = some o) (own : CellsOk h1 (C + 1) (cellsFrom (C + 1) scope.names [])) : Inv (b_ X pins scope N' fp s2 C H) [] (e_ src σ) H { s2 with heap := h1, toks := tk } := by
 have sub : ∀ x c, (g_ scope X.env).lookup x = some c -> X.env.cells.lookup x = some c := fun x c e => oO e
 have oldc : ∀ x c, (g_ scope X.env).lookup x = some c -> c < s2.heap.objs.size := fun x c e => by
  obtain ⟨v, q⟩ := I.cell x c (sub x c e)
  exact q.lt
 have ltC : ∀ b o, s2.heap.get? b = some o -> b ≠ C := fun b o e => Nat.ne_of_lt (Nat.lt_of_lt_of_le (Heap.lt_size e) hC)
 have nst : ∀ b, b ≠ X.env.locals -> b ∉ X.fs -> b ∉ frs X.stack := fun b h1 h2 hb => by
  rcases List.mem_cons.mp (I.stkSub b hb) with z | z
  ·exact h1 z
  ·exact h2 z
 refine ⟨⟨I.ok.mod, k.kind, I.ok.glob, I.ok.blt, hC, fun x y c e1 e2 => ?_, fun x hx => ?_, fun x c z e => ?_, I.ok.hd, I.ok.frames, .inl rfl, fun b hb => ⟨?_, fun x c e => ?_⟩,
   I.bs, Nat.le_trans I.ok.bsz I.sz, fun b o e hb => ?_, fun b hb => nst b (f b hb).2.1 (f b hb).2.2.1, I.stack, I.stkFree⟩,
  rfl, I.bare, Un.kept old, ⟨m, hns, fun i x v e1 e2 _ => ?_⟩, fun x c e => ?_, I.hok.fresh hC, fun x c e => ?_, fun p hp => ?_, I.hok.kept old, ?_⟩
 ·rcases cJ e1 with q | ⟨_, q⟩
  ·rcases cJ e2 with r | ⟨_, r⟩
   ·exact name_of_addr own.apart q r
   ·have h1 := (own.empty _ _ q).2
    have h2 := oldc _ _ r
    exact absurd (Nat.lt_of_lt_of_le h2 hC) (by omega)
  ·rcases cJ e2 with r | ⟨_, r⟩
   ·have h1 := (own.empty _ _ r).2
    have h2 := oldc _ _ q
    exact absurd (Nat.lt_of_lt_of_le h2 hC) (by omega)
   ·exact I.ok.inj x y c (sub x c q) (sub y c r)
 ·show ∃ c, (fM scope X.env C).lookup x = some c
  unfold fM
  rw [dm, List.lookup_append]
  cases q : (cellsFrom (C + 1) scope.names []).lookup x with
  | some d => exact ⟨d, by simp⟩
  | none =>
   rcases xj hx with hf | hf
   ·have hm := i_ hf
    have hk : X.env.kindOf x = some .cell \/ X.env.kindOf x = some .free := k.free x hm
    obtain ⟨c, hc⟩ := I.ok.has x hk
    exact ⟨c, by rw [vB hc hm]; rfl⟩
   ·have := PySem.W.cellsFrom_some scope.names (C + 1) [] (.inl hf)
    rw [q] at this
    cases this
 ·have z1 : (scope.names.lookup x == some NameKind.cell) = true := z
  have z' : scope.names.lookup x = some .cell := by simpa using z1
  rcases cJ e with q | ⟨q, _⟩
  ·exact Nat.le_trans hC (by have := (own.empty _ _ q).2; omega)
  ·have := PySem.W.cellsFrom_some scope.names (C + 1) [] (.inl z')
   rw [q] at this
   cases this
 ·obtain ⟨o, e⟩ := fo b hb
  exact ltC b o e
 ·rcases cJ e with q | ⟨_, q⟩
  ·obtain ⟨o, eb⟩ := fo b hb
   have h1 := (own.empty _ _ q).2
   have h2 := Nat.lt_of_lt_of_le (Heap.lt_size eb) hC
   exact Nat.ne_of_gt (Nat.lt_of_lt_of_le h2 (Nat.le_trans (Nat.le_succ C) h1))
  ·exact (f b hb).2.2.2.2.1 x c (sub x c q)
 ·rcases (f b hb).2.2.2.1 with z | z
  ·exact I.ok.noex b o e z
  ·exact absurd (Nat.lt_of_lt_of_le (Heap.lt_size e) (Nat.le_trans I.ok.bsz z)) (Nat.lt_irrefl _)
 ·exact wy (C := C) k (I.kept (t' := tk) old) m i x v e1 e2
 ·rcases cJ e with q | ⟨_, q⟩
  ·exact ⟨_, (own.empty _ _ q).1⟩
  ·obtain ⟨v, o, ho, hd⟩ := I.cell x c (sub x c q)
   exact ⟨v, o, old c o ho, hd⟩
 ·rcases cJ e with q | ⟨_, q⟩
  ·exact I.hok.fresh (by have := (own.empty _ _ q).2; omega)
  ·exact I.freeC x c (sub x c q)
 ·have hp' : p ∈ X.pn ++ pins := by
   have : p ∈ (X.pn ++ pins) ++ [] := hp
   simpa using this
  obtain ⟨e, n, ne, nf, d⟩ := I.pin p hp'
  exact ⟨old _ _ e, n, ltC _ _ e, nst _ ne nf, d⟩
 ·unfold e_
  rw [List.length_map]
  exact k.len.symm
end
def PTs (X : Cx) (ifs : List Expr) (t : TT) : Prop :=
 ∀ (pins : List (Addr × Obj)) (s : Shared) (σ : St) (H : Hp) (Q : Bool -> Hp -> Prop), Inv X pins σ H s -> t σ H Q ->
  wpAny (model X.prog X.w) X.A (forIn ifs true fun c r => if r = true then do let ok <- isTrue c X.env (eval c X.env); pure (ForInStep.yield ok) else pure (ForInStep.yield r)) (TP X pins σ Q) X.xe s
def mO : TT := fun _ H Q => Q true H
theorem bJ {X : Cx} : PTs X [] mO := fun _ _ _ H _ I h => wpAny_tests_nil ⟨H, I, h⟩
theorem HF {X : Cx} {c : Expr} {t : TT} (h : PT X c t) : PTs X [c] t := fun pins s σ H Q I hw => wpAny_tests_one (h pins s σ H Q I hw)
theorem wC {prog : Program} {w : World} {A : Around} {R : Result -> Shared -> Prop} {s : Shared} {elt target iter : Expr} {ifs : List Expr} {scope : Scope} {pos : Pos} {it acc : Value} {env : Env} (I : Nat -> Shared -> Prop)
  (turn : ∀ n s, I n s -> wpAny (model prog w) A (pyNext it) (fun r s₁ => match r with
   | none => R (.ok .next) s₁
   | some v => wpAny (model prog w) A (letOwnedTupleGo target it v) (fun _ s₀ => wpAny (model prog w) A (assign target env v) (fun _ s₂ =>
     wpAny (model prog w) A (forIn ifs true fun c r => if r = true then do let ok <- isTrue c env (eval c env); pure (ForInStep.yield ok) else pure (ForInStep.yield r)) (fun ok s₃ =>
      if ok = true then wpAny (model prog w) A (eval elt env) (fun x s₄ =>
       wpAny (model prog w) A (call (.builtin "list.append") [acc, x]) (fun _ s₅ => ∃ m, m < n /\ I m s₅) (fun _ _ => False) s₄) (fun _ _ => False) s₃
      else ∃ m, m < n /\ I m s₃) (fun _ _ => False) s₂) (fun _ _ => False) s₀) (fun _ _ => False) s₁) (fun _ _ => False) s)
  (n : Nat) (h : I n s) : codeAny (model prog w) A (.compLoop (.ListComp elt [⟨target, iter, ifs, 0⟩] scope pos) 0 it acc env) R s := by
 refine codeAny_loop rfl I (fun n s hI => ?_) n h
 show wpAny _ A ((compTurn (.ListComp elt [⟨target, iter, ifs, 0⟩] scope pos) 0 it acc env).onRaise (fun x => do noteFrame x env; theTreesLotGoes x)) _ _ s
 refine wpAny_noted ?_
 rw [compTurn_list]
 refine wpAny_mono (E := fun _ _ => False) ?_ (fun _ _ q => q) (fun _ _ z => z.elim)
 refine wpAny_bind (wpAny_standAt (wpAny_bind (wpAny_mono (turn n s hI) (fun r s₁ h₁ => ?_) fun _ _ h' => h')))
 cases r with
 | none => exact wpAny_pure h₁
 | some v =>
  refine wpAny_bind (wpAny_mono h₁ (fun _ s₀ h₀ => ?_) fun _ _ h' => h')
  refine wpAny_bind (wpAny_mono h₀ (fun _ s₂ h₂ => wpAny_bind (wpAny_mono h₂ (fun ok s₃ h₃ => ?_) fun _ _ h' => h')) fun _ _ h' => h')
  cases ok with
  | false => exact wpAny_pure ⟨rfl, h₃⟩
  | true =>
   exact wpAny_bind (wpAny_bind (wpAny_mono h₃ (fun x s₄ h₄ => wpAny_bind (wpAny_mono h₄ (fun _ s₅ h₅ => wpAny_pure (wpAny_pure ⟨rfl, h₅⟩)) fun _ _ h' => h')) fun _ _ h' => h'))
def d7 (J : It) (g : TG) (tt : TT) (te : TE) (σc : St) (H1 : Hp) (Fin : List V -> Hp -> Prop) : Prop :=
 ∃ W : Nat -> Nat -> List V -> Hp -> Prop, (∃ m, W 0 m [] H1) /\ ∀ i m ys H, W i m ys H ->
  (J.stop i H /\ Fin ys H) \/ (J.go i H /\ ys.length < sizeLine /\ ∃ N : List V -> Hp -> Prop, (∀ ys' H', N ys' H' -> ∃ m', m' < m /\ W (i + 1) m' ys' H') /\
   ∀ x H', J.yld i H x H' -> g x σc H' fun σ2 H2 => tt σ2 H2 fun b H3 => if b = true then te σ2 H3 fun y H4 => N (ys ++ [y]) H4 else N ys H3)
def Gs (wi : TI) (src : List (Option Nat)) (g : TG) (tt : TT) (te : TE) : TE := fun σ H Q => wi σ H fun J H1 => d7 J g tt te (e_ src σ) H1 fun ys H2 => ∀ p, H2 p = none -> Q (.ref p) (upd H2 p (.lst ys))
abbrev lobj (its : List Value) (k : Nat) : Obj := { cls := .type "list", data := .seq its.toArray k }
theorem wV {X : Cx} {pins : List (Addr × Obj)} {σ : St} {H : Hp} {s2 : Shared} {E : Value -> Shared -> Prop} {scope : Scope} {N' : List Str} {src : List (Option Nat)} {fp : List Addr} {it : Addr} {tn : Nat -> Heap -> Prop} {J : It} {tg elt iter : Expr} {ifs : List Expr} {pos : Pos} {g : TG} {tt : TT} {te : TE}
  {Fin : List V -> Hp -> Prop} {RR : Value -> Addr -> Result -> Shared -> Prop} (hc : X.calm = true) (k : CompOk scope X.env.scope X.N N' src) (I : Inv X pins σ H s2) (T : Turn X.prog X.w X.K tg J fp it tn) (st0 : tn 0 s2.heap) (f : ∀ b ∈ fp, gK X pins H b)
  (hg : ∀ C, PG (b_ X pins scope N' fp s2 C H) tg g) (ht : ∀ C, PTs (b_ X pins scope N' fp s2 C H) ifs tt) (he : ∀ C, PE (b_ X pins scope N' fp s2 C H) elt te)
  (h : d7 J g tt te (e_ src σ) H Fin)
  (hRR : ∀ D C s' H' ys its n, Inv X pins σ H' s' -> gK X pins H' D -> gK X pins H' C -> C ≠ D -> (∃ m, s'.heap.Ns C m) -> s'.heap.get? D = some (lobj its n) -> Vals ys its -> ys.length <= sizeLine -> Fin ys H' -> RR (.ref D) C (.ok .next) s') :
  wpAny (model X.prog X.w) X.A (newList []) (fun acc s₃ => wpAny (model X.prog X.w) X.A (newFunctionEnv scope X.env.globals (g_ scope X.env) [] X.env.qual none .none (some X.env)) (fun cenv s₄ =>
   codeAny (model X.prog X.w) X.A (.compStart (.ListComp elt [⟨tg, iter, ifs, 0⟩] scope pos) 0 (.ref it) acc { cenv with scope := relabel scope X.env }) (RR acc cenv.locals) s₄) E s₃) E s2 := by
 refine wpAny_newObj_type (zu fun h₁ hns₁ old₁ own₁ => ?_)
 dsimp only at hns₁ old₁ own₁ ⊢
 generalize hH2 : s2.heap.push { cls := .type "list", dict := none, data := .seq ([] : List Value).toArray } = H2 at hns₁ old₁ own₁ ⊢
 have hC : H2.objs.size = s2.heap.objs.size + 1 := by rw [<- hH2, Heap.size_push]
 have hDC : s2.heap.objs.size ≠ H2.objs.size := by rw [hC]; exact Nat.ne_of_lt (Nat.lt_succ_self _)
 have hCle : s2.heap.objs.size <= H2.objs.size := by rw [hC]; exact Nat.le_succ _
 have old : ∀ b o, s2.heap.get? b = some o -> h₁.get? b = some o := fun b o e => old₁ b o (hH2 ▸ Heap.get?_push_of_some _ e)
 have hacc : h₁.get? s2.heap.objs.size = some (lobj [] 0) := old₁ _ _ (hH2 ▸ Heap.get?_push_size _ rfl)
 generalize hDe : s2.heap.objs.size = D at hDC hacc
 generalize hCe : H2.objs.size = C at hDC hC hCle hns₁ own₁ ⊢
 have fo : ∀ b ∈ fp, ∃ o, s2.heap.get? b = some o := fun b hb => let ⟨o, e, _⟩ := T.obj 0 _ st0 b hb; ⟨o, e⟩
 have fD : ∀ b ∈ fp, b ≠ D := fun b hb => by obtain ⟨o, e⟩ := fo b hb; rw [<- hDe]; exact Nat.ne_of_lt (Heap.lt_size e)
 have fC : ∀ b ∈ fp, b ≠ C := fun b hb => by obtain ⟨o, e⟩ := fo b hb; exact Nat.ne_of_lt (Nat.lt_of_lt_of_le (Heap.lt_size e) hCle)
 have stk : ∀ b, s2.heap.objs.size <= b -> b ∉ frs X.stack := fun b hb z => by
  rcases List.mem_cons.mp (I.stkSub b z) with q | q
  ·rw [q] at hb; exact absurd (Nat.lt_of_lt_of_le I.lt hb) (Nat.lt_irrefl _)
  ·exact I.nofs hb q
 have I0 : Inv (b_ X pins scope N' fp s2 C H) [] (e_ src σ) H { s2 with heap := h₁ } := Fx (tk := s2.toks) k I f fo hCle hns₁ old own₁
 have hDn : H D = none := I.hok.fresh (by rw [hDe]; exact Nat.le_refl _)
 have nD : D ≠ C /\ D ∉ frs X.stack := ⟨hDC, stk D (by rw [hDe]; exact Nat.le_refl _)⟩
 have cellF : ∀ x c, (fM scope X.env C).lookup x = some c -> ∀ b, b < C -> (∀ x c, X.env.cells.lookup x = some c -> c ≠ b) -> c ≠ b := fun x c e b hb hx z => by
  rcases cJ e with q | ⟨_, q⟩
  ·have := (own₁.empty _ _ q).2
   exact Nat.ne_of_gt (Nat.lt_of_lt_of_le hb (Nat.le_trans (Nat.le_succ C) this)) z
  ·exact hx x c (oO q) z
 have hDC2 : D < C := by rw [hC, <- hDe]; exact Nat.lt_succ_self _
 have cellD : ∀ x c, (fM scope X.env C).lookup x = some c -> c ≠ D := fun x c e => cellF x c e D hDC2 fun x c e z => by
  obtain ⟨v, q⟩ := I.cell x c e
  have := q.lt
  rw [z, <- hDe] at this
  exact Nat.lt_irrefl _ this
 have pnD : ∀ p ∈ X.pn ++ pins, p.1 ≠ D := fun p hp z => by
  have := Heap.lt_size (I.pin p hp).1
  rw [z, <- hDe] at this
  exact Nat.lt_irrefl _ this
 have nocell : ∀ (its : List Value) (n : Nat) (v : Option Value), (lobj its n).data ≠ .cell v := fun its n v z => by
  have z' : Data.seq its.toArray n = Data.cell v := z
  cases z'
 have pinD : ∀ {σ' : St} {H' : Hp} {s' : Shared} {its : List Value} {n : Nat} {pl : List (Addr × Obj)}, Inv (b_ X pins scope N' fp s2 C H) pl σ' H' s' -> s'.heap.get? D = some (lobj its n) -> H' D = none -> Inv (b_ X pins scope N' fp s2 C H) [(D, lobj its n)] σ' H' s' :=
  fun {σ' H' s' its n pl} J1 e hn => J1.pins_of fun p hp => by
   have hp' : p = (D, lobj its n) := List.mem_singleton.mp hp
   subst hp'
   exact ⟨e, hn, nD.1, nD.2, nocell _ _⟩
 obtain ⟨W, ⟨m0, w0⟩, turn⟩ := h
 have ltf : ∀ b ∈ fp, b < C := fun b hb => by obtain ⟨o, e⟩ := fo b hb; exact Nat.lt_of_lt_of_le (Heap.lt_size e) hCle
 have loop : ∀ s₃ : Shared, s₃ = { s2 with heap := h₁ } ->
   codeAny (model X.prog X.w) X.A (.compLoop (.ListComp elt [⟨tg, iter, ifs, 0⟩] scope pos) 0 (.ref it) (.ref D) (compEnvC scope (fM scope X.env C) C X.env)) (RR (.ref D) C) s₃ := by
  rintro s₃ rfl
  refine wC (fun n s' => ∃ i σ' H' ys its l, Inv (b_ X pins scope N' fp s2 C H) [(D, lobj its l)] σ' H' s' /\ tn i s'.heap /\ (∀ b ∈ fp, H' b = none) /\ Vals ys its /\ ys.length <= sizeLine /\ W i n ys H' ) ?_ m0
   ⟨0, e_ src σ, H, [], [], 0, pinD I0 hacc hDn, T.keep _ _ _ st0 fun b _ o e => old b o e, fun b hb => (f b hb).1, .nil, Nat.zero_le _, w0⟩
  rintro n s3 ⟨i, σ3, H3, ys, its, l, I3, st3, fr3, rv, hz, w3⟩
  have stat : ∀ {H' : Hp} {its' : List Value} {l' : Nat}, (∀ b ∈ fp, H' b = none) -> ∀ b ∈ fp, gK (b_ X pins scope N' fp s2 C H) [(D, lobj its' l')] H' b := fun hn b hb =>
   ⟨hn b hb, fC b hb, (fun z => by
     rcases List.mem_cons.mp (I.stkSub b z) with q | q
     ·exact (f b hb).2.1 q
     ·exact (f b hb).2.2.1 q), .inl hb, fun x c e => cellF x c e b (ltf b hb) (f b hb).2.2.2.2.1, fun p hp => by
    rcases List.mem_append.mp hp with z | z
    ·exact (f b hb).2.2.2.2.2 p z
    ·rw [List.mem_singleton.mp z]
     exact Ne.symm (fD b hb)⟩
  have IX3 : Inv X pins σ H3 s3 := I.call' (ch := fp) I3.os I3.base I3.hok I3.bare fun b hb => ⟨(f b hb).2.2.2.1, (f b hb).2.1, (f b hb).2.2.2.2.1, (f b hb).2.2.2.2.2⟩
  have I3c : Inv (b_ X pins scope N' fp s2 C H) [(D, lobj its l)] (e_ src σ) H3 s3 := yV k IX3 I3
  rcases turn i n ys H3 w3 with ⟨stop, fin⟩ | ⟨go, hlt, NN, hNN, step⟩
  ·refine wpAny_mono (T.done (b_ X pins scope N' fp s2 C H) rfl rfl rfl hc i _ s3 σ3 H3 (fun _ _ => False) I3 (stat fr3) st3 stop) (fun r s4 ⟨hr, I4⟩ => ?_) fun _ _ z => z
   subst hr
   have eD := (I4.pin (D, lobj its l) (List.mem_append_right _ List.mem_cons_self))
   have IX : Inv X pins σ H3 s4 := I.call' (ch := fp) I4.os I4.base I4.hok I4.bare fun b hb => ⟨(f b hb).2.2.2.1, (f b hb).2.1, (f b hb).2.2.2.2.1, (f b hb).2.2.2.2.2⟩
   obtain ⟨m4, hn4, _⟩ := I4.loc
   exact hRR D C s4 H3 ys its l IX (I.fpOk (by rw [hDe]; exact Nat.le_refl _) eD.2.1) (I.fpOk hCle I4.free) (Ne.symm hDC) ⟨m4, hn4⟩ eD.1 rv hz fin
  ·refine wpAny_mono (T.item (b_ X pins scope N' fp s2 C H) rfl rfl rfl hc i _ s3 (e_ src σ) H3 (fun _ _ => False) I3c (stat fr3) st3 go) (fun r s4 ⟨u, hr, h4⟩ => ?_) fun _ _ z => z
   subst hr
   refine wpAny_mono h4 (fun _ s5 ⟨x, H5, I5, r5, y5, st5, fr5⟩ => ?_) fun _ _ z => z
   have I5' := I5.pinned (stat fr5) (T.obj _ _ st5)
   refine wpAny_mono (hg C _ s5 (e_ src σ) H5 x u _ I5' r5 (step x H5 y5)) (fun _ s6 ⟨σ6, H6, I6, q6⟩ => ?_) fun _ _ z => z
   refine wpAny_mono (ht C _ s6 σ6 H6 _ I6 q6) (fun b s7 ⟨H7, I7, q7⟩ => ?_) fun _ _ z => z
   have back : ∀ {σ8 : St} {H8 : Hp} {s8 : Shared}, Inv (b_ X pins scope N' fp s2 C H) ([(D, lobj its l)] ++ jQ fp s5.heap) σ8 H8 s8 -> tn (i + 1) s8.heap /\ (∀ b ∈ fp, H8 b = none) := fun {σ8 H8 s8} I8 => by
    have pk : ∀ b ∈ fp, ∀ o, s5.heap.get? b = some o -> s8.heap.get? b = some o /\ H8 b = none := fun b hb o e => by
     have q := I8.pin (b, o) (List.mem_append_right _ (List.mem_append_right _ (m8 hb e)))
     exact ⟨q.1, q.2.1⟩
    refine ⟨T.keep _ _ _ st5 fun b hb o e => (pk b hb o e).1, fun b hb => ?_⟩
    obtain ⟨o, e, _⟩ := T.obj _ _ st5 b hb
    exact (pk b hb o e).2
   cases b with
   | false =>
    obtain ⟨m', hm, w7⟩ := hNN _ _ q7
    obtain ⟨b1, b2⟩ := back I7
    exact ⟨m', hm, i + 1, σ6, H7, ys, its, l, I7.unpinned, b1, b2, rv, hz, w7⟩
   | true =>
    refine wpAny_mono (he C _ s7 σ6 H7 _ I7 q7) (fun y s8 ⟨v8, H8, I8, r8, q8⟩ => ?_) fun _ _ z => z
    obtain ⟨m', hm, w8⟩ := hNN _ _ q8
    obtain ⟨b1, b2⟩ := back I8
    have eD := (I8.pin (D, lobj its l) (List.mem_append_right _ (List.mem_append_left _ List.mem_cons_self)))
    have hl := rv.length
    refine append_at (hsz := by show its.toArray.size <= sizeLine; rw [List.size_toArray]; omega) eD.1 fun h9 hs9 hD9 => ?_
    have I8' : Inv (b_ X pins scope N' fp s2 C H) (jQ fp s5.heap) σ6 H8 s8 := I8.pins_of fun p hp => I8.pin p (List.mem_append_right _ (List.mem_append_right _ hp))
    have I9 : Inv (b_ X pins scope N' fp s2 C H) (jQ fp s5.heap) σ6 H8 { s8 with heap := h9 } := I8'.turned (t' := s8.toks) (fun b o hb e => hs9.extBut b o hb e) eD.2.1 nD.1 (.inr (by show s2.heap.objs.size <= D; rw [hDe]; exact Nat.le_refl _)) cellD fun p hp => by
     rcases List.mem_append.mp hp with z | z
     ·exact pnD p z
     ·exact fD _ (u9 z).1
    have e9 : ({ cls := .type "list", data := .seq (its.toArray.push y) (l + 1) } : Obj) = lobj (its ++ [y]) (l + 1) := by
     show ({ cls := .type "list", data := .seq (its.toArray.push y) (l + 1) } : Obj) = { cls := .type "list", data := .seq (its ++ [y]).toArray (l + 1) }
     rw [List.push_toArray]
    rw [e9] at hD9
    refine ⟨m', hm, i + 1, σ6, H8, ys ++ [v8], its ++ [y], l + 1, pinD I9 hD9 eD.2.1, T.keep _ _ _ b1 fun b hb o e => hs9.extBut b o (fD b hb) e, b2, rv.append (.cons r8 .nil), by rw [List.length_append, List.length_singleton]; omega, w8⟩
 subst hDe
 exact codeAny_compStart_list (loop _ rfl) (T.self _ 0 _ _ _ (T.keep _ _ _ st0 fun b _ o e => old b o e) (loop _ rfl))
section
variable {X : Cx} {scope : Scope} {N' : List Str} {src : List (Option Nat)} {tg elt iter : Expr} {ifs : List Expr} {pos : Pos} {wi : TI} {g : TG} {tt : TT} {te : TE}
theorem qz {pins : List (Addr × Obj)} {σ : St} {H : Hp} {s : Shared} {N : List Str} (k : CompOk scope X.env.scope N N' src) (I : Inv X pins σ H s) : closureFor scope X.env = pure (g_ scope X.env) :=
 vN fun n hn => I.ok.has n (k.free n hn)
theorem bN (hc : X.calm = true) (hk : sI scope X.env.scope X.N N' src = true) (hi : PI X tg iter wi)
  (hg : ∀ pins fp s2 C H, PG (b_ X pins scope N' fp s2 C H) tg g) (ht : ∀ pins fp s2 C H, PTs (b_ X pins scope N' fp s2 C H) ifs tt) (he : ∀ pins fp s2 C H, PE (b_ X pins scope N' fp s2 C H) elt te)
  (hs : ∀ x, foldedSetIterable iter X.env x = pure x := by intro _; rfl) : PE X (.ListComp elt [⟨tg, iter, ifs, 0⟩] scope pos) (Gs wi src g tt te) := by
 intro pins s σ H Q I h
 have k := CompOk.of hk
 rw [eval_ListComp]
 refine wpAny_comprehension_free (use := none) rfl hs (qz k I) k.kind k.loc (thn (hi pins s σ H _ I h) fun xv s1 h1 => thn h1 fun itv s2 h2 => ?_)
 obtain ⟨it, fp, tn, J, H2, e, I2, T, st2, f2, q2⟩ := h2
 subst e
 refine wV hc k I2 T st2 f2 (hg pins fp s2 · H2) (ht pins fp s2 · H2) (he pins fp s2 · H2) q2 ?_
 intro D C s' H' ys its n I' fD fC hCD hns hD rv hz fin
 obtain ⟨m, hn⟩ := hns
 refine ⟨m, hn, fun h' hs' => ?_⟩
 have I3 : Inv X pins σ H' { s' with heap := h' } := I'.turned (t' := s'.toks) (fun b o hb e => hs'.extBut b o hb e) fC.1 fC.2.1 fC.2.2.2.1 fC.2.2.2.2.1 fC.2.2.2.2.2
 exact ⟨.ref D, upd H' D (.lst ys), I3.track fD ⟨hz, its, n, rv, hs'.extBut _ _ (Ne.symm hCD) hD⟩, rfl, fin D fD.1⟩
theorem Aa {i : Nat} {x : Str} {px spos : Pos} (hc : X.calm = true) (hN : X.N.Nodup) (hi' : X.N[i]? = some x) (hx : X.env.scope.names.lookup x = some .local) (hk : sI scope X.env.scope X.N N' src = true) (hi : PI X tg iter wi)
  (hg : ∀ pins fp s2 C H, PG (b_ X pins scope N' fp s2 C H) tg g) (ht : ∀ pins fp s2 C H, PTs (b_ X pins scope N' fp s2 C H) ifs tt) (he : ∀ pins fp s2 C H, PE (b_ X pins scope N' fp s2 C H) elt te)
  (hsw : swapsWith (.ListComp elt [⟨tg, iter, ifs, 0⟩] scope pos) (some (.Name x px)) spos.line X.env = pure true := by rfl)
  (hs : ∀ x, foldedSetIterable iter X.env x = pure x := by intro _; rfl) : PS X (.Assign [.Name x px] (.ListComp elt [⟨tg, iter, ifs, 0⟩] scope pos) spos) (Gk (Gs wi src g tt te) (ik i)) := by
 intro pins s σ H D0 I h
 have k := CompOk.of hk
 rw [exec_Assign_Name_used _ _ _ _ hsw]
 refine wpAny_bind (wpAny_standAt (wpAny_bind ?_))
 show wpAny _ X.A (do let _ <- comprehension (.ListComp elt [⟨tg, iter, ifs, 0⟩] scope pos) scope X.env _ (newList []) false (eval iter X.env) (some (assign (.Name x px) X.env))) _ _ s
 refine wpAny_bind (wpAny_mono (wpAny_comprehension_free (use := some (assign (.Name x px) X.env)) (Q := fun _ s' => SP X pins D0 .next s') rfl hs (qz k I) k.kind k.loc
  (thn (hi pins s σ H _ I h) fun xv s1 h1 => thn h1 fun itv s2 h2 => ?_)) (fun _ s' hq => wpAny_pure (wpAny_pure hq)) fun _ _ e => e)
 obtain ⟨it, fp, tn, J, H2, e, I2, T, st2, f2, q2⟩ := h2
 subst e
 refine wV hc k I2 T st2 f2 (hg pins fp s2 · H2) (ht pins fp s2 · H2) (he pins fp s2 · H2) q2 ?_
 intro D C s' H' ys its n I' fD fC hCD hns hD rv hz fin
 obtain ⟨m, hn⟩ := hns
 show wpAny _ X.A (assign (.Name x px) X.env (.ref D)) _ _ _
 refine wpAny_assign_Name (uV I' hN hi' (.inl hx) (show RelV (.ref D) (.ref D) from rfl) (fun s3 I3 hsb => ?_) (.inr hx))
 obtain ⟨a, hsb, ha⟩ := hsb
 have haC : C ≠ a := fun z => by
  rcases ha with q | q
  ·exact fC.2.1 (z.trans q)
  ·exact fC.2.2.2.2.1 x a q z.symm
 have haD : D ≠ a := fun z => by
  rcases ha with q | q
  ·exact fD.2.1 (z.trans q)
  ·exact fD.2.2.2.2.1 x a q z.symm
 refine ⟨m, hn.sameBut hsb haC, fun h' hs' => ?_⟩
 have I4 : Inv X pins (σ.set i (some (.ref D))) H' { s3 with heap := h' } := I3.turned (t' := s3.toks) (fun b o hb e => hs'.extBut b o hb e) fC.1 fC.2.1 fC.2.2.2.1 fC.2.2.2.2.1 fC.2.2.2.2.2
 exact ⟨_, upd H' D (.lst ys), I4.track fD ⟨hz, its, n, rv, hs'.extBut _ _ (Ne.symm hCD) (hsb.extBut _ _ haD hD)⟩, fin D fD.1⟩
end
theorem Dj {K : PySem.W.Frag} {a : Addr} {xs : List V} {g : TG} {tt : TT} {te : TE} {σc : St} {H : Hp} {Fin : List V -> Hp -> Prop} (Pv : Nat -> List V -> Hp -> Prop) (h0 : Pv 0 [] H) (hl : ∀ i ys H, i <= xs.length -> Pv i ys H -> SqL K H a xs /\ ys.length <= i) (hz : xs.length <= sizeLine)
  (hs : ∀ i x ys H, xs[i]? = some x -> Pv i ys H -> g x σc H fun σ2 H2 => tt σ2 H2 fun b H3 => if b = true then te σ2 H3 fun y H4 => Pv (i + 1) (ys ++ [y]) H4 else Pv (i + 1) ys H3)
  (hd : ∀ ys H, Pv xs.length ys H -> Fin ys H) : d7 (Itl K a) g tt te σc H Fin := by
 refine ⟨fun i m ys H => m = xs.length - i /\ i <= xs.length /\ Pv i ys H, ⟨xs.length, by simp, Nat.zero_le _, h0⟩, ?_⟩
 rintro i m ys H ⟨rfl, hi, p⟩
 obtain ⟨q, hy⟩ := hl i ys H hi p
 by_cases hlt : i < xs.length
 ·refine .inr ⟨⟨xs, xs[i], q, by simp [hlt]⟩, by omega, Pv (i + 1), fun ys' H' p' => ⟨xs.length - (i + 1), by omega, rfl, hlt, p'⟩, fun x H' y => ?_⟩
  obtain ⟨e, y⟩ := y
  subst e
  exact hs i x ys _ (y xs q) p
 ·have e : i = xs.length := by omega
  subst e
  exact .inl ⟨⟨xs, q, Nat.le_refl _⟩, hd ys H p⟩
theorem Bv {lo : Int} {n : Nat} {g : TG} {tt : TT} {te : TE} {σc : St} {H : Hp} {Fin : List V -> Hp -> Prop} (Pv : Nat -> List V -> Hp -> Prop) (h0 : Pv 0 [] H) (hl : ∀ i ys H, i <= n -> Pv i ys H -> ys.length <= i) (hz : n <= sizeLine)
  (hs : ∀ i ys H, i < n -> Pv i ys H -> g (.int (lo + i)) σc H fun σ2 H2 => tt σ2 H2 fun b H3 => if b = true then te σ2 H3 fun y H4 => Pv (i + 1) (ys ++ [y]) H4 else Pv (i + 1) ys H3)
  (hd : ∀ ys H, Pv n ys H -> Fin ys H) : d7 (Itr lo n) g tt te σc H Fin := by
 refine ⟨fun i m ys H => m = n - i /\ i <= n /\ Pv i ys H, ⟨n, by simp, Nat.zero_le _, h0⟩, ?_⟩
 rintro i m ys H ⟨rfl, hi, p⟩
 have hy := hl i ys H hi p
 by_cases hlt : i < n
 ·refine .inr ⟨hlt, by omega, Pv (i + 1), fun ys' H' p' => ⟨n - (i + 1), by omega, rfl, hlt, p'⟩, fun x H' y => ?_⟩
  obtain ⟨e, y⟩ := y
  subst e y
  exact hs i ys _ hlt p
 ·have e : i = n := by omega
  subst e
  exact .inl ⟨Nat.le_refl _, hd ys H p⟩
end L2
set_option Elab.async false
set_option linter.all false
set_option maxRecDepth 100000
namespace L2
open PySem PySem.Spec PyProof.Rows
section
variable {X : Cx}
theorem zj : CallR X (.builtin "isinstance") (fun xs H Q => ∃ x t T b, xs = [x, .ty T] /\ TyOf X.K H x t /\ PySem.W.kitOne X.K t (.type T) = some b /\ Q (.bl b) H) := by
 intro pins s σ H xs us Q I r h
 obtain ⟨x, t, T, b, rfl, ty, e, q⟩ := h
 cases r with
 | cons r1 rr =>
  cases rr with
  | cons r2 rr =>
   cases rr
   cases r2
   exact uR I r1 ty e fun tk => ⟨.bl b, H, I.tok _, rfl, q⟩
theorem Vals.bools : ∀ {bs : List Bool} {us : List Value}, Vals (bs.map V.bl) us -> LSm.BoolsAre us bs
 | [], _, .nil => .nil
 | _ :: _, _, .cons r t => by
  cases r
  exact .cons _ (Vals.bools t)
theorem Fe (hc : X.calm = true) : CallR X (.builtin "all") (fun xs H Q => ∃ (a : Addr) (bs : List Bool), xs = [.ref a] /\ SqL X.K H a (bs.map V.bl) /\ Q (.bl (bs.all id)) H) := by
 intro pins s σ H xs us Q I r h
 obtain ⟨a, bs, rfl, hq, q⟩ := h
 cases r with
 | cons r1 rr =>
  cases rr
  cases r1
  obtain ⟨its, rv, p, hz⟩ := I.list hq
  have hl := p.isList
  have hb := rv.bools
  have hlt : a < s.heap.objs.size := by obtain ⟨_, e, _⟩ := hl; exact Heap.lt_size e
  refine call_all_walk (wpAny_pyIter_list hl ?_)
  refine ⟨s.heap.objs.size, [s.heap.objs.size, a], [s.heap.objs.size], its.toArray.size, _, _, fun i => (bs[i]?).getD true, rfl, Walks.list (A := X.A.in1) (I.ok.hd hc) _ a (Nat.ne_of_lt hlt) its.toArray,
   ⟨⟨_, Heap.get?_push_size _ rfl, rfl, rfl⟩, hl.push _⟩, fun i v s' Q' E' hP hQ => ?_, fun h' tk hk => ?_⟩
  ·obtain ⟨b, e, rfl⟩ := hb.get i v (by simpa using hP)
   simp only [e, Option.getD_some] at hQ
   exact wpAny_truthy_bool hQ
  ·have e : ((List.range its.toArray.size).all fun i => (bs[i]?).getD true) = bs.all id := by
    rw [List.size_toArray, hb.length]; exact LSm.range_all bs
   rw [e]
   exact ⟨.bl (bs.all id), H, I.kept (LSm.kept_iter hk), rfl, q⟩
theorem Gb (hc : X.calm = true) : CallR X (.builtin "any") (fun xs H Q => ∃ (a : Addr) (bs : List Bool), xs = [.ref a] /\ SqL X.K H a (bs.map V.bl) /\ Q (.bl (bs.any id)) H) := by
 intro pins s σ H xs us Q I r h
 obtain ⟨a, bs, rfl, hq, q⟩ := h
 cases r with
 | cons r1 rr =>
  cases rr
  cases r1
  obtain ⟨its, rv, p, hz⟩ := I.list hq
  have hl := p.isList
  have hb := rv.bools
  have hlt : a < s.heap.objs.size := by obtain ⟨_, e, _⟩ := hl; exact Heap.lt_size e
  refine call_any_walk (wpAny_pyIter_list hl ?_)
  refine ⟨s.heap.objs.size, [s.heap.objs.size, a], [s.heap.objs.size], its.toArray.size, _, _, fun i => (bs[i]?).getD false, rfl, Walks.list (A := X.A.in1) (I.ok.hd hc) _ a (Nat.ne_of_lt hlt) its.toArray,
   ⟨⟨_, Heap.get?_push_size _ rfl, rfl, rfl⟩, hl.push _⟩, fun i v s' Q' E' hP hQ => ?_, fun h' tk hk => ?_⟩
  ·obtain ⟨b, e, rfl⟩ := hb.get i v (by simpa using hP)
   simp only [e, Option.getD_some] at hQ
   exact wpAny_truthy_bool hQ
  ·have e : ((List.range its.toArray.size).any fun i => (bs[i]?).getD false) = bs.any id := by
    rw [List.size_toArray, hb.length]; exact LSm.range_any bs
   rw [e]
   exact ⟨.bl (bs.any id), H, I.kept (LSm.kept_iter hk), rfl, q⟩
theorem Vals.ints : ∀ {ns : List Int} {us : List Value}, Vals (ns.map V.int) us -> IntsAre us ns
 | [], _, .nil => .nil
 | _ :: _, _, .cons r t => by
  obtain ⟨tk, rfl⟩ := r
  exact .cons _ _ (Vals.ints t)
def lB : List Int -> Int
 | [] => 0
 | x :: r => r.foldl (fun a b => if a < b then b else a) x
def lC : List Int -> Int
 | [] => 0
 | x :: r => r.foldl (fun a b => if b < a then b else a) x
theorem Ao (r : List Int) : ∀ x : Int, ((r.foldl (fun a b => if a < b then b else a) x) ∈ x :: r) /\ ∀ a ∈ x :: r, a <= r.foldl (fun a b => if a < b then b else a) x := by
 induction r with
 | nil => intro x; simp
 | cons y r ih =>
  intro x
  rw [List.foldl_cons]
  obtain ⟨h1, h2⟩ := ih (if x < y then y else x)
  refine ⟨?_, fun a ha => ?_⟩
  ·rcases List.mem_cons.mp h1 with e | e
   ·rw [e]
    split
    ·simp
    ·simp
   ·simp [e]
  ·have h3 := h2 _ List.mem_cons_self
   rcases List.mem_cons.mp ha with e | ha
   ·subst e
    refine Int.le_trans ?_ h3
    split <;> omega
   ·rcases List.mem_cons.mp ha with e | ha
    ·subst e
     refine Int.le_trans ?_ h3
     split <;> omega
    ·exact h2 a (List.mem_cons_of_mem _ ha)
theorem Ar (r : List Int) : ∀ x : Int, ((r.foldl (fun a b => if b < a then b else a) x) ∈ x :: r) /\ ∀ a ∈ x :: r, r.foldl (fun a b => if b < a then b else a) x <= a := by
 induction r with
 | nil => intro x; simp
 | cons y r ih =>
  intro x
  rw [List.foldl_cons]
  obtain ⟨h1, h2⟩ := ih (if y < x then y else x)
  refine ⟨?_, fun a ha => ?_⟩
  ·rcases List.mem_cons.mp h1 with e | e
   ·rw [e]
    split
    ·simp
    ·simp
   ·simp [e]
  ·have h3 := h2 _ List.mem_cons_self
   rcases List.mem_cons.mp ha with e | ha
   ·subst e
    refine Int.le_trans h3 ?_
    split <;> omega
   ·rcases List.mem_cons.mp ha with e | ha
    ·subst e
     refine Int.le_trans h3 ?_
     split <;> omega
    ·exact h2 a (List.mem_cons_of_mem _ ha)
theorem Fb {ns : List Int} (h : ns ≠ []) : lB ns ∈ ns := by
 cases ns with
 | nil => exact absurd rfl h
 | cons x r => exact (Ao r x).1
theorem Hu {ns : List Int} {a : Int} (h : a ∈ ns) : a <= lB ns := by
 cases ns with
 | nil => exact nomatch h
 | cons x r => exact (Ao r x).2 a h
theorem E_ {ns : List Int} (h : ns ≠ []) : lC ns ∈ ns := by
 cases ns with
 | nil => exact absurd rfl h
 | cons x r => exact (Ar r x).1
theorem Ht {ns : List Int} {a : Int} (h : a ∈ ns) : lC ns <= a := by
 cases ns with
 | nil => exact nomatch h
 | cons x r => exact (Ar r x).2 a h
theorem Ho {ns : List Int} {M : Int} (h1 : M ∈ ns) (h2 : ∀ a, a ∈ ns -> a <= M) : M = lB ns :=
 Int.le_antisymm (Hu h1) (h2 _ (Fb (fun e => by rw [e] at h1; exact nomatch h1)))
theorem HY {ns : List Int} {M : Int} (h1 : M ∈ ns) (h2 : ∀ a, a ∈ ns -> M <= a) : M = lC ns :=
 Int.le_antisymm (h2 _ (E_ (fun e => by rw [e] at h1; exact nomatch h1))) (Ht h1)
theorem Fp (hc : X.calm = true) : CallR X (.builtin "max") (fun xs H Q => ∃ (a : Addr) (ns : List Int), xs = [.ref a] /\ SqL X.K H a (ns.map V.int) /\ ns ≠ [] /\ Q (.int (lB ns)) H) := by
 intro pins s σ H xs us Q I r h
 obtain ⟨a, ns, rfl, hq, hne, q⟩ := h
 cases r with
 | cons r1 rr =>
  cases rr
  cases r1
  obtain ⟨its, rv, p, hz⟩ := I.list hq
  have hi := rv.ints
  obtain ⟨xs, e⟩ := hi.allInts.items
  have hns : ns = xs.toList.map (·.1) := by
   rw [<- hi.numsOf, <- nums_intItems, <- e]
  have hsz : 0 < xs.size := by
   have h3 := List.length_pos_iff.mpr hne
   rw [hns, List.length_map, Array.length_toList] at h3; exact h3
  have hl' : s.heap.IsList a (intItems xs) := e ▸ p.isList
  refine max_intList (I.ok.hd hc) hl' hsz fun v h' tk hv hk => ?_
  obtain ⟨t, rfl⟩ := intItems_at hv
  obtain ⟨h1, h2⟩ := argBest_gt (numAt xs) (xs.size - 1)
  refine ⟨.int (lB ns), H, I.kept hk, ⟨t, ?_⟩, q⟩
  refine congrArg (Value.int · t) (Ho ?_ fun a ha => ?_)
  ·rw [hns, numAt_eq]; exact getD_mem (by rw [List.length_map, Array.length_toList]; omega)
  ·rw [hns] at ha
   obtain ⟨j, hj, rfl⟩ := mem_getD ha
   rw [List.length_map, Array.length_toList] at hj
   rw [<- numAt_eq]; exact h2 j (by omega)
theorem Fd (hc : X.calm = true) : CallR X (.builtin "min") (fun xs H Q => ∃ (a : Addr) (ns : List Int), xs = [.ref a] /\ SqL X.K H a (ns.map V.int) /\ ns ≠ [] /\ Q (.int (lC ns)) H) := by
 intro pins s σ H xs us Q I r h
 obtain ⟨a, ns, rfl, hq, hne, q⟩ := h
 cases r with
 | cons r1 rr =>
  cases rr
  cases r1
  obtain ⟨its, rv, p, hz⟩ := I.list hq
  have hi := rv.ints
  obtain ⟨xs, e⟩ := hi.allInts.items
  have hns : ns = xs.toList.map (·.1) := by
   rw [<- hi.numsOf, <- nums_intItems, <- e]
  have hsz : 0 < xs.size := by
   have h3 := List.length_pos_iff.mpr hne
   rw [hns, List.length_map, Array.length_toList] at h3; exact h3
  have hl' : s.heap.IsList a (intItems xs) := e ▸ p.isList
  refine min_intList (I.ok.hd hc) hl' hsz fun v h' tk hv hk => ?_
  obtain ⟨t, rfl⟩ := intItems_at hv
  obtain ⟨h1, h2⟩ := argBest_lt (numAt xs) (xs.size - 1)
  refine ⟨.int (lC ns), H, I.kept hk, ⟨t, ?_⟩, q⟩
  refine congrArg (Value.int · t) (HY ?_ fun a ha => ?_)
  ·rw [hns, numAt_eq]; exact getD_mem (by rw [List.length_map, Array.length_toList]; omega)
  ·rw [hns] at ha
   obtain ⟨j, hj, rfl⟩ := mem_getD ha
   rw [List.length_map, Array.length_toList] at hj
   rw [<- numAt_eq]; exact h2 j (by omega)
end
inductive D where
 | non | bl (b : Bool) | int (i : Int) | str (x : Str) | tup (ds : List D) | lst (ds : List D)
mutual
def Rep (K : PySem.W.Frag) (H : Hp) : D -> V -> Prop
 | .non, v => v = .non
 | .bl b, v => v = .bl b
 | .int i, v => v = .int i
 | .str x, v => v = .str x
 | .tup ds, v => ∃ a vs, v = .ref a /\ SqT K H a vs /\ Reps K H ds vs
 | .lst ds, v => ∃ a vs, v = .ref a /\ SqL K H a vs /\ Reps K H ds vs
def Reps (K : PySem.W.Frag) (H : Hp) : List D -> List V -> Prop
 | [], vs => vs = []
 | d :: ds, vs => ∃ v r, vs = v :: r /\ Rep K H d v /\ Reps K H ds r
end
theorem SqT.mono {K : PySem.W.Frag} {H H' : Hp} {a : Addr} {vs : List V} (e : Same H H') (h : SqT K H a vs) : SqT K H' a vs := by
 rcases h with h | h
 ·rcases h with h | ⟨o, h⟩
  ·exact .inl (.inl (e _ _ h))
  ·exact .inl (.inr ⟨o, e _ _ h⟩)
 ·exact .inr h
mutual
theorem Rep.mono {K : PySem.W.Frag} {H H' : Hp} (e : Same H H') : ∀ {d : D} {v : V}, Rep K H d v -> Rep K H' d v
 | .non, _, h => h
 | .bl _, _, h => h
 | .int _, _, h => h
 | .str _, _, h => h
 | .tup ds, _, h => by
  unfold Rep at h ⊢
  obtain ⟨a, vs, h1, h2, h3⟩ := h
  exact ⟨a, vs, h1, h2.mono e, Reps.mono e h3⟩
 | .lst ds, _, h => by
  unfold Rep at h ⊢
  obtain ⟨a, vs, h1, h2, h3⟩ := h
  exact ⟨a, vs, h1, e.seq h2, Reps.mono e h3⟩
theorem Reps.mono {K : PySem.W.Frag} {H H' : Hp} (e : Same H H') : ∀ {ds : List D} {vs : List V}, Reps K H ds vs -> Reps K H' ds vs
 | [], _, h => h
 | d :: ds, _, h => by
  unfold Reps at h ⊢
  obtain ⟨v, r, h1, h2, h3⟩ := h
  exact ⟨v, r, h1, Rep.mono e h2, Reps.mono e h3⟩
end
mutual
def eqD : D -> D -> Bool
 | .non, .non => true
 | .bl a, .bl b => a == b
 | .int a, .int b => a == b
 | .str a, .str b => a == b
 | .tup a, .tup b => dg a b
 | .lst a, .lst b => dg a b
 | _, _ => false
def dg : List D -> List D -> Bool
 | [], [] => true
 | a :: r, b :: t => eqD a b && dg r t
 | _, _ => false
end
mutual
def cP : D -> D -> Bool
 | .non, .non => true
 | .bl _, .bl _ => true
 | .int _, .int _ => true
 | .str _, .str _ => true
 | .tup a, .tup b => cj a b
 | .lst a, .lst b => cj a b
 | _, _ => false
def cj : List D -> List D -> Bool
 | a :: r, b :: t => cP a b && cj r t
 | _, _ => true
end
mutual
def cW : D -> Nat
 | .tup ds => dM ds + 1
 | .lst ds => dM ds + 1
 | _ => 0
def dM : List D -> Nat
 | [] => 0
 | d :: r => max (cW d) (dM r)
end
theorem Reps.length {K : PySem.W.Frag} {H : Hp} : ∀ {ds : List D} {vs : List V}, Reps K H ds vs -> vs.length = ds.length
 | [], _, h => by unfold Reps at h; subst h; rfl
 | d :: ds, _, h => by
  unfold Reps at h
  obtain ⟨v, r, rfl, _, h3⟩ := h
  simp [Reps.length h3]
theorem Reps.get {K : PySem.W.Frag} {H : Hp} : ∀ {ds : List D} {vs : List V} {i : Nat} {v : V}, Reps K H ds vs -> vs[i]? = some v -> ∃ d, ds[i]? = some d /\ Rep K H d v
 | [], _, i, v, h, e => by unfold Reps at h; subst h; simp at e
 | d :: ds, _, 0, v, h, e => by
  unfold Reps at h
  obtain ⟨w, r, rfl, h2, _⟩ := h
  simp at e
  subst e
  exact ⟨d, rfl, h2⟩
 | d :: ds, _, i + 1, v, h, e => by
  unfold Reps at h
  obtain ⟨w, r, rfl, _, h3⟩ := h
  simpa using Reps.get (i := i) h3 (by simpa using e)
theorem Reps.at {K : PySem.W.Frag} {H : Hp} {ds : List D} {vs : List V} {i : Nat} {d : D} (h : Reps K H ds vs) (e : ds[i]? = some d) : ∃ v, vs[i]? = some v /\ Rep K H d v := by
 have hl := h.length
 have hi : i < vs.length := by rw [hl]; exact (List.getElem?_eq_some_iff.mp e).1
 obtain ⟨d', e', r⟩ := h.get (List.getElem?_eq_getElem hi)
 rw [e] at e'
 cases e'
 exact ⟨_, List.getElem?_eq_getElem hi, r⟩
theorem nY : ∀ {a b : List D} {i : Nat} {x y : D}, cj a b = true -> a[i]? = some x -> b[i]? = some y -> cP x y = true
 | [], _, i, x, y, _, e, _ => by simp at e
 | _ :: _, [], i, x, y, _, _, e => by simp at e
 | a :: r, b :: t, 0, x, y, h, e1, e2 => by
  unfold cj at h
  simp at e1 e2
  subst e1 e2
  exact (Bool.and_eq_true _ _ ▸ h).1
 | a :: r, b :: t, i + 1, x, y, h, e1, e2 => by
  unfold cj at h
  exact nY (i := i) (Bool.and_eq_true _ _ ▸ h).2 (by simpa using e1) (by simpa using e2)
theorem pL : ∀ {a : List D} {i : Nat} {x : D}, a[i]? = some x -> cW x <= dM a
 | [], i, x, e => by simp at e
 | d :: r, 0, x, e => by
  simp at e
  subst e
  unfold dM
  exact Nat.le_max_left _ _
 | d :: r, i + 1, x, e => by
  unfold dM
  exact Nat.le_trans (pL (i := i) (by simpa using e)) (Nat.le_max_right _ _)
def fO (a b : List D) (i : Nat) : Bool := match a[i]?, b[i]? with
 | some x, some y => eqD x y
 | _, _ => true
theorem m6 : ∀ {a b : List D}, a.length = b.length -> (List.range a.length).all (fO a b) = dg a b
 | [], [], _ => rfl
 | [], _ :: _, h => by simp at h
 | _ :: _, [], h => by simp at h
 | x :: r, y :: t, h => by
  have ih := m6 (a := r) (b := t) (by simpa using h)
  rw [List.length_cons, List.range_succ_eq_map, List.all_cons, List.all_map]
  unfold dg
  rw [<- ih]
  rfl
theorem qG : ∀ {a b : List D}, a.length ≠ b.length -> dg a b = false
 | [], [], h => absurd rfl h
 | [], _ :: _, _ => rfl
 | _ :: _, [], _ => rfl
 | x :: r, y :: t, h => by
  unfold dg
  rw [qG (a := r) (b := t) (by simpa using h), Bool.and_false]
section
variable {X : Cx} {pins : List (Addr × Obj)} {σ : St} {H : Hp} {s : Shared}
theorem pD (ds : List D) : cW (.tup ds) = dM ds + 1 := by unfold cW; rfl
theorem lE (ds : List D) : cW (.lst ds) = dM ds + 1 := by unfold cW; rfl
theorem qT (I : Inv X pins σ H s) (n : Nat) : ∀ {d e : D} {x : V}, cW d <= n -> cP d e = true -> Rep X.K H d x -> Rep X.K H e x -> eqD d e = true := by
 have flat : ∀ {d e : D} {x : V}, cW d = 0 -> cP d e = true -> Rep X.K H d x -> Rep X.K H e x -> eqD d e = true := by
  intro d e x hd hl r1 r2
  cases d with
  | tup ds => rw [pD] at hd; omega
  | lst ds => rw [lE] at hd; omega
  | non =>
   cases e <;> first | (exact absurd hl Bool.false_ne_true) | skip
   rfl
  | bl a =>
   cases e <;> first | (exact absurd hl Bool.false_ne_true) | skip
   unfold Rep at r1 r2
   rw [r1] at r2
   cases r2
   simp [eqD]
  | int a =>
   cases e <;> first | (exact absurd hl Bool.false_ne_true) | skip
   unfold Rep at r1 r2
   rw [r1] at r2
   cases r2
   simp [eqD]
  | str a =>
   cases e <;> first | (exact absurd hl Bool.false_ne_true) | skip
   unfold Rep at r1 r2
   rw [r1] at r2
   cases r2
   simp [eqD]
 have many : ∀ (m : Nat), (∀ {d e : D} {x : V}, cW d <= m -> cP d e = true -> Rep X.K H d x -> Rep X.K H e x -> eqD d e = true) -> ∀ {ds es : List D} {vs : List V}, dM ds <= m -> cj ds es = true -> Reps X.K H ds vs -> Reps X.K H es vs -> dg ds es = true := by
  intro m ih ds
  induction ds with
  | nil =>
   intro es vs _ _ r1 r2
   cases es with
   | nil => rfl
   | cons e es =>
    unfold Reps at r1 r2
    obtain ⟨_, _, q, _⟩ := r2
    rw [r1] at q
    cases q
  | cons d ds ihl =>
   intro es vs hd hl r1 r2
   cases es with
   | nil =>
    unfold Reps at r1 r2
    obtain ⟨_, _, q, _⟩ := r1
    rw [r2] at q
    cases q
   | cons e es =>
    unfold Reps at r1 r2
    obtain ⟨v, r, q, a1, a2⟩ := r1
    obtain ⟨v', r', q', b1, b2⟩ := r2
    rw [q] at q'
    cases q'
    have hl' : (cP d e && cj ds es) = true := by unfold cj at hl; exact hl
    rw [Bool.and_eq_true] at hl'
    have hd' : max (cW d) (dM ds) <= m := by unfold dM at hd; exact hd
    show (eqD d e && dg ds es) = true
    rw [ih (Nat.le_trans (Nat.le_max_left _ _) hd') hl'.1 a1 b1, ihl (Nat.le_trans (Nat.le_max_right _ _) hd') hl'.2 a2 b2]
    rfl
 induction n with
 | zero => intro d e x hd; exact flat (Nat.le_zero.mp hd)
 | succ n ih =>
  intro d e x hd hl r1 r2
  cases d with
  | non => exact flat rfl hl r1 r2
  | bl a => exact flat rfl hl r1 r2
  | int a => exact flat rfl hl r1 r2
  | str a => exact flat rfl hl r1 r2
  | tup ds =>
   cases e <;> first | (exact absurd hl Bool.false_ne_true) | skip
   rename_i es
   unfold Rep at r1 r2
   obtain ⟨a, vs, e1, q1, p1⟩ := r1
   obtain ⟨b, ws, e2, q2, p2⟩ := r2
   rw [e1] at e2
   cases e2
   have := I.tuple_inj q1 q2
   subst this
   rw [pD] at hd
   have hl' : cj ds es = true := by unfold cP at hl; exact hl
   exact many n ih (by omega) hl' p1 p2
  | lst ds =>
   cases e <;> first | (exact absurd hl Bool.false_ne_true) | skip
   rename_i es
   unfold Rep at r1 r2
   obtain ⟨a, vs, e1, q1, p1⟩ := r1
   obtain ⟨b, ws, e2, q2, p2⟩ := r2
   rw [e1] at e2
   cases e2
   have := I.list_inj q1 q2
   subst this
   rw [lE] at hd
   have hl' : cj ds es = true := by unfold cP at hl; exact hl
   exact many n ih (by omega) hl' p1 p2
theorem wZ (I : Inv X pins σ H s) (n : Nat) : ∀ {d e : D} {x y : V} {u v : Value} {A : Around}, cW d <= n -> cP d e = true -> A.units + n < cLine -> Rep X.K H d x -> Rep X.K H e y -> RelV x u -> RelV y v ->
  SeqAt.EqAt A s u v (eqD d e) /\ SeqAt.RcAt A s u v (eqD d e) /\ SeqAt.RcNeAt A s u v (!eqD d e) := by
 induction n with
 | zero =>
  intro d e x y u v A hd hl hu r1 r2 v1 v2
  cases d with
  | tup ds => rw [pD] at hd; omega
  | lst ds => rw [lE] at hd; omega
  | non =>
   cases e <;> first | (exact absurd hl Bool.false_ne_true) | skip
   unfold Rep at r1 r2
   subst r1 r2
   cases v1; cases v2
   exact ⟨.same _, .none_none, .none_none⟩
  | bl a =>
   cases e <;> first | (exact absurd hl Bool.false_ne_true) | skip
   unfold Rep at r1 r2
   subst r1 r2
   cases v1; cases v2
   exact ⟨.bool_bool _ _, .bool_bool _ _, .bool_bool _ _⟩
  | int a =>
   cases e <;> first | (exact absurd hl Bool.false_ne_true) | skip
   unfold Rep at r1 r2
   subst r1 r2
   obtain ⟨t, rfl⟩ := v1
   obtain ⟨t', rfl⟩ := v2
   exact ⟨.int_int _ _ _ _, .int_int _ _ _ _, .int_int _ _ _ _⟩
  | str a =>
   cases e <;> first | (exact absurd hl Bool.false_ne_true) | skip
   unfold Rep at r1 r2
   subst r1 r2
   obtain ⟨t, rfl⟩ := v1
   obtain ⟨t', rfl⟩ := v2
   exact ⟨.str_str _ _ _ _, .str_str _ _ _ _, .str_str _ _ _ _⟩
 | succ n ih =>
  intro d e x y u v A hd hl hu r1 r2 v1 v2
  have hu0 : A.units < cLine := by omega
  have hu1 : A.in1.units + n < cLine := by show A.units + 1 + n < cLine; omega
  cases d with
  | non =>
   cases e <;> first | (exact absurd hl Bool.false_ne_true) | skip
   unfold Rep at r1 r2
   subst r1 r2
   cases v1; cases v2
   exact ⟨.same _, .none_none, .none_none⟩
  | bl a =>
   cases e <;> first | (exact absurd hl Bool.false_ne_true) | skip
   unfold Rep at r1 r2
   subst r1 r2
   cases v1; cases v2
   exact ⟨.bool_bool _ _, .bool_bool _ _, .bool_bool _ _⟩
  | int a =>
   cases e <;> first | (exact absurd hl Bool.false_ne_true) | skip
   unfold Rep at r1 r2
   subst r1 r2
   obtain ⟨t, rfl⟩ := v1
   obtain ⟨t', rfl⟩ := v2
   exact ⟨.int_int _ _ _ _, .int_int _ _ _ _, .int_int _ _ _ _⟩
  | str a =>
   cases e <;> first | (exact absurd hl Bool.false_ne_true) | skip
   unfold Rep at r1 r2
   subst r1 r2
   obtain ⟨t, rfl⟩ := v1
   obtain ⟨t', rfl⟩ := v2
   exact ⟨.str_str _ _ _ _, .str_str _ _ _ _, .str_str _ _ _ _⟩
  | tup ds =>
   cases e <;> first | (exact absurd hl Bool.false_ne_true) | skip
   rename_i es
   unfold Rep at r1 r2
   obtain ⟨a, vs, rfl, q1, p1⟩ := r1
   obtain ⟨b, ws, rfl, q2, p2⟩ := r2
   cases v1; cases v2
   obtain ⟨its1, rv1, t1, _⟩ := I.tuple q1
   obtain ⟨its2, rv2, t2, _⟩ := I.tuple q2
   have l1 : its1.length = ds.length := by rw [<- rv1.length, p1.length]
   have l2 : its2.length = es.length := by rw [<- rv2.length, p2.length]
   have hld : cj ds es = true := by unfold cP at hl; exact hl
   have he : ∀ j (h1 : j < its1.toArray.size) (h2 : j < its2.toArray.size), SeqAt.EqAt A.in1 s its1.toArray[j] its2.toArray[j] (fO ds es j) := fun j h1 h2 => by
    have h1' : j < its1.length := by simpa using h1
    have h2' : j < its2.length := by simpa using h2
    have j1 : j < vs.length := by rw [rv1.length]; exact h1'
    have j2 : j < ws.length := by rw [rv2.length]; exact h2'
    obtain ⟨d1, e1, r1⟩ := p1.get (List.getElem?_eq_getElem j1)
    obtain ⟨d2, e2, r2⟩ := p2.get (List.getElem?_eq_getElem j2)
    obtain ⟨u1, f1, s1⟩ := rv1.get (List.getElem?_eq_getElem j1)
    obtain ⟨u2, f2, s2⟩ := rv2.get (List.getElem?_eq_getElem j2)
    have g1 : its1.toArray[j] = u1 := by rw [List.getElem?_eq_getElem h1'] at f1; simpa using f1
    have g2 : its2.toArray[j] = u2 := by rw [List.getElem?_eq_getElem h2'] at f2; simpa using f2
    rw [g1, g2]
    have hq : fO ds es j = eqD d1 d2 := by unfold fO; rw [e1, e2]
    rw [hq]
    have hdd : cW d1 <= n := by
     rw [pD] at hd
     have := pL e1
     omega
    exact (ih hdd (nY hld e1 e2) hu1 r1 r2 s1 s2).1
   have hb : ((List.range (min its1.toArray.size its2.toArray.size)).all (fO ds es) && its1.toArray.size == its2.toArray.size) = eqD (.tup ds) (.tup es) := by
    show _ = dg ds es
    rw [List.size_toArray, List.size_toArray, l1, l2]
    by_cases hq : ds.length = es.length
    ·rw [hq, Nat.min_self, <- hq, m6 hq]
     simp
    ·rw [qG hq]
     simp [hq]
   have R := SeqAt.RcAt.tuples (A := A) (e := fO ds es) (show s.heap.IsTuple a its1.toArray from t1) (show s.heap.IsTuple b its2.toArray from t2) hu0 he
   have R' := SeqAt.RcNeAt.tuples (A := A) (e := fO ds es) (show s.heap.IsTuple a its1.toArray from t1) (show s.heap.IsTuple b its2.toArray from t2) hu0 he
   rw [hb] at R R'
   refine ⟨?_, R, R'⟩
   by_cases hab : a = b
   ·subst hab
    have hs : eqD (.tup ds) (.tup es) = true := qT I (n + 1) hd hl (show Rep X.K H (.tup ds) (.ref a) by unfold Rep; exact ⟨a, vs, rfl, q1, p1⟩) (show Rep X.K H (.tup es) (.ref a) by unfold Rep; exact ⟨a, ws, rfl, q2, p2⟩)
    rw [hs]
    exact .same _
   ·exact .of_refs hab R
  | lst ds =>
   cases e <;> first | (exact absurd hl Bool.false_ne_true) | skip
   rename_i es
   unfold Rep at r1 r2
   obtain ⟨a, vs, rfl, q1, p1⟩ := r1
   obtain ⟨b, ws, rfl, q2, p2⟩ := r2
   cases v1; cases v2
   obtain ⟨its1, rv1, t1, _⟩ := I.list q1
   obtain ⟨its2, rv2, t2, _⟩ := I.list q2
   have l1 : its1.length = ds.length := by rw [<- rv1.length, p1.length]
   have l2 : its2.length = es.length := by rw [<- rv2.length, p2.length]
   have hld : cj ds es = true := by unfold cP at hl; exact hl
   have he : ∀ j (h1 : j < its1.toArray.size) (h2 : j < its2.toArray.size), SeqAt.EqAt A.in1 s its1.toArray[j] its2.toArray[j] (fO ds es j) := fun j h1 h2 => by
    have h1' : j < its1.length := by simpa using h1
    have h2' : j < its2.length := by simpa using h2
    have j1 : j < vs.length := by rw [rv1.length]; exact h1'
    have j2 : j < ws.length := by rw [rv2.length]; exact h2'
    obtain ⟨d1, e1, r1⟩ := p1.get (List.getElem?_eq_getElem j1)
    obtain ⟨d2, e2, r2⟩ := p2.get (List.getElem?_eq_getElem j2)
    obtain ⟨u1, f1, s1⟩ := rv1.get (List.getElem?_eq_getElem j1)
    obtain ⟨u2, f2, s2⟩ := rv2.get (List.getElem?_eq_getElem j2)
    have g1 : its1.toArray[j] = u1 := by rw [List.getElem?_eq_getElem h1'] at f1; simpa using f1
    have g2 : its2.toArray[j] = u2 := by rw [List.getElem?_eq_getElem h2'] at f2; simpa using f2
    rw [g1, g2]
    have hq : fO ds es j = eqD d1 d2 := by unfold fO; rw [e1, e2]
    rw [hq]
    have hdd : cW d1 <= n := by
     rw [lE] at hd
     have := pL e1
     omega
    exact (ih hdd (nY hld e1 e2) hu1 r1 r2 s1 s2).1
   have R2 : SeqAt.RcAt A s (.ref a) (.ref b) (eqD (.lst ds) (.lst es)) /\ SeqAt.RcNeAt A s (.ref a) (.ref b) (!eqD (.lst ds) (.lst es)) := by
    by_cases hq : ds.length = es.length
    ·have hsz : its1.toArray.size = its2.toArray.size := by rw [List.size_toArray, List.size_toArray, l1, l2, hq]
     have hb : (List.range its1.toArray.size).all (fO ds es) = eqD (.lst ds) (.lst es) := by
      show _ = dg ds es
      rw [List.size_toArray, l1, m6 hq]
     have R := SeqAt.RcAt.lists (A := A) (e := fO ds es) t1.isList t2.isList hsz hu0 he
     have R' := SeqAt.RcNeAt.lists (A := A) (e := fO ds es) t1.isList t2.isList hsz hu0 he
     rw [hb] at R R'
     exact ⟨R, R'⟩
    ·have hsz : (its1.toArray.size != its2.toArray.size) = true := by
      rw [List.size_toArray, List.size_toArray, l1, l2]
      simpa using hq
     have hb : eqD (.lst ds) (.lst es) = false := qG hq
     rw [hb]
     exact ⟨SeqAt.RcAt.lists_lengths t1.isList t2.isList hsz hu0, SeqAt.RcNeAt.lists_lengths t1.isList t2.isList hsz hu0⟩
   obtain ⟨R, R'⟩ := R2
   refine ⟨?_, R, R'⟩
   by_cases hab : a = b
   ·subst hab
    have hs : eqD (.lst ds) (.lst es) = true := qT I (n + 1) hd hl (show Rep X.K H (.lst ds) (.ref a) by unfold Rep; exact ⟨a, vs, rfl, q1, p1⟩) (show Rep X.K H (.lst es) (.ref a) by unfold Rep; exact ⟨a, ws, rfl, q2, p2⟩)
    rw [hs]
    exact .same _
   ·exact .of_refs hab R
def Jv (K : PySem.W.Frag) : R2 := fun x y H Q => ∃ d e, Rep K H d x /\ Rep K H e y /\ cP d e = true /\ cW d <= 40 /\ Q (.bl (eqD d e)) H
def FQ (K : PySem.W.Frag) : R2 := fun x y H Q => ∃ d e, Rep K H d x /\ Rep K H e y /\ cP d e = true /\ cW d <= 40 /\ Q (.bl (!eqD d e)) H
theorem Ij (hu : X.A.units + 64 < cLine) : OpR X (compareOp .Eq) (Jv X.K) := by
 intro pins s σ H x y v u Q I rx ry h
 obtain ⟨d, e, r1, r2, hl, hd, q⟩ := h
 exact (wZ I 40 hd hl (by omega) r1 r2 rx ry).2.1 X.prog X.w X.xe _ ⟨.bl (eqD d e), H, I, rfl, q⟩
theorem Ih (hu : X.A.units + 64 < cLine) : OpR X (compareOp .NotEq) (FQ X.K) := by
 intro pins s σ H x y v u Q I rx ry h
 obtain ⟨d, e, r1, r2, hl, hd, q⟩ := h
 exact (wZ I 40 hd hl (by omega) r1 r2 rx ry).2.2 X.prog X.w X.xe _ ⟨.bl (!eqD d e), H, I, rfl, q⟩
end
mutual
theorem dR : ∀ d : D, eqD d d = true
 | .non => rfl
 | .bl b => by simp [eqD]
 | .int i => by simp [eqD]
 | .str x => by simp [eqD]
 | .tup ds => by
  show dg ds ds = true
  exact oZ ds
 | .lst ds => by
  show dg ds ds = true
  exact oZ ds
theorem oZ : ∀ ds : List D, dg ds ds = true
 | [] => rfl
 | d :: r => by
  show (eqD d d && dg r r) = true
  rw [dR d, oZ r]
  rfl
end
mutual
theorem xQ : ∀ {d e : D}, eqD d e = true -> d = e
 | .non, e, h => by cases e <;> simp [eqD] at h; rfl
 | .bl b, e, h => by cases e <;> simp [eqD] at h; rw [h]
 | .int i, e, h => by cases e <;> simp [eqD] at h; rw [h]
 | .str x, e, h => by cases e <;> simp [eqD] at h; rw [h]
 | .tup ds, e, h => by
  cases e with
  | tup es =>
   have h' : dg ds es = true := h
   rw [uF h']
  | _ => simp [eqD] at h
 | .lst ds, e, h => by
  cases e with
  | lst es =>
   have h' : dg ds es = true := h
   rw [uF h']
  | _ => simp [eqD] at h
theorem uF : ∀ {ds es : List D}, dg ds es = true -> ds = es
 | [], es, h => by cases es with
  | nil => rfl
  | cons _ _ => simp [dg] at h
 | d :: r, es, h => by cases es with
  | nil => simp [dg] at h
  | cons e t =>
   have h' : (eqD d e && dg r t) = true := h
   rw [Bool.and_eq_true] at h'
   rw [xQ h'.1, uF h'.2]
end
end L2
set_option Elab.async false
set_option linter.all false
set_option maxRecDepth 100000
namespace L2
open PySem PySem.Spec PyProof.Rows
theorem bC : bootBuiltins "len" = some (.builtin "len") := by decide +kernel
theorem Dp : bootBuiltins "abs" = some (.builtin "abs") := by decide +kernel
theorem bx : bootBuiltins "isinstance" = some (.builtin "isinstance") := by decide +kernel
theorem DN : bootBuiltins "max" = some (.builtin "max") := by decide +kernel
theorem Cg : bootBuiltins "min" = some (.builtin "min") := by decide +kernel
theorem g8 : bootBuiltins "all" = some (.builtin "all") := by decide +kernel
theorem Ig : bootBuiltins "any" = some (.builtin "any") := by decide +kernel
theorem Dv : bootBuiltins "int" = some (.type "int") := by decide +kernel
theorem zR : bootBuiltins "bool" = some (.type "bool") := by decide +kernel
theorem d9 : bootBuiltins "list" = some (.type "list") := by decide +kernel
theorem xV : bootBuiltins "tuple" = some (.type "tuple") := by decide +kernel
theorem ifP {c A B : Prop} [Decidable c] (hc : c) (h : A) : if c then A else B := by
 rw [if_pos hc]
 exact h
theorem ifN {c A B : Prop} [Decidable c] (hc : ¬ c) (h : B) : if c then A else B := by
 rw [if_neg hc]
 exact h
theorem aj {env : Env} {es : List Expr} {a b} : starEach (.Name a b :: es) env = (false, eval (.Name a b) env) :: starEach es env := rfl
theorem ao {env : Env} {es : List Expr} {a b c} : starEach (.Constant a b c :: es) env = (false, eval (.Constant a b c) env) :: starEach es env := rfl
theorem aH {env : Env} {es : List Expr} {a b c} : starEach (.Subscript a b c :: es) env = (false, eval (.Subscript a b c) env) :: starEach es env := rfl
theorem bM {env : Env} {es : List Expr} {a b c d} : starEach (.BinOp a b c d :: es) env = (false, eval (.BinOp a b c d) env) :: starEach es env := rfl
theorem aZ {env : Env} {es : List Expr} {a b c d} : starEach (.Call a b c d :: es) env = (false, eval (.Call a b c d) env) :: starEach es env := rfl
theorem bf {env : Env} {es : List Expr} {a b c d} : starEach (.ListComp a b c d :: es) env = (false, eval (.ListComp a b c d) env) :: starEach es env := rfl
theorem a_ {env : Env} {es : List Expr} {a b c} : starEach (.Tuple a b c :: es) env = (false, eval (.Tuple a b c) env) :: starEach es env := rfl
theorem aC {env : Env} {es : List Expr} {a b} : starEach (.List a b :: es) env = (false, eval (.List a b) env) :: starEach es env := rfl
theorem jx {env : Env} {es : List Expr} {a b c d} : starEach (.Compare a b c d :: es) env = (false, eval (.Compare a b c d) env) :: starEach es env := rfl
theorem cR {env : Env} {es : List Expr} {a b c} : starEach (.UnaryOp a b c :: es) env = (false, eval (.UnaryOp a b c) env) :: starEach es env := rfl
theorem Df {i : Nat} {v : V} {σ : St} {H : Hp} {A B : St -> Hp -> Prop} (h : A (σ.set i (some v)) H) : ik i v σ H fun σ2 H2 => mO σ2 H2 fun b H3 => if b = true then A σ2 H3 else B σ2 H3 := by
 show (if true = true then A (σ.set i (some v)) H else B (σ.set i (some v)) H)
 exact bH h
structure FunM (K : PySem.W.Frag) (mg : Str -> Option Value) (x : Str) (st : Stmt) (ps : List Str) : Prop where
 ex : ∃ f fd, Fun K x x st f fd /\ mg x = some (.ref f) /\ Binds K fd ps []
structure Def (P : Program) (w : World) (K : PySem.W.Frag) (mg : Str -> Option Value) (base : Heap) (x : Str) (ps : List Str) (k : Nat) (sp : Sp) : Prop where
 ex : ∃ f fd, FnOk P w K mg base CX0 k f fd ps sp /\ mg x = some (.ref f) /\ PySem.W.keepIn K (.ref f) = true /\ Binds K fd ps []
section
variable {P : Program} {w : World} {K : PySem.W.Frag} {mg : Str -> Option Value} {base : Heap}
theorem Def.of {x : Str} {st : Stmt} {N ps : List Str} {k : Nat} {sp : Sp} (F : FunM K mg x st ps) (S : FnScope N ps (aF st)) (len : ∀ vs H Q E, sp vs H Q E -> vs.length = ps.length)
  (hbody : ∀ (f : Addr) (cdv : Value) (A : Around) (outer : List Env) (s : Shared) (H : Hp) (vs : List V) (Q : VK) (E : XK), Room k (A.deeper (envOfC x (aF st) s.heap.objs.size f cdv)) -> sp vs H Q E ->
   ∃ t, PSs (dh CX0 P w K mg base N x (aF st) f cdv A outer s H E).nox (cO st) t /\ t { nx := fun _ H' => Q .non H', rt := Q } (start N vs) H) : Def P w K mg base x ps (k + 1) sp := by
 obtain ⟨f, fd, F1, hm, hb⟩ := F.ex
 exact ⟨f, fd, F1.ok S len (hbody f), hm, F1.kp, hb⟩
end
theorem aK {X : Cx} {x : Str} {ps : List Str} {k : Nat} {sp : Sp} {p pos : Pos} {e : Expr} {es : List Expr} {t : TA} (D : Def X.prog X.w X.K X.mg X.base x ps k sp) (hr : Room k X.A) (hg : Gl X x) (ha : PA X (e :: es) t)
  (hdb : (x == ("__debug__" : Str)) = false := by decide)
  (he : starEach (e :: es) X.env = (false, eval e X.env) :: starEach es X.env := by rfl) (hpl : (backTo pos (starEach es X.env)).any (·.1) = false := by rfl) : PE X (.Call (.Name x p) (e :: es) [] pos) (Bb sp [] E0 t) := by
 obtain ⟨f, fd, F, hm, hk, hb⟩ := D.ex
 exact zY F hr hg hm hk hb .nil Gn ha hdb he hpl
theorem fun_m {K : PySem.W.Frag} {h : Heap} {mg : Str -> Option Value} (X : K.In h) (G : h.Ns mainGlobals mg) {x : Str} {st : Stmt} {ps : List Str} {f : Addr} {oc : Value} {od an : Option Addr} {osl : Array (Option Value)} {kV doc pm cdv ct : Value}
  (a : PySem.W.nsIn K mainGlobals x = some (some (.ref f)))
  (l : K.lookup f = some ⟨oc, od, .func (PySem.W.fnOf x x (d8 st) (cO st) (aF st) .none kV doc pm an cdv ct), osl⟩) (c : PySem.W.codeIn K cdv x = true) (k : PySem.W.keepIn K (.ref f) = true)
  (b : ∀ (kV doc pm : Value) (an : Option Addr) (cdv ct : Value) (us : List Value), us.length = ps.length -> bindArgs (PySem.W.fnOf x x (d8 st) (cO st) (aF st) .none kV doc pm an cdv ct) ⟨us, []⟩ = pure (ps.zip us)) : FunM K mg x st ps := by
 have F := wG (st := st) l c k
 exact ⟨f, _, F, PySem.W.mg_of X G a, F.binds b⟩
end L2
set_option Elab.async false
set_option linter.all false
set_option maxRecDepth 100000
namespace L2
open PySem PySem.Spec PyProof.Rows
section
variable {X : Cx} {pins : List (Addr × Obj)} {σ : St} {H : Hp} {s : Shared}
theorem Inv.turnedL {t' : Nat} {ch : List Addr} {h' : Heap} (I : Inv X pins σ H s) (k : ∀ b o, b ∉ ch -> s.heap.get? b = some o -> h'.get? b = some o) (f : ∀ b ∈ ch, gK X pins H b) : Inv X pins σ H { s with heap := h', toks := t' } := by
 have nit : ∀ b u, H b = some u -> b ∉ ch := fun b u e z => by rw [(f b z).1] at e; cases e
 refine I.step (g' := s.gens) (d' := s.drawn) (ch := ch) (fun b hb => ⟨(f b hb).2.2.2.1, (f b hb).2.1, (f b hb).2.2.2.2.1, (f b hb).2.2.2.2.2⟩) (fun b o _ _ hc e _ => k b o hc e) (fun b o _ _ hc e _ => ⟨o.slots, k b o hc e⟩) (fun _ _ _ _ n => n)
  (fun b o hc e => ⟨o, k b o hc e⟩) (fun _ _ e => e) (fun _ _ _ e => e) (fun b ps e => ⟨#[], by rw [e]; simp⟩) (fun m hm => ?_) (fun b u e => ?_) I.bare
 ·obtain ⟨o, es, ep, ho, r⟩ := hm
  exact ⟨o, es, ep, k _ o (fun z => (f _ z).2.1 rfl) ho, r⟩
 ·refine (I.hok b u e).stay (fun c v hc q => k c v ?_ q) (fun _ q => q) fun _ _ q => q
  rcases hc with z | z
  ·rw [z]; exact nit b u e
  ·exact nit c _ z
end
def Itz (K : PySem.W.Frag) (a b : Addr) : It :=
  ⟨fun i H => ∃ xs ys x y, SqL K H a xs /\ SqL K H b ys /\ xs[i]? = some x /\ ys[i]? = some y,
   fun i H v H' => ∃ p x y, v = .ref p /\ H p = none /\ H' = upd H p (.tup [x, y]) /\ (∀ xs, SqL K H a xs -> xs[i]? = some x) /\ (∀ ys, SqL K H b ys -> ys[i]? = some y),
   fun i H => ∃ xs ys, SqL K H a xs /\ SqL K H b ys /\ (xs.length <= i \/ ys.length <= i)⟩
theorem eF {h : Heap} {l c : Addr} {its : Array Value} {o : Obj} {n : String} (hl : h.IsList l its) (hc : h.get? c = some o) (hn : o.cls = .type n) (hd : n ≠ "list") : l ≠ c := by
 rintro rfl
 obtain ⟨q, e, e2, _⟩ := hl
 rw [hc] at e
 cases e
 rw [hn] at e2
 injection e2 with e3
 exact hd e3
theorem Fq {P : Program} {w : World} {K : PySem.W.Frag} {es : List Expr} {k1 : _} {tp : Pos} (a b z TI TO i1 i2 : Addr) (hap : z ≠ TI /\ z ≠ TO /\ z ≠ i1 /\ z ≠ i2 /\ TI ≠ TO /\ TI ≠ i1 /\ TI ≠ i2 /\ TO ≠ i1 /\ TO ≠ i2 /\ i1 ≠ i2) :
  Turn P w K (.Tuple es k1 tp) (Itz K a b) [z, TI, TO, i1, i2] z (fun i h => IsZip h z TI TO .none /\ IsPair h TI (.ref i1) (.ref i2) /\ (∃ x y, IsPair h TO x y) /\ h.IsListIter i1 a i /\ h.IsListIter i2 b i) where
 mem := by simp
 obj := fun i h st c hc => by
  obtain ⟨hz, hTI, ⟨x, y, hTO⟩, h1, h2⟩ := st
  simp only [List.mem_cons, List.not_mem_nil, or_false] at hc
  rcases hc with e | e | e | e | e
  ·subst e; exact ⟨_, hz, fun v z => by simp at z⟩
  ·subst e; exact ⟨_, hTI, fun v z => by simp at z⟩
  ·subst e; exact ⟨_, hTO, fun v z => by simp at z⟩
  ·subst e; obtain ⟨o, e, _, d⟩ := h1; exact ⟨o, e, fun v z => by rw [d] at z; cases z⟩
  ·subst e; obtain ⟨o, e, _, d⟩ := h2; exact ⟨o, e, fun v z => by rw [d] at z; cases z⟩
 keep := fun i h h' st k => by
  obtain ⟨hz, hTI, ⟨x, y, hTO⟩, h1, h2⟩ := st
  exact ⟨k z (by simp) _ hz, k TI (by simp) _ hTI, ⟨x, y, k TO (by simp) _ hTO⟩, h1.at fun o e => k i1 (by simp) o e, h2.at fun o e => k i2 (by simp) o e⟩
 item := by
  intro X hP hw hK hc i pins s σ H E I hf st hg
  subst hP hw hK
  obtain ⟨xs, ys, x, y, q1, q2, hx, hy⟩ := hg
  obtain ⟨hz, hTI, ⟨u0, v0, hTO⟩, h1, h2⟩ := st
  obtain ⟨its1, rv1, p1, _⟩ := I.list q1
  obtain ⟨its2, rv2, p2, _⟩ := I.list q2
  obtain ⟨u, hu, ru⟩ := rv1.get hx
  obtain ⟨v, hv, rv⟩ := rv2.get hy
  obtain ⟨a1, a2, a3, a4, a5, a6, a7, a8, a9, a10⟩ := hap
  have l1 := p1.isList
  have l2 := p2.isList
  have ni : ∀ {l c c' : Addr} {its : Array Value} {j : Nat}, s.heap.IsList l its -> s.heap.IsListIter c c' j -> l ≠ c := fun hl hit => by
   obtain ⟨o, e, e2, _⟩ := hit
   exact eF hl e e2 (by decide)
  have D : ZipApart z TI TO i1 i2 a b := ⟨a1.symm, a2.symm, a3.symm, a4.symm, a5, a6, a7, a8, a9, a10, eF l1 hz rfl (by decide), eF l1 hTO rfl (by decide), ni l1 h1, ni l1 h2, eF l2 hz rfl (by decide), eF l2 hTO rfl (by decide), ni l2 h1, ni l2 h2⟩
  refine wpAny_pyNext_zip_item D hz hTI hTO h1 h2 l1 l2 (by simpa using hu) (by simpa using hv) fun h' b1 b2 b3 b4 b5 b6 b7 => ?_
  refine ⟨_, rfl, wpAny_letOwnedTupleGo_zip b1 fun h'' c1 c2 => ?_⟩
  have kk : ∀ c o, c ∉ [z, TI, TO, i1, i2] -> s.heap.get? c = some o -> h''.get? c = some o := fun c o hc e => by
   simp only [List.mem_cons, List.not_mem_nil, or_false, not_or] at hc
   exact c2.extBut c o hc.1 (b7 c o hc.1 hc.2.2.1 hc.2.2.2.1 hc.2.2.2.2 e)
  have I1 : Inv X pins σ H { s with heap := h'' } := I.turnedL (t' := s.toks) kk hf
  have hzlt : z < s.heap.objs.size := Heap.lt_size hz
  have ht : h''.get? s.heap.objs.size = some { cls := .type "tuple", data := .seq #[u, v] } := c2.extBut _ _ (Nat.ne_of_gt hzlt) b5
  have hn : H s.heap.objs.size = none := I.hok.fresh (Nat.le_refl _)
  have ftr : gK X pins H s.heap.objs.size := I.fpOk (Nat.le_refl _) hn
  have lt : ∀ {c o}, s.heap.get? c = some o -> c ≠ s.heap.objs.size := fun e => Nat.ne_of_lt (Heap.lt_size e)
  refine ⟨.ref s.heap.objs.size, upd H s.heap.objs.size (.tup [x, y]), I1.track ftr ⟨by show 2 <= sizeLine; decide, [u, v], .cons ru (.cons rv .nil), ⟨_, ht, rfl, _, rfl⟩⟩, rfl,
   ⟨_, x, y, rfl, hn, rfl, fun zs hq => by rw [I.list_inj hq q1]; exact hx, fun zs hq => by rw [I.list_inj hq q2]; exact hy⟩,
   ⟨c1, c2.extBut _ _ a1.symm (b7 _ _ a1.symm a5 a6 a7 hTI), ⟨u, v, c2.extBut _ _ a2.symm b2⟩, b3.extBut c2.extBut a3.symm, b4.extBut c2.extBut a4.symm⟩, fun c hc => ?_⟩
  rw [aO]
  ·exact (hf c hc).1
  ·simp only [List.mem_cons, List.not_mem_nil, or_false] at hc
   obtain ⟨o1, e1, _⟩ := h1
   obtain ⟨o2, e2, _⟩ := h2
   rcases hc with e | e | e | e | e
   ·subst e; exact lt hz
   ·subst e; exact lt hTI
   ·subst e; exact lt hTO
   ·subst e; exact lt e1
   ·subst e; exact lt e2
 done := by
  intro X hP hw hK hc i pins s σ H E I hf st hg
  subst hP hw hK
  obtain ⟨xs, ys, q1, q2, hend⟩ := hg
  obtain ⟨hz, hTI, ⟨u0, v0, hTO⟩, h1, h2⟩ := st
  obtain ⟨its1, rv1, p1, _⟩ := I.list q1
  obtain ⟨its2, rv2, p2, _⟩ := I.list q2
  obtain ⟨a1, a2, a3, a4, a5, a6, a7, a8, a9, a10⟩ := hap
  have l1 := p1.isList
  have l2 := p2.isList
  have ni : ∀ {l c c' : Addr} {its : Array Value} {j : Nat}, s.heap.IsList l its -> s.heap.IsListIter c c' j -> l ≠ c := fun hl hit => by
   obtain ⟨o, e, e2, _⟩ := hit
   exact eF hl e e2 (by decide)
  have D : ZipApart z TI TO i1 i2 a b := ⟨a1.symm, a2.symm, a3.symm, a4.symm, a5, a6, a7, a8, a9, a10, eF l1 hz rfl (by decide), eF l1 hTO rfl (by decide), ni l1 h1, ni l1 h2, eF l2 hz rfl (by decide), eF l2 hTO rfl (by decide), ni l2 h1, ni l2 h2⟩
  have e1 := rv1.length
  have e2 := rv2.length
  refine wpAny_pyNext_zip_end (I.ok.hd hc) D hz hTI hTO h1 h2 l1 l2 (by
   rcases hend with h | h
   ·left; simp; omega
   ·right; simp; omega) fun h' kk => ⟨rfl, ?_⟩
  exact I.turnedL (t' := s.toks) (fun c o hc e => by
   simp only [List.mem_cons, List.not_mem_nil, or_false, not_or] at hc
   exact kk c o hc.1 hc.2.2.1 hc.2.2.2.1 hc.2.2.2.2 e) hf
 self := fun _ _ _ _ _ st h => wpAny_pyIter_zip st.1 h
def Im (K : PySem.W.Frag) (ta : TA) : TI := fun σ H R => ta σ H fun vs H1 => ∃ a b, vs = [.ref a, .ref b] /\ (∃ xs, SqL K H1 a xs) /\ (∃ ys, SqL K H1 b ys) /\ R (Itz K a b) H1
theorem JB {X : Cx} {es : List Expr} {k1 : _} {tp : Pos} {a b : Expr} {ta : TA} {p pos : Pos} (hg : Gl X "zip") (hm : X.mg "zip" = none) (ha : PA X [a, b] ta) (hs : starEach [a, b] X.env = [(false, eval a X.env), (false, eval b X.env)] := by rfl) (hs2 : starEach [b] X.env = [(false, eval b X.env)] := by rfl) :
  PI X (.Tuple es k1 tp) (.Call (.Name "zip" p) [a, b] [] pos) (Im X.K ta) := by
 intro pins s σ H R I h
 refine Call_ (jc I hg hm boot_zip (PyProof.Rows.callWith_type1 (thn (ha pos pins s σ H _ I h) fun us s1 ⟨vs, H1, I1, r1, q1⟩ => ?_) (by rw [hs, hs2]) (by rw [hs2]; rfl)))
 obtain ⟨l1, l2, e, ⟨xs, hx⟩, ⟨ys, hy⟩, q⟩ := q1
 subst e
 cases r1 with
 | cons r rr =>
  cases rr with
  | cons r' rr =>
   cases rr
   cases r
   cases r'
   obtain ⟨its1, rv1, p1, _⟩ := I1.list hx
   obtain ⟨its2, rv2, p2, _⟩ := I1.list hy
   refine call_zip_2 p1.isList p2.isList fun h' c1 c2 c3 c4 c5 c6 c7 => ?_
   have I2 : Inv X pins σ H1 { s1 with heap := h' } := I1.kept (t' := s1.toks) c7
   refine wpAny_pyIter_zip (s := { s1 with heap := h' }) c1 ?_
   refine ⟨_, _, _, _, H1, rfl, I2, Fq l1 l2 _ (s1.heap.objs.size + 2) (s1.heap.objs.size + 3) s1.heap.objs.size (s1.heap.objs.size + 1) ?_, ⟨c1, c2, ⟨_, _, c3⟩, c4, c5⟩, fun c hc => ?_, q⟩
   ·refine ⟨?_, ?_, ?_, ?_, ?_, ?_, ?_, ?_, ?_, ?_⟩ <;> (intro z; have z' : (_ : Nat) = _ := z; omega)
   ·simp only [List.mem_cons, List.not_mem_nil, or_false] at hc
    have hle : s1.heap.objs.size <= c := by
     rcases hc with e | e | e | e | e <;> (subst e; first | exact Nat.le_refl _ | exact Nat.le_add_right _ _)
    exact I1.fpOk hle (I1.hok.fresh hle)
theorem zZ {K : PySem.W.Frag} {a b : Addr} {xs ys : List V} {g : TG} {tb : TS} {D : Ends} {σ : St} {H : Hp} (Pv : Nat -> St -> Hp -> Prop) (h0 : Pv 0 σ H) (hl : ∀ i σ H, Pv i σ H -> SqL K H a xs /\ SqL K H b ys)
  (hs : ∀ i x y p σ H, xs[i]? = some x -> ys[i]? = some y -> H p = none -> Pv i σ H -> g (.ref p) σ (upd H p (.tup [x, y])) fun σ2 H2 => tb { D with nx := Pv (i + 1), ct := Pv (i + 1), bk := D.nx } σ2 H2) (hd : ∀ σ H, Pv (min xs.length ys.length) σ H -> D.nx σ H) :
  ∃ W : Nat -> Nat -> St -> Hp -> Prop, (∃ m, W 0 m σ H) /\ ∀ i m σ H, W i m σ H ->
   ((Itz K a b).stop i H /\ D.nx σ H) \/ ((Itz K a b).go i H /\ ∃ N : St -> Hp -> Prop, (∀ σ' H', N σ' H' -> ∃ m', m' < m /\ W (i + 1) m' σ' H') /\ ∀ x H', (Itz K a b).yld i H x H' -> g x σ H' fun σ2 H2 => tb { D with nx := N, ct := N, bk := D.nx } σ2 H2) := by
 refine ⟨fun i m σ H => m = min xs.length ys.length - i /\ i <= min xs.length ys.length /\ Pv i σ H, ⟨_, rfl, Nat.zero_le _, h0⟩, ?_⟩
 rintro i m σ H ⟨rfl, hi, p⟩
 obtain ⟨q1, q2⟩ := hl i σ H p
 by_cases hlt : i < min xs.length ys.length
 ·have h1 : i < xs.length := by omega
  have h2 : i < ys.length := by omega
  refine .inr ⟨⟨xs, ys, xs[i], ys[i], q1, q2, by simp [h1], by simp [h2]⟩, Pv (i + 1), fun σ' H' p' => ⟨min xs.length ys.length - (i + 1), by omega, rfl, hlt, p'⟩, fun x H' y => ?_⟩
  obtain ⟨r, u, v, rfl, hn, rfl, e1, e2⟩ := y
  exact hs i u v r σ H (e1 xs q1) (e2 ys q2) hn p
 ·have e : i = min xs.length ys.length := by omega
  subst e
  exact .inl ⟨⟨xs, ys, q1, q2, by omega⟩, hd σ H p⟩
theorem Eu {K : PySem.W.Frag} {a b : Addr} {xs ys : List V} {g : TG} {tt : TT} {te : TE} {σc : St} {H : Hp} {Fin : List V -> Hp -> Prop} (Pv : Nat -> List V -> Hp -> Prop) (h0 : Pv 0 [] H) (hl : ∀ i zs H, Pv i zs H -> SqL K H a xs /\ SqL K H b ys /\ zs.length <= i) (hz : xs.length <= sizeLine)
  (hs : ∀ i x y p zs H, xs[i]? = some x -> ys[i]? = some y -> H p = none -> Pv i zs H -> g (.ref p) σc (upd H p (.tup [x, y])) fun σ2 H2 => tt σ2 H2 fun b H3 => if b = true then te σ2 H3 fun y H4 => Pv (i + 1) (zs ++ [y]) H4 else Pv (i + 1) zs H3)
  (hd : ∀ zs H, Pv (min xs.length ys.length) zs H -> Fin zs H) : d7 (Itz K a b) g tt te σc H Fin := by
 refine ⟨fun i m zs H => m = min xs.length ys.length - i /\ i <= min xs.length ys.length /\ Pv i zs H, ⟨_, rfl, Nat.zero_le _, h0⟩, ?_⟩
 rintro i m zs H ⟨rfl, hi, p⟩
 obtain ⟨q1, q2, hy⟩ := hl i zs H p
 by_cases hlt : i < min xs.length ys.length
 ·have h1 : i < xs.length := by omega
  have h2 : i < ys.length := by omega
  refine .inr ⟨⟨xs, ys, xs[i], ys[i], q1, q2, by simp [h1], by simp [h2]⟩, by omega, Pv (i + 1), fun ys' H' p' => ⟨min xs.length ys.length - (i + 1), by omega, rfl, hlt, p'⟩, fun x H' y => ?_⟩
  obtain ⟨r, u, v, rfl, hn, rfl, e1, e2⟩ := y
  exact hs i u v r zs H (e1 xs q1) (e2 ys q2) hn p
 ·have e : i = min xs.length ys.length := by omega
  subst e
  exact .inl ⟨⟨xs, ys, q1, q2, by omega⟩, hd zs H p⟩
def Ite (K : PySem.W.Frag) (a : Addr) : It :=
  ⟨fun i H => ∃ xs x, SqL K H a xs /\ xs[i]? = some x,
   fun i H v H' => ∃ p x, v = .ref p /\ H p = none /\ H' = upd H p (.tup [.int i, x]) /\ (∀ xs, SqL K H a xs -> xs[i]? = some x),
   fun i H => ∃ xs, SqL K H a xs /\ xs.length <= i⟩
theorem Cd {P : Program} {w : World} {K : PySem.W.Frag} {es : List Expr} {k1 : _} {tp : Pos} (a e it : Addr) (hap : e ≠ it) :
  Turn P w K (.Tuple es k1 tp) (Ite K a) [e, it] e (fun i h => (∃ old, IsEnum h e it ((i : Nat) : Int) old) /\ h.IsListIter it a i) where
 mem := by simp
 obj := fun i h st c hc => by
  obtain ⟨⟨old, he⟩, h1⟩ := st
  simp only [List.mem_cons, List.not_mem_nil, or_false] at hc
  rcases hc with q | q
  ·subst q; exact ⟨_, he, fun v z => by simp at z⟩
  ·subst q; obtain ⟨o, e, _, d⟩ := h1; exact ⟨o, e, fun v z => by rw [d] at z; cases z⟩
 keep := fun i h h' st k => by
  obtain ⟨⟨old, he⟩, h1⟩ := st
  exact ⟨⟨old, k e (by simp) _ he⟩, h1.at fun o q => k it (by simp) o q⟩
 item := by
  intro X hP hw hK hc i pins s σ H E I hf st hg
  subst hP hw hK
  obtain ⟨xs, x, q1, hx⟩ := hg
  obtain ⟨⟨old, he⟩, h1⟩ := st
  obtain ⟨its1, rv1, p1, _⟩ := I.list q1
  obtain ⟨u, hu, ru⟩ := rv1.get hx
  have l1 := p1.isList
  refine wpAny_pyNext_enum_item he h1 l1 (by simpa using hu) hap fun h' b1 b2 b3 b4 b5 => ?_
  refine ⟨_, rfl, wpAny_letOwnedTupleGo_enum b1 fun h'' c1 c2 => ?_⟩
  have kk : ∀ c o, c ∉ [e, it] -> s.heap.get? c = some o -> h''.get? c = some o := fun c o hc q => by
   simp only [List.mem_cons, List.not_mem_nil, or_false, not_or] at hc
   exact c2.extBut c o hc.1 (b5 c o hc.1 hc.2 q)
  have I1 : Inv X pins σ H { s with heap := h'', toks := s.toks + 1 } := I.turnedL (t' := s.toks + 1) kk hf
  have hzlt : e < s.heap.objs.size := Heap.lt_size he
  have ht : h''.get? s.heap.objs.size = some { cls := .type "tuple", data := .seq #[.int i s.toks, u] } := c2.extBut _ _ (Nat.ne_of_gt hzlt) b3
  have hn : H s.heap.objs.size = none := I.hok.fresh (Nat.le_refl _)
  have ftr : gK X pins H s.heap.objs.size := I.fpOk (Nat.le_refl _) hn
  have lt : ∀ {c o}, s.heap.get? c = some o -> c ≠ s.heap.objs.size := fun e => Nat.ne_of_lt (Heap.lt_size e)
  refine ⟨.ref s.heap.objs.size, upd H s.heap.objs.size (.tup [.int i, x]), I1.track ftr ⟨by show 2 <= sizeLine; decide, [.int i s.toks, u], .cons ⟨_, rfl⟩ (.cons ru .nil), ⟨_, ht, rfl, _, rfl⟩⟩, rfl,
   ⟨_, x, rfl, hn, rfl, fun zs hq => by rw [I.list_inj hq q1]; exact hx⟩, ⟨⟨u, ?_⟩, b2.extBut c2.extBut hap.symm⟩, fun c hc => ?_⟩
  ·have e1 : ((i + 1 : Nat) : Int) = (i : Int) + 1 := by push_cast; rfl
   rw [e1]
   exact c1
  ·rw [aO]
   ·exact (hf c hc).1
   ·simp only [List.mem_cons, List.not_mem_nil, or_false] at hc
    obtain ⟨o1, e1, _⟩ := h1
    rcases hc with q | q
    ·subst q; exact lt he
    ·subst q; exact lt e1
 done := by
  intro X hP hw hK hc i pins s σ H E I hf st hg
  subst hP hw hK
  obtain ⟨xs, q1, hend⟩ := hg
  obtain ⟨⟨old, he⟩, h1⟩ := st
  obtain ⟨its1, rv1, p1, _⟩ := I.list q1
  have e1 := rv1.length
  refine wpAny_pyNext_enum_end (I.ok.hd hc) he h1 p1.isList (by simp; omega) fun h' kk => ⟨rfl, ?_⟩
  exact I.turnedL (t' := s.toks) (fun c o hc q => by
   simp only [List.mem_cons, List.not_mem_nil, or_false, not_or] at hc
   exact kk c o hc.2 q) hf
 self := fun _ _ _ _ _ st h => by
  obtain ⟨⟨old, he⟩, h1⟩ := st
  exact wpAny_pyIter_enum he h
def GD (K : PySem.W.Frag) (ta : TA) : TI := fun σ H R => ta σ H fun vs H1 => ∃ a xs, vs = [.ref a] /\ H1 a = some (.lst xs) /\ R (Ite K a) H1
theorem Hk {X : Cx} {es : List Expr} {k1 : _} {tp : Pos} {a : Expr} {ta : TA} {p pos : Pos} (hg : Gl X "enumerate") (hm : X.mg "enumerate" = none) (ha : PA X [a] ta) (hs : starEach [a] X.env = [(false, eval a X.env)] := by rfl) :
  PI X (.Tuple es k1 tp) (.Call (.Name "enumerate" p) [a] [] pos) (GD X.K ta) := by
 intro pins s σ H R I h
 refine Call_ (jc I hg hm boot_enumerate (PyProof.Rows.callWith_type1 (thn (ha pos pins s σ H _ I h) fun us s1 ⟨vs, H1, I1, r1, q1⟩ => ?_) hs rfl))
 obtain ⟨l1, xs, e, hx, q⟩ := q1
 subst e
 cases r1 with
 | cons r rr =>
  cases rr
  cases r
  obtain ⟨_, its, n, rv, ho⟩ := (show ObjOk X.prog X.w H1 s1.heap l1 (.lst xs) from I1.hok l1 _ hx)
  refine call_enumerate_1 ho fun h' c1 c2 c3 c4 => ?_
  have I2 : Inv X pins σ H1 { s1 with heap := h' } := I1.kept (t' := s1.toks) c4
  refine wpAny_pyIter_enum (s := { s1 with heap := h' }) c1 ?_
  refine ⟨_, _, _, _, H1, rfl, I2, Cd l1 _ s1.heap.objs.size (by intro z; have z' : (_ : Nat) = _ := z; omega), ⟨⟨_, c1⟩, c2⟩, fun c hc => ?_, q⟩
  simp only [List.mem_cons, List.not_mem_nil, or_false] at hc
  have hle : s1.heap.objs.size <= c := by
   rcases hc with e | e <;> (subst e; first | exact Nat.le_refl _ | exact Nat.le_add_right _ _)
  exact I1.fpOk hle (I1.hok.fresh hle)
theorem C_ {K : PySem.W.Frag} {a : Addr} {xs : List V} {g : TG} {tt : TT} {te : TE} {σc : St} {H : Hp} {Fin : List V -> Hp -> Prop} (Pv : Nat -> List V -> Hp -> Prop) (h0 : Pv 0 [] H) (hl : ∀ i zs H, Pv i zs H -> SqL K H a xs /\ zs.length <= i) (hz : xs.length <= sizeLine)
  (hs : ∀ i x p zs H, xs[i]? = some x -> H p = none -> Pv i zs H -> g (.ref p) σc (upd H p (.tup [.int i, x])) fun σ2 H2 => tt σ2 H2 fun b H3 => if b = true then te σ2 H3 fun y H4 => Pv (i + 1) (zs ++ [y]) H4 else Pv (i + 1) zs H3)
  (hd : ∀ zs H, Pv xs.length zs H -> Fin zs H) : d7 (Ite K a) g tt te σc H Fin := by
 refine ⟨fun i m zs H => m = xs.length - i /\ i <= xs.length /\ Pv i zs H, ⟨_, rfl, Nat.zero_le _, h0⟩, ?_⟩
 rintro i m zs H ⟨rfl, hi, p⟩
 obtain ⟨q1, hy⟩ := hl i zs H p
 by_cases hlt : i < xs.length
 ·refine .inr ⟨⟨xs, xs[i], q1, by simp [hlt]⟩, by omega, Pv (i + 1), fun ys' H' p' => ⟨xs.length - (i + 1), by omega, rfl, hlt, p'⟩, fun x H' y => ?_⟩
  obtain ⟨r, u, rfl, hn, rfl, e1⟩ := y
  exact hs i u r zs H (e1 xs q1) hn p
 ·have e : i = xs.length := by omega
  subst e
  exact .inl ⟨⟨xs, q1, by omega⟩, hd zs H p⟩
inductive AllInts : List Expr -> List Int -> Prop
 | nil : AllInts [] []
 | cons {i : Int} {j : Nat} {pos : Pos} {es : List Expr} {is : List Int} : AllInts es is -> AllInts (.Constant (.int i) j pos :: es) (i :: is)
def Mh (is : List Int) : TA := fun _ H Q => Q (is.map V.int) H
section
variable {X : Cx} {tg : Expr}
theorem ixL (K : PySem.W.Frag) (h : X.K = K := by rfl) : IxR X (Et K) := by subst h; exact HR
theorem ixT (K : PySem.W.Frag) (h : X.K = K := by rfl) : IxR X (Fl K) := by subst h; exact Jp
theorem slL (K : PySem.W.Frag) (h : X.K = K := by rfl) : SlR X (Ja K) := by subst h; exact G6
theorem t_ (K : PySem.W.Frag) (hu : X.A.units + 64 < cLine) (h : X.K = K := by rfl) : OpR X (compareOp .Eq) (Jv K) := by subst h; exact Ij hu
theorem Bm (K : PySem.W.Frag) (hu : X.A.units + 64 < cLine) (h : X.K = K := by rfl) : OpR X (compareOp .NotEq) (FQ K) := by subst h; exact Ih hu
def Kl (K : PySem.W.Frag) : List V -> Hp -> VK -> Prop := fun xs H Q => ∃ x t T b, xs = [x, .ty T] /\ TyOf K H x t /\ PySem.W.kitOne K t (.type T) = some b /\ Q (.bl b) H
def Ky (K : PySem.W.Frag) : List V -> Hp -> VK -> Prop := fun xs H Q => ∃ p ys, xs = [.ref p] /\ (SqL K H p ys \/ SqT K H p ys) /\ Q (.int ys.length) H
def G5 (K : PySem.W.Frag) : List V -> Hp -> VK -> Prop := fun xs H Q => ∃ p ys, xs = [.ref p] /\ (SqL K H p ys \/ SqT K H p ys) /\ ∀ l, H l = none -> Q (.ref l) (upd H l (.lst ys))
def K3 (K : PySem.W.Frag) : List V -> Hp -> VK -> Prop := fun xs H Q => ∃ (a : Addr) (bs : List Bool), xs = [.ref a] /\ SqL K H a (bs.map V.bl) /\ Q (.bl (bs.all id)) H
def Kf (K : PySem.W.Frag) : List V -> Hp -> VK -> Prop := fun xs H Q => ∃ (a : Addr) (bs : List Bool), xs = [.ref a] /\ SqL K H a (bs.map V.bl) /\ Q (.bl (bs.any id)) H
def Mv (K : PySem.W.Frag) : List V -> Hp -> VK -> Prop := fun xs H Q => ∃ (a : Addr) (ns : List Int), xs = [.ref a] /\ SqL K H a (ns.map V.int) /\ Q (.int ns.sum) H
def KR (K : PySem.W.Frag) : List V -> Hp -> VK -> Prop := fun xs H Q => ∃ (a : Addr) (ns : List Int), xs = [.ref a] /\ SqL K H a (ns.map V.int) /\ ns ≠ [] /\ Q (.int (lB ns)) H
def Ks (K : PySem.W.Frag) : List V -> Hp -> VK -> Prop := fun xs H Q => ∃ (a : Addr) (ns : List Int), xs = [.ref a] /\ SqL K H a (ns.map V.int) /\ ns ≠ [] /\ Q (.int (lC ns)) H
theorem ji (K : PySem.W.Frag) (h : X.K = K := by rfl) : CallR X (.builtin "isinstance") (Kl K) := by subst h; exact zj
theorem bZ (K : PySem.W.Frag) (h : X.K = K := by rfl) : CallR X (.builtin "len") (Ky K) := by subst h; exact ww
theorem uz (K : PySem.W.Frag) (h : X.K = K := by rfl) : CallR X (.type "list") (G5 K) := by subst h; exact yD
theorem mJ (K : PySem.W.Frag) (hc : X.calm = true := by rfl) (h : X.K = K := by rfl) : CallR X (.builtin "all") (K3 K) := by subst h; exact Fe hc
theorem Kz (K : PySem.W.Frag) (hc : X.calm = true := by rfl) (h : X.K = K := by rfl) : CallR X (.builtin "any") (Kf K) := by subst h; exact Gb hc
theorem Jm (K : PySem.W.Frag) (hc : X.calm = true := by rfl) (h : X.K = K := by rfl) : CallR X (.builtin "max") (KR K) := by subst h; exact Fp hc
theorem Jr (K : PySem.W.Frag) (hc : X.calm = true := by rfl) (h : X.K = K := by rfl) : CallR X (.builtin "min") (Ks K) := by subst h; exact Fd hc
theorem piL (K : PySem.W.Frag) {l : Expr} {tl : TE} (hl : PE X l tl) (h : X.K = K := by rfl) : PI X tg l (Gp K tl) := by subst h; exact G4 hl
theorem pgT (K : PySem.W.Frag) {es : List Expr} {k : Nat} {t : TGs} {n : Nat} {pos : Pos} (h : PGs X es t) (hc : X.calm = true := by rfl) (hn : (assignEach es X.env).length = n := by rfl) (hst : (assignEach es X.env).findIdx? (·.1) = none := by rfl) (hK : X.K = K := by rfl) :
  PG X (.Tuple es k pos) (JG K n t) := by subst hK; exact Ie hc h hn hst
theorem Ba (K : PySem.W.Frag) {es : List Expr} {k1 : _} {tp : Pos} {a b : Expr} {ta : TA} {p pos : Pos} (hg : Gl X "zip") (hm : X.mg "zip" = none) (ha : PA X [a, b] ta) (hs : starEach [a, b] X.env = [(false, eval a X.env), (false, eval b X.env)] := by rfl) (hs2 : starEach [b] X.env = [(false, eval b X.env)] := by rfl)
  (hK : X.K = K := by rfl) : PI X (.Tuple es k1 tp) (.Call (.Name "zip" p) [a, b] [] pos) (Im K ta) := by subst hK; exact JB hg hm ha hs hs2
theorem Jk (K : PySem.W.Frag) {es : List Expr} {k1 : _} {tp : Pos} {a : Expr} {ta : TA} {p pos : Pos} (hg : Gl X "enumerate") (hm : X.mg "enumerate" = none) (ha : PA X [a] ta) (hs : starEach [a] X.env = [(false, eval a X.env)] := by rfl)
  (hK : X.K = K := by rfl) : PI X (.Tuple es k1 tp) (.Call (.Name "enumerate" p) [a] [] pos) (GD K ta) := by subst hK; exact Hk hg hm ha hs
theorem peI {x : Str} {i : Int} {pos : Pos} (hm : ∃ t, X.mg x = some (.int i t)) (hg : Gl X x) (hd : (x == ("__debug__" : Str)) = false := by decide) : PE X (.Name x pos) (tC (.int i)) := by
 obtain ⟨t, hm⟩ := hm
 exact Ah hg hm ⟨t, rfl⟩ hd
end
end L2
set_option maxRecDepth 100000
namespace Fr
def mk (a b : Int) : Int × Int := (a / (Int.gcd a b : Int), b / (Int.gcd a b : Int))
theorem gcd_pos {a b : Int} (h : 0 < b) : 0 < (Int.gcd a b : Int) := by
 have : 0 < Int.gcd a b := Int.gcd_pos_of_ne_zero_right a (by omega)
 omega
theorem gcd_le {a b : Int} (h : 0 < b) : (Int.gcd a b : Int) <= b := Int.le_of_dvd h (Int.gcd_dvd_right a b)
theorem jR {a b : Int} : (mk a b).1 * (Int.gcd a b : Int) = a := Int.ediv_mul_cancel (Int.gcd_dvd_left a b)
theorem jd {a b : Int} : (mk a b).2 * (Int.gcd a b : Int) = b := Int.ediv_mul_cancel (Int.gcd_dvd_right a b)
theorem mk_pos {a b : Int} (h : 0 < b) : 0 < (mk a b).2 := by
 have h1 := gcd_pos (a := a) h
 have h2 := jd (a := a) (b := b)
 rcases Int.lt_or_le 0 (mk a b).2 with h3 | h3
 ·exact h3
 ·have h4 : (mk a b).2 * (Int.gcd a b : Int) <= 0 := Int.mul_nonpos_of_nonpos_of_nonneg h3 (by omega)
  omega
theorem mk_snd_le {a b : Int} (h : 0 < b) : (mk a b).2 <= b := by
 have h1 := gcd_pos (a := a) h
 have h2 := jd (a := a) (b := b)
 have h3 := mk_pos (a := a) h
 have h4 : (mk a b).2 * 1 <= (mk a b).2 * (Int.gcd a b : Int) := Int.mul_le_mul_of_nonneg_left (by omega) (by omega)
 omega
theorem mk_fst_le {a b : Int} (h : 0 < b) : (mk a b).1.natAbs <= a.natAbs := by
 have h1 := gcd_pos (a := a) h
 have h2 := congrArg Int.natAbs (jR (a := a) (b := b))
 rw [Int.natAbs_mul] at h2
 rw [<- h2]
 exact Nat.le_mul_of_pos_right _ (by omega)
theorem wD {a b k : Int} (hk : 0 < k) : mk (a * k) (b * k) = mk a b := by
 have e : (Int.gcd (a * k) (b * k) : Int) = (Int.gcd a b : Int) * k := by
  rw [Int.gcd_mul_right]
  have : (k.natAbs : Int) = k := Int.natAbs_of_nonneg (by omega)
  rw [Int.natCast_mul, this]
 unfold mk
 rw [e, Int.mul_ediv_mul_of_pos_left _ _ hk, Int.mul_ediv_mul_of_pos_left _ _ hk]
theorem mk_add {a b c d : Int} (hb : 0 < b) (hd : 0 < d) : mk ((mk a b).1 * (mk c d).2 + (mk c d).1 * (mk a b).2) ((mk a b).2 * (mk c d).2) = mk (a * d + c * b) (b * d) := by
 have h1 := jR (a := a) (b := b)
 have h2 := jd (a := a) (b := b)
 have h3 := jR (a := c) (b := d)
 have h4 := jd (a := c) (b := d)
 have g1 := gcd_pos (a := a) hb
 have g2 := gcd_pos (a := c) hd
 generalize (mk a b).1 = x at *
 generalize (mk a b).2 = y at *
 generalize (mk c d).1 = z at *
 generalize (mk c d).2 = w at *
 generalize (Int.gcd a b : Int) = g at *
 generalize (Int.gcd c d : Int) = g' at *
 have e1 : a * d + c * b = (x * w + z * y) * (g * g') := by
  rw [<- h1, <- h2, <- h3, <- h4, Int.add_mul]
  congr 1
  ·rw [Int.mul_assoc, Int.mul_assoc]; congr 1; rw [Int.mul_left_comm]
  ·rw [Int.mul_assoc, Int.mul_assoc]; congr 1; rw [Int.mul_left_comm g' y g, Int.mul_comm g' g]
 have e2 : b * d = (y * w) * (g * g') := by
  rw [<- h2, <- h4, Int.mul_assoc, Int.mul_assoc]; congr 1; rw [Int.mul_left_comm]
 rw [e1, e2, wD (Int.mul_pos g1 g2)]
theorem mk_lt {a b c d : Int} (hb : 0 < b) (hd : 0 < d) : decide ((mk a b).1 * (mk c d).2 < (mk c d).1 * (mk a b).2) = decide (a * d < c * b) := by
 have h1 := jR (a := a) (b := b)
 have h2 := jd (a := a) (b := b)
 have h3 := jR (a := c) (b := d)
 have h4 := jd (a := c) (b := d)
 have g1 := gcd_pos (a := a) hb
 have g2 := gcd_pos (a := c) hd
 generalize (mk a b).1 = x at *
 generalize (mk a b).2 = y at *
 generalize (mk c d).1 = z at *
 generalize (mk c d).2 = w at *
 generalize (Int.gcd a b : Int) = g at *
 generalize (Int.gcd c d : Int) = g' at *
 have e1 : a * d = (x * w) * (g * g') := by
  rw [<- h1, <- h4, Int.mul_assoc, Int.mul_assoc]; congr 1; rw [Int.mul_left_comm]
 have e2 : c * b = (z * y) * (g * g') := by
  rw [<- h2, <- h3, Int.mul_assoc, Int.mul_assoc]; congr 1; rw [Int.mul_left_comm g' y g, Int.mul_comm g' g]
 have hp : 0 < g * g' := Int.mul_pos g1 g2
 rw [e1, e2]
 exact decide_eq_decide.mpr ⟨fun h => Int.mul_lt_mul_of_pos_right h hp, fun h => Int.lt_of_mul_lt_mul_right h (by omega)⟩
def draw (c k m : Int) : Int := ((c % 1000000007 * 48271 + k * 69621 + 7) % 1000000007) * ((c % 1000000007 * 48271 + k * 69621 + 7) % 1000000007) / 1013 % 1000003 % m
theorem gcd_step (l r : Int) : Int.gcd r (l % r) = Int.gcd l r := by
 rw [Int.gcd_comm r (l % r)]
 have h := Int.gcd_add_mul_left_left r (l % r) (l / r)
 rw [Int.emod_add_mul_ediv] at h
 exact h.symm
end Fr
set_option Elab.async false
set_option linter.all false
set_option maxRecDepth 100000
namespace L2
open PySem PySem.Spec PyProof.Rows
theorem aq {H : Hp} {p : Addr} {o : HO} (h : H p = none) : Same H (upd H p o) := fun c u e => by
 rw [aO (bh e h)]
 exact e
theorem eE {H H1 : Hp} {p : Addr} {o : HO} (e : Same H H1) (h : H p = none) : Same H (upd H1 p o) := fun c u q => by
 rw [aO (bh q h)]
 exact e c u q
theorem zU {Q : VK} {H : Hp} {c : Prop} [Decidable c] (hc : c) (k : Q (.bl true) H) : Q (.bl (decide c)) H := by
 rw [decide_eq_true hc]
 exact k
structure New (H H' : Hp) (p : Addr) (o : HO) : Prop where
 new : H p = none
 is : H' p = some o
 same : Same H H'
theorem New.of {H H1 : Hp} {p : Addr} {o : HO} (s : Same H H1) (h : H1 p = none) : New H (upd H1 p o) p o := ⟨s.free h, az, s.trans (aq h)⟩
theorem New.pre {H H1 H2 : Hp} {p : Addr} {o : HO} (s : Same H H1) (n : New H1 H2 p o) : New H H2 p o := ⟨s.free n.new, n.is, s.trans n.same⟩
theorem New.post {H H1 H2 : Hp} {p : Addr} {o : HO} (n : New H H1 p o) (s : Same H1 H2) : New H H2 p o := ⟨n.new, s _ _ n.is, n.same.trans s⟩
end L2
namespace PySem
theorem Paired.get2 {α β : Type} {F : α -> β -> Prop} : ∀ {l₁ : List α} {l₂ : List β} {i : Nat} {x : α}, Paired F l₁ l₂ -> l₁[i]? = some x -> ∃ y, l₂[i]? = some y /\ F x y
 | _, _, i, x, .nil, e => by simp at e
 | _, _, 0, x, .cons h _, e => by
  simp at e
  subst e
  exact ⟨_, rfl, h⟩
 | _, _, i + 1, x, .cons _ t, e => by simpa using Paired.get2 (i := i) t (by simpa using e)
theorem Paired.at2 {α β : Type} {F : α -> β -> Prop} : ∀ {l₁ : List α} {l₂ : List β} {i : Nat} {y : β}, Paired F l₁ l₂ -> l₂[i]? = some y -> ∃ x, l₁[i]? = some x /\ F x y
 | _, _, i, x, .nil, e => by simp at e
 | _, _, 0, x, .cons h _, e => by
  simp at e
  subst e
  exact ⟨_, rfl, h⟩
 | _, _, i + 1, x, .cons _ t, e => by simpa using Paired.at2 (i := i) t (by simpa using e)
theorem Paired.mem2 {α β : Type} {F : α -> β -> Prop} {l₁ : List α} {l₂ : List β} {x : α} (p : Paired F l₁ l₂) (h : x ∈ l₁) : ∃ y ∈ l₂, F x y := by
 obtain ⟨i, hi, rfl⟩ := List.getElem_of_mem h
 obtain ⟨y, e, f⟩ := p.get2 (List.getElem?_eq_getElem hi)
 exact ⟨y, List.mem_of_getElem? e, f⟩
theorem Paired.app2 {α β : Type} {F : α -> β -> Prop} : ∀ {l₁ m₁ : List α} {l₂ m₂ : List β}, Paired F l₁ l₂ -> Paired F m₁ m₂ -> Paired F (l₁ ++ m₁) (l₂ ++ m₂)
 | _, _, _, _, .nil, q => q
 | _, _, _, _, .cons h t, q => .cons h (Paired.app2 t q)
theorem Paired.imp2 {α β : Type} {F G : α -> β -> Prop} {l₁ : List α} {l₂ : List β} (r : Paired F l₁ l₂) (f : ∀ a b, F a b -> G a b) : Paired G l₁ l₂ := L2.Paired.mapP r f
end PySem
namespace L2
open PySem PySem.Spec PyProof.Rows
theorem bQ {K : PySem.W.Frag} {a : Addr} {xs : List V} {te : TE} {σc : St} {H : Hp} {Fin : List V -> Hp -> Prop} (R : V -> V -> Hp -> Prop) (hR : ∀ x y H1 H2, Same H1 H2 -> R x y H1 -> R x y H2) (hl : SqL K H a xs) (hz : xs.length <= sizeLine)
  (hs : ∀ x ∈ xs, ∀ H1, Same H H1 -> ∀ Q : VK, (∀ y H2, Same H1 H2 -> R x y H2 -> Q y H2) -> te (σc.set 0 (some x)) H1 Q) (hd : ∀ ys H', Same H H' -> Paired (fun x y => R x y H') xs ys -> Fin ys H') : d7 (Itl K a) (ik 0) mO te σc H Fin := by
 refine Dj (xs := xs) (fun i ys H' => Same H H' /\ Paired (fun x y => R x y H') (xs.take i) ys) ⟨Same.refl _, by simpa using Paired.nil⟩ (fun i ys H' hi h => ?_) hz (fun i x ys H' hx h => ?_) (fun ys H' h => ?_)
 ·refine ⟨h.1.seq hl, ?_⟩
  have := h.2.length
  rw [List.length_take] at this
  omega
 ·refine Df ?_
  refine hs x (List.mem_of_getElem? hx) H' h.1 _ fun y H2 s2 r => ⟨h.1.trans s2, ?_⟩
  rw [List.take_add_one, hx]
  exact (h.2.imp2 fun x y q => hR x y _ _ s2 q).app2 (.cons r .nil)
 ·exact hd ys H' h.1 (by simpa using h.2)
theorem kO {n : Nat} {te : TE} {σc : St} {H : Hp} {Fin : List V -> Hp -> Prop} (R : Nat -> V -> Hp -> Prop) (hR : ∀ x y H1 H2, Same H1 H2 -> R x y H1 -> R x y H2) (hz : n <= sizeLine)
  (hs : ∀ i, i < n -> ∀ H1, Same H H1 -> ∀ Q : VK, (∀ y H2, Same H1 H2 -> R i y H2 -> Q y H2) -> te (σc.set 0 (some (.int i))) H1 Q) (hd : ∀ ys H', Same H H' -> Paired (fun x y => R x y H') (List.range n) ys -> Fin ys H') : d7 (Itr 0 n) (ik 0) mO te σc H Fin := by
 refine Bv (n := n) (fun i ys H' => Same H H' /\ Paired (fun x y => R x y H') (List.range i) ys) ⟨Same.refl _, Paired.nil⟩ (fun i ys H' hi h => ?_) hz (fun i ys H' hx h => ?_) (fun ys H' h => ?_)
 ·have := h.2.length
  rw [List.length_range] at this
  omega
 ·rw [Int.zero_add]
  refine Df ?_
  refine hs i hx H' h.1 _ fun y H2 s2 r => ⟨h.1.trans s2, ?_⟩
  rw [List.range_succ]
  exact (h.2.imp2 fun x y q => hR x y _ _ s2 q).app2 (.cons r .nil)
 ·exact hd ys H' h.1 h.2
def IsRow (H : Hp) (v : V) (r : List Int) : Prop := ∃ a, v = .ref a /\ H a = some (.lst (r.map V.int))
def IsTab (H : Hp) (a : Addr) (T : List (List Int)) : Prop := ∃ vs, H a = some (.lst vs) /\ Paired (IsRow H) vs T
theorem IsRow.mono {H H' : Hp} {v : V} {r : List Int} (s : Same H H') (h : IsRow H v r) : IsRow H' v r := let ⟨a, e, q⟩ := h; ⟨a, e, s _ _ q⟩
theorem IsTab.mono {H H' : Hp} {a : Addr} {T : List (List Int)} (s : Same H H') (h : IsTab H a T) : IsTab H' a T := let ⟨vs, e, q⟩ := h; ⟨vs, s _ _ e, q.imp2 fun _ _ z => z.mono s⟩
def OwnRow (H H' : Hp) (v : V) (r : List Int) : Prop := ∃ a, v = .ref a /\ H a = none /\ H' a = some (.lst (r.map V.int))
def OwnTab (H H' : Hp) (a : Addr) (T : List (List Int)) : Prop := ∃ vs, H a = none /\ H' a = some (.lst vs) /\ Paired (OwnRow H H') vs T
theorem OwnRow.row {H H' : Hp} {v : V} {r : List Int} (h : OwnRow H H' v r) : IsRow H' v r := let ⟨a, e, _, q⟩ := h; ⟨a, e, q⟩
theorem OwnTab.tab {H H' : Hp} {a : Addr} {T : List (List Int)} (h : OwnTab H H' a T) : IsTab H' a T := let ⟨vs, _, e, q⟩ := h; ⟨vs, e, q.imp2 fun _ _ z => z.row⟩
theorem OwnRow.mono {H H1 H2 : Hp} {v : V} {r : List Int} (s : Same H1 H2) (h : OwnRow H H1 v r) : OwnRow H H2 v r := let ⟨a, e, n, q⟩ := h; ⟨a, e, n, s _ _ q⟩
theorem OwnRow.pre {H H1 H2 : Hp} {v : V} {r : List Int} (s : Same H H1) (h : OwnRow H1 H2 v r) : OwnRow H H2 v r := let ⟨a, e, n, q⟩ := h; ⟨a, e, s.free n, q⟩
theorem OwnTab.pre {H H1 H2 : Hp} {a : Addr} {T : List (List Int)} (s : Same H H1) (h : OwnTab H1 H2 a T) : OwnTab H H2 a T := let ⟨vs, n, e, q⟩ := h; ⟨vs, s.free n, e, q.imp2 fun _ _ z => z.pre s⟩
theorem OwnTab.mono {H H1 H2 : Hp} {a : Addr} {T : List (List Int)} (s : Same H1 H2) (h : OwnTab H H1 a T) : OwnTab H H2 a T := let ⟨vs, n, e, q⟩ := h; ⟨vs, n, s _ _ e, q.imp2 fun _ _ z => z.mono s⟩
def gW (r : List Int) : D := .lst (r.map D.int)
def cZ (T : List (List Int)) : D := .lst (T.map gW)
theorem oN {K : PySem.W.Frag} {H : Hp} : ∀ r : List Int, Reps K H (r.map D.int) (r.map V.int)
 | [] => by simp [Reps]
 | x :: r => by
  rw [List.map_cons, List.map_cons]
  unfold Reps
  exact ⟨_, _, rfl, by unfold Rep; rfl, oN r⟩
theorem IsRow.rep {K : PySem.W.Frag} {H : Hp} {v : V} {r : List Int} (h : IsRow H v r) : Rep K H (gW r) v := by
 obtain ⟨a, rfl, e⟩ := h
 unfold gW Rep
 exact ⟨a, _, rfl, SqL.of e, oN r⟩
theorem vh {K : PySem.W.Frag} {H : Hp} : ∀ {vs : List V} {T : List (List Int)}, Paired (IsRow H) vs T -> Reps K H (T.map gW) vs
 | _, _, .nil => by simp [Reps]
 | _, _, .cons h t => by
  rw [List.map_cons]
  unfold Reps
  exact ⟨_, _, rfl, h.rep, vh t⟩
theorem IsTab.rep {K : PySem.W.Frag} {H : Hp} {a : Addr} {T : List (List Int)} (h : IsTab H a T) : Rep K H (cZ T) (.ref a) := by
 obtain ⟨vs, e, p⟩ := h
 unfold cZ Rep
 exact ⟨a, vs, rfl, SqL.of e, vh p⟩
structure Good (T : List (List Int)) (m n : Nat) : Prop where
 m1 : 1 <= m
 m4 : m <= 4
 n1 : 1 <= n
 n4 : n <= 4
 rows : T.length = m
 cols : ∀ r ∈ T, r.length = n
 num : ∀ r ∈ T, ∀ x ∈ r, -100 <= x /\ x <= 100
theorem qt : ∀ r t : List Int, cj (r.map D.int) (t.map D.int) = true
 | [], t => by unfold cj; cases t <;> rfl
 | _ :: _, [] => by simp [cj]
 | x :: r, y :: t => by
  rw [List.map_cons, List.map_cons]
  unfold cj
  rw [qt r t, Bool.and_true]
  rfl
theorem w6 (r t : List Int) : cP (gW r) (gW t) = true := qt r t
theorem rZ : ∀ r : List Int, dM (r.map D.int) = 0
 | [] => rfl
 | x :: r => by
  rw [List.map_cons]
  unfold dM
  rw [rZ r]
  rfl
theorem zM (r : List Int) : cW (gW r) = 1 := by
 unfold gW
 rw [lE, rZ]
theorem pQ {r : List Int} {j : Nat} (h : j < r.length) : atI (r.map V.int) (j : Int) = some (.int (r.getD j 0)) := by
 refine d_ ?_
 rw [List.getElem?_map, List.getElem?_eq_getElem h, List.getD_eq_getElem?_getD, List.getElem?_eq_getElem h]
 rfl
theorem qK {α : Type} {xs : List α} {j : Nat} (h : j < xs.length) : atI xs (j : Int) = some xs[j] := d_ (List.getElem?_eq_getElem h)
end L2
set_option Elab.async false
set_option linter.all false
set_option maxRecDepth 100000
namespace L2
open PySem PySem.Spec PyProof.Rows
theorem lR {t u : TS} {D : Ends} {σ : St} {H : Hp} (J : St -> Hp -> Prop) (h : ∀ R : St -> Hp -> Prop, (∀ σ' H', J σ' H' -> R σ' H') -> t { D with nx := R } σ H) (k : ∀ σ' H', J σ' H' -> u D σ' H') : Iv t u D σ H := h (u D) k
theorem gB {i : Nat} {v : V} {σ : St} {H : Hp} {a : St -> Hp -> Prop} {b : VK} {c d : St -> Hp -> Prop} (h : a (σ.set i (some v)) H) : ik i v σ H (Ends.mk a b c d).nx := h
theorem JK {σ : St} {H : Hp} {A B : Hp -> Prop} (h : A H) : mO σ H fun b H3 => if b = true then A H3 else B H3 := by
 show (if true = true then A H else B H)
 exact bH h
theorem j_ {α : Type} : ∀ {xs : List α} {ys : List V}, Paired (fun _ y => y = V.bl true) xs ys -> ys = (List.replicate xs.length true).map V.bl
 | _, _, .nil => rfl
 | _, _, .cons h t => by
  rw [j_ t, h]
  rfl
theorem qD (n : Nat) : (List.replicate n true).all id = true := by simp
end L2
namespace PySem
theorem Paired.set2 {α β : Type} {F : α -> β -> Prop} {x : α} {y : β} (h : F x y) : ∀ {l₁ : List α} {l₂ : List β} (i : Nat), Paired F l₁ l₂ -> Paired F (l₁.set i x) (l₂.set i y)
 | _, _, _, .nil => .nil
 | _, _, 0, .cons _ t => .cons h t
 | _, _, i + 1, .cons q t => .cons q (Paired.set2 h i t)
end PySem
namespace L2
open PySem PySem.Spec PyProof.Rows
def RowNe (l : Addr) (H : Hp) (v : V) (r : List Int) : Prop := ∃ b, v = .ref b /\ b ≠ l /\ H b = some (.lst (r.map V.int))
theorem RowNe.row {l : Addr} {H : Hp} {v : V} {r : List Int} (h : RowNe l H v r) : IsRow H v r := let ⟨b, e, _, q⟩ := h; ⟨b, e, q⟩
theorem RowNe.mono {l : Addr} {H H' : Hp} {v : V} {r : List Int} (s : Same H H') (h : RowNe l H v r) : RowNe l H' v r := let ⟨b, e, n, q⟩ := h; ⟨b, e, n, s _ _ q⟩
theorem RowNe.at {l : Addr} {H : Hp} {v : V} {r : List Int} {o : HO} (h : RowNe l H v r) : RowNe l (upd H l o) v r := let ⟨b, e, n, q⟩ := h; ⟨b, e, n, by rw [aO n]; exact q⟩
theorem mU {xs : List V} {k : Int} (h0 : 0 <= k) (h1 : k <= xs.length) : dJ xs (some k) none = xs.drop k.toNat := by
 have e : HT.sIx xs.length 0 (some k) = k.toNat := by
  unfold HT.sIx
  simp only
  split <;> omega
 have e2 : HT.sIx xs.length xs.length none = xs.length := rfl
 unfold dJ
 rw [e, e2, List.take_of_length_le (by rw [List.length_drop]; omega)]
theorem wU {xs : List V} {k : Int} (h0 : 0 <= k) (h1 : k <= xs.length) : dJ xs none (some k) = xs.take k.toNat := by
 have e : HT.sIx xs.length xs.length (some k) = k.toNat := by
  unfold HT.sIx
  simp only
  split <;> omega
 have e2 : HT.sIx xs.length 0 none = 0 := rfl
 unfold dJ
 rw [e, e2, List.drop_zero]
 rfl
end L2
namespace Tb
open PySem L2
end Tb
namespace L2
open PySem
end L2
namespace L2
open PySem PySem.Spec PyProof.Rows
theorem yU {r t : List Int} (h : r.map V.int = t.map V.int) : r = t := by
 have inj : ∀ (a b : List Int), a.map V.int = b.map V.int -> a = b := by
  intro a
  induction a with
  | nil => intro b h; cases b with
   | nil => rfl
   | cons _ _ => simp at h
  | cons x a ih => intro b h; cases b with
   | nil => simp at h
   | cons y b =>
    simp only [List.map_cons, List.cons.injEq, V.int.injEq] at h
    rw [h.1, ih b h.2]
 exact inj r t h
theorem IsRow.inj {H : Hp} {v : V} {r t : List Int} (h : IsRow H v r) (q : IsRow H v t) : r = t := by
 obtain ⟨a, rfl, e⟩ := h
 obtain ⟨b, eb, f⟩ := q
 cases eb
 rw [e] at f
 injection f with f
 injection f with f
 exact yU f
theorem yg {H : Hp} (f : List Int -> Int) : ∀ {vs ys : List V} {T : List (List Int)}, Paired (fun x y => ∀ r, IsRow H x r -> y = V.int (f r)) vs ys -> Paired (IsRow H) vs T -> ys = (T.map f).map V.int
 | _, _, _, .nil, .nil => rfl
 | _, _, _, .cons h t, .cons q u => by rw [h _ q, yg f t u]; rfl
theorem uW {H H' : Hp} (f : List Int -> List Int) : ∀ {vs ys : List V} {T : List (List Int)}, Paired (fun x y => ∀ r, IsRow H x r -> OwnRow H H' y (f r)) vs ys -> Paired (IsRow H) vs T -> Paired (OwnRow H H') ys (T.map f)
 | _, _, _, .nil, .nil => .nil
 | _, _, _, .cons h t, .cons q u => .cons (h _ q) (uW f t u)
theorem vH {H H' : Hp} (f : Nat -> List Int) : ∀ {xs : List Nat} {ys : List V}, Paired (fun i y => OwnRow H H' y (f i)) xs ys -> Paired (OwnRow H H') ys (xs.map f)
 | _, _, .nil => .nil
 | _, _, .cons h t => .cons h (vH f t)
theorem nO (f : Nat -> Int) : ∀ {xs : List Nat} {ys : List V}, Paired (fun i y => y = V.int (f i)) xs ys -> ys = (xs.map f).map V.int
 | _, _, .nil => rfl
 | _, _, .cons h t => by rw [h, nO f t]; rfl
theorem oG {K : PySem.W.Frag} {a : Addr} {T : List (List Int)} {te : TE} {σc : St} {H : Hp} {Fin : List V -> Hp -> Prop} (f : List Int -> Int) (hT : IsTab H a T) (hz : T.length <= 1000)
  (hs : ∀ r ∈ T, ∀ b, H b = some (.lst (r.map V.int)) -> ∀ H1, Same H H1 -> ∀ Q : VK, (∀ H2, Same H1 H2 -> Q (.int (f r)) H2) -> te (σc.set 0 (some (.ref b))) H1 Q) (hd : ∀ H', Same H H' -> Fin ((T.map f).map V.int) H') : d7 (Itl K a) (ik 0) mO te σc H Fin := by
 obtain ⟨vs, ha, hp⟩ := hT
 refine bQ (xs := vs) (fun x y _ => ∀ r, IsRow H x r -> y = V.int (f r)) (fun _ _ _ _ _ h => h) (SqL.of ha) (by rw [hp.length]; exact Nat.le_of_lt (aR hz)) ?_ ?_
 ·intro x hx H1 s1 Q q
  obtain ⟨r, hr, hrow⟩ := hp.mem2 hx
  obtain ⟨b, rfl, hb⟩ := id hrow
  exact hs r hr b hb H1 s1 Q fun H2 s2 => q _ H2 s2 fun r' h' => by rw [hrow.inj h']
 ·intro ys H' s' pr
  rw [yg f pr hp]
  exact hd H' s'
theorem nJ {K : PySem.W.Frag} {a : Addr} {T : List (List Int)} {te : TE} {σc : St} {H : Hp} {Fin : List V -> Hp -> Prop} (f : List Int -> List Int) (hT : IsTab H a T) (hz : T.length <= 1000)
  (hs : ∀ r ∈ T, ∀ b, H b = some (.lst (r.map V.int)) -> ∀ H1, Same H H1 -> ∀ Q : VK, (∀ y H2, Same H1 H2 -> OwnRow H H2 y (f r) -> Q y H2) -> te (σc.set 0 (some (.ref b))) H1 Q)
  (hd : ∀ ys H', Same H H' -> Paired (OwnRow H H') ys (T.map f) -> Fin ys H') : d7 (Itl K a) (ik 0) mO te σc H Fin := by
 obtain ⟨vs, ha, hp⟩ := hT
 refine bQ (xs := vs) (fun x y H' => ∀ r, IsRow H x r -> OwnRow H H' y (f r)) (fun _ _ _ _ s h r q => (h r q).mono s) (SqL.of ha) (by rw [hp.length]; exact Nat.le_of_lt (aR hz)) ?_ ?_
 ·intro x hx H1 s1 Q q
  obtain ⟨r, hr, hrow⟩ := hp.mem2 hx
  obtain ⟨b, rfl, hb⟩ := id hrow
  exact hs r hr b hb H1 s1 Q fun y H2 s2 ho => q _ H2 s2 fun r' h' => by rw [<- hrow.inj h']; exact ho
 ·intro ys H' s' pr
  exact hd ys H' s' (uW f pr hp)
theorem OwnTab.lay {H H1 : Hp} {p : Addr} {ys : List V} {T : List (List Int)} (s : Same H H1) (hp : H1 p = none) (h : Paired (OwnRow H H1) ys T) : OwnTab H (upd H1 p (.lst ys)) p T :=
 ⟨ys, s.free hp, az, h.imp2 fun _ _ z => z.mono (aq hp)⟩
theorem IsTab.row {H : Hp} {a : Addr} {T : List (List Int)} (h : IsTab H a T) {i : Nat} (hi : i < T.length) : ∃ vs b, H a = some (.lst vs) /\ i < vs.length /\ atI vs (i : Int) = some (.ref b) /\ H b = some (.lst ((T.getD i []).map V.int)) := by
 obtain ⟨vs, e, p⟩ := h
 obtain ⟨v, ev, b, rfl, hb⟩ := p.at2 (List.getElem?_eq_getElem hi)
 refine ⟨vs, b, e, by rw [p.length]; exact hi, d_ ev, ?_⟩
 rw [List.getD_eq_getElem?_getD, List.getElem?_eq_getElem hi]
 exact hb
theorem Good.row {T : List (List Int)} {m n : Nat} (g : Good T m n) {i : Nat} (hi : i < m) : T.getD i [] ∈ T /\ (T.getD i []).length = n := by
 have h : i < T.length := by rw [g.rows]; exact hi
 have e : T.getD i [] = T[i] := by rw [List.getD_eq_getElem?_getD, List.getElem?_eq_getElem h]; rfl
 rw [e]
 exact ⟨List.getElem_mem h, g.cols _ (List.getElem_mem h)⟩
def IsPl (H : Hp) (v : V) (p : Nat × Nat) : Prop := ∃ b, v = .ref b /\ H b = some (.tup [.int p.1, .int p.2])
theorem IsPl.mono {H H' : Hp} {v : V} {p : Nat × Nat} (s : Same H H') (h : IsPl H v p) : IsPl H' v p := let ⟨b, e, q⟩ := h; ⟨b, e, s _ _ q⟩
theorem IsPl.at {l : Addr} {H : Hp} {v : V} {p : Nat × Nat} {xs : List V} {o : HO} (hl : H l = some (.lst xs)) (h : IsPl H v p) : IsPl (upd H l o) v p := by
 obtain ⟨b, e, q⟩ := h
 exact ⟨b, e, by rw [aO (pO q hl (by intro z; cases z))]; exact q⟩
def plD (p : Nat × Nat) : D := .tup [.int p.1, .int p.2]
end L2
namespace L2
open PySem PySem.Spec PyProof.Rows
theorem uY (f : Int -> Int) : ∀ {r : List Int} {ys : List V}, Paired (fun x y => ∀ i, x = V.int i -> y = V.int (f i)) (r.map V.int) ys -> ys = (r.map f).map V.int
 | [], _, h => by cases h; rfl
 | i :: r, _, h => by
  cases h with
  | cons h t => rw [h i rfl, uY f t]; rfl
theorem ph {K : PySem.W.Frag} {b : Addr} {r : List Int} {te : TE} {σc : St} {H : Hp} {Fin : List V -> Hp -> Prop} (f : Int -> Int) (hb : SqL K H b (r.map V.int)) (hz : r.length <= 1000)
  (hs : ∀ i ∈ r, ∀ H1, Same H H1 -> ∀ Q : VK, (∀ H2, Same H1 H2 -> Q (.int (f i)) H2) -> te (σc.set 0 (some (.int i))) H1 Q) (hd : ∀ H', Same H H' -> Fin ((r.map f).map V.int) H') : d7 (Itl K b) (ik 0) mO te σc H Fin := by
 refine bQ (xs := r.map V.int) (fun x y _ => ∀ i, x = V.int i -> y = V.int (f i)) (fun _ _ _ _ _ h => h) hb (by rw [List.length_map]; exact Nat.le_of_lt (aR hz)) ?_ ?_
 ·intro x hx H1 s1 Q q
  obtain ⟨i, hi, rfl⟩ := List.mem_map.mp hx
  exact hs i hi H1 s1 Q fun H2 s2 => q _ H2 s2 fun j e => by cases e; rfl
 ·intro ys H' s' pr
  rw [uY f pr]
  exact hd H' s'
theorem rH {b : Bool} {A B : Prop} (hb : b = true) (h : B) : if (!b) = true then A else B := by
 subst hb
 exact bW h
theorem mK {K : PySem.W.Frag} {H : Hp} {p : Addr} {x y : Int} (h : H p = some (.tup [.int x, .int y])) : Rep K H (.tup [.int x, .int y]) (.ref p) := by
 unfold Rep
 exact ⟨p, _, rfl, SqT.of h, by simp [Reps, Rep]⟩
end L2
namespace L2
open PySem PySem.Spec PyProof.Rows
def SameX (l : Addr) (H H' : Hp) : Prop := ∀ b o, b ≠ l -> H b = some o -> H' b = some o
theorem SameX.refl {l : Addr} {H : Hp} : SameX l H H := fun _ _ _ h => h
theorem SameX.then {l : Addr} {H H1 H2 : Hp} (a : SameX l H H1) (b : Same H1 H2) : SameX l H H2 := fun c o n h => b c o (a c o n h)
theorem SameX.at {l : Addr} {H H1 : Hp} {o : HO} (a : SameX l H H1) : SameX l H (upd H1 l o) := fun c u n h => by rw [aO n]; exact a c u n h
def RowX (H : Hp) (l : Addr) (H' : Hp) (v : V) (r : List Int) : Prop := ∃ b, v = .ref b /\ b ≠ l /\ H b = none /\ H' b = some (.lst (r.map V.int))
theorem RowX.own {H H' : Hp} {l : Addr} {v : V} {r : List Int} (h : RowX H l H' v r) : OwnRow H H' v r := let ⟨b, e, _, n, q⟩ := h; ⟨b, e, n, q⟩
theorem RowX.mono {H H' H2 : Hp} {l : Addr} {v : V} {r : List Int} (s : Same H' H2) (h : RowX H l H' v r) : RowX H l H2 v r := let ⟨b, e, n, m, q⟩ := h; ⟨b, e, n, m, s _ _ q⟩
theorem RowX.at {H H' : Hp} {l : Addr} {v : V} {r : List Int} {o : HO} (h : RowX H l H' v r) : RowX H l (upd H' l o) v r := let ⟨b, e, n, m, q⟩ := h; ⟨b, e, n, m, by rw [aO n]; exact q⟩
theorem q9 {α β : Type} (f : α -> List β) (k : Nat) : ∀ {l : List α}, (∀ x ∈ l, (f x).length = k) -> (l.flatMap f).length = l.length * k
 | [], _ => by simp
 | x :: l, h => by
  rw [List.flatMap_cons, List.length_append, h x List.mem_cons_self, q9 f k (fun y hy => h y (List.mem_cons_of_mem _ hy)), List.length_cons, Nat.succ_mul]
  omega
theorem Hz {α : Type} {l : List α} {i : Nat} {x d : α} (h : l[i]? = some x) : l.getD i d = x := by
 rw [List.getD_eq_getElem?_getD, h]
 rfl
end L2
set_option Elab.async false
set_option linter.all false
namespace L2
open PySem PySem.Spec PyProof.Rows
variable {X : Cx}
def Gr (i j : Int) : Prop := 0 < j /\ j.natAbs.log2 < 9000
theorem wB : OpR X (binaryOp .FloorDiv) (rI Gr fun i j => .int (i / j)) := opI fun i j _ _ _ _ _ hc q => by
 have h1 : (0 : Int) < j := hc.1
 exact floordiv_int (by omega) (by rw [Int.fdiv_eq_ediv_of_nonneg i (by omega)]; exact q) (.inl (PyProof.noPylong_of_log2 hc.2))
end L2
namespace Fr
theorem mk_zero {S : Int} (h : 0 < S) : mk 0 S = (0, 1) := by
 have e : (Int.gcd 0 S : Int) = S := by rw [Int.gcd_zero_left]; omega
 unfold mk
 rw [e, Int.zero_ediv, Int.ediv_self (by omega)]
theorem mk_cross {a b c d : Int} (hb : 0 < b) (hd : 0 < d) (h : a * d = c * b) : mk a b = mk c d := by
 rw [<- wD (a := a) (b := b) hd, <- wD (a := c) (b := d) hb, h, Int.mul_comm b d]
theorem mk_ratio {a b : Int} (h : 0 < b) : (mk a b).1 * b = a * (mk a b).2 := by
 have h1 := jR (a := a) (b := b)
 have h2 := jd (a := a) (b := b)
 have e : (mk a b).1 * b = (mk a b).1 * ((mk a b).2 * (Int.gcd a b : Int)) := by rw [h2]
 have e2 : a * (mk a b).2 = ((mk a b).1 * (Int.gcd a b : Int)) * (mk a b).2 := by rw [h1]
 rw [e, e2, Int.mul_assoc, Int.mul_comm (mk a b).2]
theorem mk_cop {a b : Int} (h : 0 < b) : Int.gcd (mk a b).1 (mk a b).2 = 1 := by
 have g := gcd_pos (a := a) h
 have e : Int.gcd ((mk a b).1 * (Int.gcd a b : Int)) ((mk a b).2 * (Int.gcd a b : Int)) = Int.gcd (mk a b).1 (mk a b).2 * Int.gcd a b := by
  rw [Int.gcd_mul_right]
  simp
 rw [jR, jd] at e
 have g' : 0 < Int.gcd a b := by omega
 have e2 : 1 * Int.gcd a b = Int.gcd (mk a b).1 (mk a b).2 * Int.gcd a b := by rw [Nat.one_mul]; exact e
 exact (Nat.eq_of_mul_eq_mul_right g' e2).symm
def dot : List Int -> List Int -> Int
 | x :: xs, y :: ys => x * y + dot xs ys
 | _, _ => 0
theorem dot_snoc : ∀ (xs ys : List Int) (x y : Int), xs.length = ys.length -> dot (xs ++ [x]) (ys ++ [y]) = dot xs ys + x * y
 | [], [], x, y, _ => by simp [dot]
 | a :: xs, b :: ys, x, y, h => by
  have := dot_snoc xs ys x y (by simpa using h)
  simp only [List.cons_append, dot]
  omega
end Fr
namespace L2
open PySem PySem.Spec PyProof.Rows
def IsFr (H : Hp) (v : V) (q : Int × Int) : Prop := ∃ b, v = .ref b /\ H b = some (.tup [.int q.1, .int q.2])
theorem IsFr.mono {H H' : Hp} {v : V} {q : Int × Int} (s : Same H H') (h : IsFr H v q) : IsFr H' v q := let ⟨b, e, z⟩ := h; ⟨b, e, s _ _ z⟩
def IsFrs (H : Hp) (a : Addr) (qs : List (Int × Int)) : Prop := ∃ vs, H a = some (.lst vs) /\ Paired (IsFr H) vs qs
theorem IsFrs.mono {H H' : Hp} {a : Addr} {qs : List (Int × Int)} (s : Same H H') (h : IsFrs H a qs) : IsFrs H' a qs := let ⟨vs, e, z⟩ := h; ⟨vs, s _ _ e, z.imp2 fun _ _ y => y.mono s⟩
structure Wt (ws : List Int) (n : Nat) (S : Int) : Prop where
 len : ws.length = n
 n1 : 1 <= n
 n4 : n <= 4
 nn : ∀ x ∈ ws, 0 <= x
 sum : ws.sum = S
 pos : 0 < S
 most : S <= 17
def mks (ws : List Int) (S : Int) : List (Int × Int) := ws.map fun x => Fr.mk x S
theorem lV (ws : List Int) (S : Int) : (mks ws S).length = ws.length := List.length_map ..
theorem Hy {ws : List Int} {S : Int} {i : Nat} {q : Int × Int} (h : (mks ws S)[i]? = some q) : ∃ x, ws[i]? = some x /\ q = Fr.mk x S := by
 unfold mks at h
 rw [List.getElem?_map] at h
 cases e : ws[i]? with
 | none => rw [e] at h; cases h
 | some x => rw [e] at h; exact ⟨x, rfl, by cases h; rfl⟩
end L2
set_option Elab.async false
set_option linter.all false
set_option maxRecDepth 100000
namespace L2
open PySem PySem.Spec PyProof.Rows
def Io (K : PySem.W.Frag) (neg : Bool) : R2 := fun x y H Q => ∃ p d ds vs, y = .ref p /\ Rep K H d x /\ SqL K H p vs /\ Reps K H ds vs /\ (∀ a ∈ ds, cP a d = true /\ cW a <= 40 /\ ∀ b ∈ ds, cP a b = true) /\
 Q (.bl (if neg then !(ds.any fun e => eqD e d) else ds.any fun e => eqD e d)) H
section
variable {X : Cx} {pins : List (Addr × Obj)} {σ : St} {H : Hp} {s : Shared}
open Classical in
theorem Ge (I : Inv X pins σ H s) (hu : X.A.units + 64 < cLine) {d : D} {x : V} {u : Value} {ds : List D} {vs : List V} {its : List Value} (rd : Rep X.K H d x) (ru : RelV x u) (rs : Reps X.K H ds vs) (rv : Vals vs its)
  (hl : ∀ a ∈ ds, cP a d = true /\ cW a <= 40 /\ ∀ b ∈ ds, cP a b = true) : ∃ e : Value -> Bool, (∀ y, y ∈ its -> SeqAt.EqAt X.A.in1 s y u (e y)) /\ its.any e = ds.any fun a => eqD a d := by
 refine ⟨fun (y : Value) => decide (∃ (j : Nat) (d' : D), its[j]? = some y /\ ds[j]? = some d' /\ eqD d' d = true), fun y hy => ?_, ?_⟩
 ·obtain ⟨j, hj, ej⟩ := List.mem_iff_getElem.mp hy
  have hjv : j < vs.length := by rw [rv.length]; exact hj
  obtain ⟨d1, e1, r1⟩ := rs.get (List.getElem?_eq_getElem hjv)
  obtain ⟨u1, f1, s1⟩ := rv.get (List.getElem?_eq_getElem hjv)
  have g1 : u1 = y := by rw [List.getElem?_eq_getElem hj, ej] at f1; exact (Option.some.inj f1).symm
  subst g1
  have m1 := List.mem_of_getElem? e1
  obtain ⟨l1, p1, l2⟩ := hl d1 m1
  have hq := (wZ (A := X.A.in1) I 40 p1 l1 (by show X.A.units + 1 + 40 < cLine; omega) r1 rd s1 ru).1
  have he : decide (∃ (j : Nat) (d' : D), its[j]? = some u1 /\ ds[j]? = some d' /\ eqD d' d = true) = eqD d1 d := by
   cases hc : eqD d1 d with
   | true => exact decide_eq_true ⟨j, d1, by rw [List.getElem?_eq_getElem hj, ej], e1, hc⟩
   | false =>
    refine decide_eq_false ?_
    rintro ⟨i, d', hi, hd', hq'⟩
    have hiv : i < vs.length := by rw [rv.length]; exact (List.getElem?_eq_some_iff.mp hi).1
    obtain ⟨d2, e2, r2⟩ := rs.get (List.getElem?_eq_getElem hiv)
    rw [hd'] at e2
    cases e2
    obtain ⟨u2, f2, s2⟩ := rv.get (List.getElem?_eq_getElem hiv)
    rw [hi] at f2
    cases f2
    have ev := s1.inj s2
    rw [<- ev] at r2
    have := xQ (qT I 40 p1 (l2 d' (List.mem_of_getElem? hd')) r1 r2)
    rw [this, hq'] at hc
    cases hc
  show SeqAt.EqAt X.A.in1 s u1 u (decide (∃ (j : Nat) (d' : D), its[j]? = some u1 /\ ds[j]? = some d' /\ eqD d' d = true))
  rw [he]
  exact hq
 ·rw [Bool.eq_iff_iff, List.any_eq_true, List.any_eq_true]
  constructor
  ·rintro ⟨y, _, hy⟩
   obtain ⟨j, d', _, h2, h3⟩ := of_decide_eq_true hy
   exact ⟨d', List.mem_of_getElem? h2, h3⟩
  ·rintro ⟨d', hd', h3⟩
   obtain ⟨j, hj, ej⟩ := List.mem_iff_getElem.mp hd'
   have hji : j < its.length := by rw [<- rv.length, rs.length]; exact hj
   exact ⟨its[j], List.getElem_mem hji, decide_eq_true ⟨j, d', List.getElem?_eq_getElem hji, by rw [List.getElem?_eq_getElem hj, ej], h3⟩⟩
theorem DY (hu : X.A.units + 64 < cLine) : OpR X (compareOp .NotIn) (Io X.K true) := by
 intro pins s σ H x y v u Q I rx ry h
 obtain ⟨p, d, ds, vs, rfl, rd, hq, rs, hl, q⟩ := h
 cases ry
 obtain ⟨its, r, pl, hz⟩ := I.list hq
 obtain ⟨e, h1, h2⟩ := Ge I hu rd rx rs r hl
 refine SeqAt.notIn_listAt e pl.isList (fun w hw => h1 w (by simpa using hw)) ⟨.bl _, H, I, rfl, ?_⟩
 rw [show its.toArray.any e = its.any e by simp, h2]
 exact q
end
section
variable {X : Cx}
theorem J4 (K : PySem.W.Frag) (hu : X.A.units + 64 < cLine) (h : X.K = K := by rfl) : OpR X (compareOp .NotIn) (Io K true) := by subst h; exact DY hu
end
structure Cl (K : PySem.W.Frag) (mg : Str -> Option Value) (x : Str) (fs ms : List Str) (C : Addr) : Prop where
 cl : Cls K C
 no : ∀ f, f ∈ fs -> NoAttr K C f
 mg_ : mg x = some (.ref C)
 makes : PySem.W.makesIn K C = true
 kp : PySem.W.keepIn K (.ref C) = true
structure FunC (K : PySem.W.Frag) (C : Addr) (m qual : Str) (st : Stmt) (ps : List Str) : Prop where
 ex : ∃ f fd, Fun K m qual st f fd /\ Meth K C m f /\ Binds K fd ps []
structure DefC (P : Program) (w : World) (K : PySem.W.Frag) (mg : Str -> Option Value) (base : Heap) (C : Addr) (m : Str) (ps : List Str) (k : Nat) (sp : Sp) : Prop where
 ex : ∃ f fd, FnOk P w K mg base CX0 k f fd ps sp /\ Meth K C m f /\ Binds K fd ps []
section
variable {P : Program} {w : World} {K : PySem.W.Frag} {mg : Str -> Option Value} {base : Heap}
theorem DefC.of {C : Addr} {x qual : Str} {st : Stmt} {N ps : List Str} {k : Nat} {sp : Sp} (F : FunC K C x qual st ps) (S : FnScope N ps (aF st)) (len : ∀ vs H Q E, sp vs H Q E -> vs.length = ps.length)
  (hbody : ∀ (f : Addr) (cdv : Value) (A : Around) (outer : List Env) (s : Shared) (H : Hp) (vs : List V) (Q : VK) (E : XK), Room k (A.deeper (envOfC qual (aF st) s.heap.objs.size f cdv)) -> sp vs H Q E ->
   ∃ t, PSs (dh CX0 P w K mg base N qual (aF st) f cdv A outer s H E).nox (cO st) t /\ t { nx := fun _ H' => Q .non H', rt := Q } (start N vs) H) : DefC P w K mg base C x ps (k + 1) sp := by
 obtain ⟨f, fd, F1, hm, hb⟩ := F.ex
 exact ⟨f, fd, F1.ok S len (hbody f), hm, hb⟩
theorem fun_c {C : Addr} {x qual : Str} {st : Stmt} {ps : List Str} {f : Addr} {oc : Value} {od an : Option Addr} {osl : Array (Option Value)} {kV doc pm cdv ct : Value}
  (a : PySem.W.findIn K (.ref C) x = some (some (.ref f))) (i : PySem.W.isFn K (.ref f) = true)
  (l : K.lookup f = some ⟨oc, od, .func (PySem.W.fnOf x qual (d8 st) (cO st) (aF st) .none kV doc pm an cdv ct), osl⟩) (c : PySem.W.codeIn K cdv qual = true) (k : PySem.W.keepIn K (.ref f) = true)
  (b : ∀ (kV doc pm : Value) (an : Option Addr) (cdv ct : Value) (us : List Value), us.length = ps.length -> bindArgs (PySem.W.fnOf x qual (d8 st) (cO st) (aF st) .none kV doc pm an cdv ct) ⟨us, []⟩ = pure (ps.zip us)) : FunC K C x qual st ps := by
 have F := wG (st := st) l c k
 exact ⟨f, _, F, ⟨a, i, k⟩, F.binds b⟩
end
section
variable {X : Cx} {x m : Str} {ps : List Str} {k : Nat} {sp : Sp} {p pos apos : Pos} {o e : Expr} {es : List Expr} {t : TA} {ta : TE} {C : Addr} {fs ms : List Str}
theorem xR (D : DefC X.prog X.w X.K X.mg X.base C "__init__" ps k sp) (c : Cl X.K X.mg x fs ms C) (hr : Room (k + 1) X.A) (hg : Gl X x) (ha : PA X (e :: es) t)
  (hdb : (x == ("__debug__" : Str)) = false := by decide) (he : starEach (e :: es) X.env = (false, eval e X.env) :: starEach es X.env := by rfl) (hpl : (backTo pos (starEach es X.env)).any (·.1) = false := by rfl) :
  PE X (.Call (.Name x p) (e :: es) [] pos) (GJ C sp [] E0 t) := by
 obtain ⟨f, fd, F, hm, hb⟩ := D.ex
 exact G8 ⟨c.makes, hm.at_, hm.fn, c.kp⟩ F hr hg c.mg_ hb .nil Gn ha hdb he hpl
end
end L2
set_option Elab.async false
set_option linter.all false
namespace Gm
def sm : Nat -> (Nat -> Int) -> Int
 | 0, _ => 0
 | n + 1, f => sm n f + f n
theorem sm_congr {f g : Nat -> Int} : ∀ {n : Nat}, (∀ j, j < n -> f j = g j) -> sm n f = sm n g
 | 0, _ => rfl
 | n + 1, h => by
  show sm n f + f n = sm n g + g n
  rw [sm_congr fun j hj => h j (by omega), h n (by omega)]
theorem jK (f g : Nat -> Int) : ∀ n, sm n (fun j => f j + g j) = sm n f + sm n g
 | 0 => rfl
 | n + 1 => by
  show sm n _ + (f n + g n) = sm n f + f n + (sm n g + g n)
  rw [jK f g n]; omega
theorem sm_mul (c : Int) (f : Nat -> Int) : ∀ n, sm n (fun j => c * f j) = c * sm n f
 | 0 => by simp [sm]
 | n + 1 => by
  show sm n _ + c * f n = c * (sm n f + f n)
  rw [sm_mul c f n, Int.mul_add]
theorem tV : ∀ n, sm n (fun _ => 0) = 0
 | 0 => rfl
 | n + 1 => by
  show sm n _ + 0 = 0
  rw [tV n]; rfl
theorem vC {f : Nat -> Int} : ∀ {n : Nat}, (∀ j, j < n -> 0 <= f j) -> 0 <= sm n f
 | 0, _ => Int.le_refl _
 | n + 1, h => by
  show 0 <= sm n f + f n
  have := vC (n := n) fun j hj => h j (by omega)
  have := h n (by omega)
  omega
theorem tE {f : Nat -> Int} : ∀ {n : Nat}, (∀ j, j < n -> 0 <= f j) -> (∃ j, j < n /\ 0 < f j) -> 0 < sm n f
 | 0, _, ⟨j, hj, _⟩ => by omega
 | n + 1, h, ⟨j, hj, hp⟩ => by
  show 0 < sm n f + f n
  have h0 := vC (n := n) fun j hj => h j (by omega)
  have h1 := h n (by omega)
  by_cases e : j = n
  ·subst e; omega
  ·have := tE (n := n) (fun j hj => h j (by omega)) ⟨j, by omega, hp⟩
   omega
theorem Gu {f : Nat -> Int} : ∀ {n : Nat}, 0 < sm n f -> ∃ j, j < n /\ 0 < f j
 | 0, h => by simp [sm] at h
 | n + 1, h => by
  have h' : 0 < sm n f + f n := h
  by_cases e : 0 < f n
  ·exact ⟨n, by omega, e⟩
  ·obtain ⟨j, hj, hp⟩ := Gu (f := f) (n := n) (by omega)
   exact ⟨j, by omega, hp⟩
theorem sm_single {k : Nat} {c : Int} : ∀ {n : Nat}, sm n (fun j => if j = k then c else 0) = if k < n then c else 0
 | 0 => by simp [sm]
 | n + 1 => by
  show sm n _ + (if n = k then c else 0) = _
  rw [sm_single (n := n)]
  by_cases h1 : k < n
  ·rw [if_pos h1, if_neg (by omega), if_pos (by omega)]; omega
  ·by_cases h2 : n = k
   ·rw [if_neg h1, if_pos h2, if_pos (by omega)]; omega
   ·rw [if_neg h1, if_neg h2, if_neg (by omega)]; omega
theorem lw {α : Type} (num den : α -> Int) : ∀ (l : List α), l ≠ [] -> (∀ x ∈ l, 0 < den x) -> ∃ x ∈ l, ∀ y ∈ l, num x * den y <= num y * den x
 | [], h, _ => absurd rfl h
 | [x], _, _ => ⟨x, by simp, fun y hy => by
  rw [List.mem_singleton.mp hy]
  exact Int.le_refl _⟩
 | x :: z :: l, _, hd => by
  obtain ⟨w, hw, hm⟩ := lw num den (z :: l) (by simp) fun y hy => hd y (List.mem_cons_of_mem _ hy)
  have dx := hd x (by simp)
  have dw := hd w (List.mem_cons_of_mem _ hw)
  by_cases h : num x * den w <= num w * den x
  ·refine ⟨x, by simp, fun y hy => ?_⟩
   rcases List.mem_cons.mp hy with e | hy
   ·rw [e]; exact Int.le_refl _
   ·have dy := hd y (List.mem_cons_of_mem _ hy)
    have h1 := hm y hy
    have a1 : num x * den w * den y <= num w * den x * den y := Int.mul_le_mul_of_nonneg_right h (Int.le_of_lt dy)
    have a2 : num w * den y * den x <= num y * den w * den x := Int.mul_le_mul_of_nonneg_right h1 (Int.le_of_lt dx)
    have a3 : num x * den y * den w <= num y * den x * den w := by grind
    exact Int.le_of_mul_le_mul_right a3 dw
  ·refine ⟨w, List.mem_cons_of_mem _ hw, fun y hy => ?_⟩
   rcases List.mem_cons.mp hy with e | hy
   ·rw [e]; omega
   ·exact hm y hy
structure Pt (a : Nat -> Nat -> Int) (m n : Nat) (y : Nat -> Int) (S N : Int) : Prop where
 pos : 0 < S
 nn : ∀ j, j < n -> 0 <= y j
 sum : sm n y = S
 le : ∀ i, i < m -> sm n (fun j => a i j * y j) <= N
 ti : ∃ i, i < m /\ sm n (fun j => a i j * y j) = N
def cnt (p : Nat -> Bool) (n : Nat) : Nat := ((List.range n).filter p).length
theorem yq {p q : Nat -> Bool} {n : Nat} (h : ∀ j, j < n -> p j = true -> q j = true) : cnt p n <= cnt q n := by
 unfold cnt
 rw [<- List.countP_eq_length_filter, <- List.countP_eq_length_filter]
 exact List.countP_mono_left fun j hj => h j (List.mem_range.mp hj)
theorem yx {p q : Nat -> Bool} : ∀ {n : Nat}, (∀ j, j < n -> p j = true -> q j = true) -> (∃ j, j < n /\ p j = false /\ q j = true) -> cnt p n < cnt q n
 | 0, _, ⟨j, hj, _⟩ => by omega
 | n + 1, h, ⟨j, hj, h1, h2⟩ => by
  have e : ∀ r : Nat -> Bool, cnt r (n + 1) = cnt r n + (if r n = true then 1 else 0) := by
   intro r
   unfold cnt
   rw [List.range_succ, List.filter_append, List.length_append]
   by_cases c : r n = true
   ·simp [c]
   ·simp [c]
  rw [e p, e q]
  have h0 := yq (p := p) (q := q) (n := n) fun j hj => h j (by omega)
  have hn := h n (by omega)
  by_cases c : j = n
  ·subst c
   simp [h1, h2]
   omega
  ·have := yx (n := n) (fun j hj => h j (by omega)) ⟨j, by omega, h1, h2⟩
   by_cases c1 : p n = true
   ·rw [if_pos c1, if_pos (hn c1)]; omega
   ·rw [if_neg c1]; split <;> omega
def todo (a : Nat -> Nat -> Int) (m n : Nat) (y : Nat -> Int) (N : Int) : Nat := cnt (fun j => decide (y j ≠ 0)) n + cnt (fun i => decide (sm n (fun j => a i j * y j) ≠ N)) m
theorem zN (a : Nat -> Int) (y d : Nat -> Int) (q p : Int) (n : Nat) : sm n (fun j => a j * (q * y j + p * d j)) = q * sm n (fun j => a j * y j) + p * sm n (fun j => a j * d j) := by
 rw [<- sm_mul, <- sm_mul, <- jK]
 exact sm_congr fun j _ => by grind
theorem step {a : Nat -> Nat -> Int} {m n : Nat} {y : Nat -> Int} {S N : Int} (P : Pt a m n y S N) {d : Nat -> Int} {δ : Int} (hs : ∀ j, j < n -> y j = 0 -> d j = 0) (h0 : sm n d = 0) (hd : ∃ j, j < n /\ d j ≠ 0) (hδ : δ <= 0)
  (ht : ∀ i, i < m -> sm n (fun j => a i j * y j) = N -> sm n (fun j => a i j * d j) = δ) : ∃ y' S' N', Pt a m n y' S' N' /\ N' * S <= N * S' /\ todo a m n y' N' < todo a m n y N /\ (∀ j, j < n -> y j = 0 -> y' j = 0) /\ ∀ i, i < m -> sm n (fun j => a i j * y j) = N -> sm n (fun j => a i j * y' j) = N' := by
 have hneg : ∃ j, j < n /\ d j < 0 := by
  refine Classical.byContradiction fun hc => ?_
  have hge : ∀ j, j < n -> 0 <= d j := fun j hj => by
   refine Classical.byContradiction fun h => hc ⟨j, hj, by omega⟩
  obtain ⟨j, hj, hne⟩ := hd
  have := tE hge ⟨j, hj, by have := hge j hj; omega⟩
  omega
 let num : Nat ⊕ Nat -> Int := fun x => match x with | .inl j => y j | .inr i => N - sm n (fun j => a i j * y j)
 let den : Nat ⊕ Nat -> Int := fun x => match x with | .inl j => - d j | .inr i => sm n (fun j => a i j * d j) - δ
 let L : List (Nat ⊕ Nat) := ((List.range n).filter fun j => decide (d j < 0)).map .inl ++ ((List.range m).filter fun i => decide (δ < sm n (fun j => a i j * d j))).map .inr
 have mL : ∀ j, j < n -> d j < 0 -> (.inl j : Nat ⊕ Nat) ∈ L := fun j hj h => List.mem_append_left _ (List.mem_map_of_mem (List.mem_filter.mpr ⟨List.mem_range.mpr hj, decide_eq_true h⟩))
 have mR : ∀ i, i < m -> δ < sm n (fun j => a i j * d j) -> (.inr i : Nat ⊕ Nat) ∈ L := fun i hi h => List.mem_append_right _ (List.mem_map_of_mem (List.mem_filter.mpr ⟨List.mem_range.mpr hi, decide_eq_true h⟩))
 have inL : ∀ x ∈ L, (∃ j, j < n /\ d j < 0 /\ x = .inl j) \/ ∃ i, i < m /\ δ < sm n (fun j => a i j * d j) /\ x = .inr i := by
  intro x hx
  rcases List.mem_append.mp hx with h | h
  ·obtain ⟨j, hj, rfl⟩ := List.mem_map.mp h
   obtain ⟨h1, h2⟩ := List.mem_filter.mp hj
   exact .inl ⟨j, List.mem_range.mp h1, of_decide_eq_true h2, rfl⟩
  ·obtain ⟨i, hi, rfl⟩ := List.mem_map.mp h
   obtain ⟨h1, h2⟩ := List.mem_filter.mp hi
   exact .inr ⟨i, List.mem_range.mp h1, of_decide_eq_true h2, rfl⟩
 have dp : ∀ x ∈ L, 0 < den x := by
  intro x hx
  rcases inL x hx with ⟨j, _, h, rfl⟩ | ⟨i, _, h, rfl⟩
  ·show 0 < - d j; omega
  ·show 0 < sm n (fun j => a i j * d j) - δ; omega
 obtain ⟨j0, hj0, hd0⟩ := hneg
 obtain ⟨x, hx, hmin⟩ := lw num den L (List.ne_nil_of_mem (mL j0 hj0 hd0)) dp
 have hq := dp x hx
 have hp : 0 <= num x := by
  rcases inL x hx with ⟨j, hj, h, rfl⟩ | ⟨i, hi, h, rfl⟩
  ·exact P.nn j hj
  ·show 0 <= N - sm n (fun j => a i j * y j)
   have := P.le i hi
   omega
 generalize hpe : num x = p at hmin hp
 generalize hqe : den x = q at hmin hq
 have g : ∀ i, sm n (fun j => a i j * (q * y j + p * d j)) = q * sm n (fun j => a i j * y j) + p * sm n (fun j => a i j * d j) := fun i => zN (a i) y d q p n
 have tight : ∀ i, i < m -> sm n (fun j => a i j * y j) = N -> sm n (fun j => a i j * (q * y j + p * d j)) = q * N + p * δ := fun i hi h => by
  rw [g i, h, ht i hi h]
 refine ⟨fun j => q * y j + p * d j, q * S, q * N + p * δ, ⟨Int.mul_pos hq P.pos, ?_, ?_, ?_, ?_⟩, ?_, ?_, fun j hj e => ?_, fun i hi e => tight i hi e⟩
 ·intro j hj
  show 0 <= q * y j + p * d j
  by_cases h : d j < 0
  ·have := hmin _ (mL j hj h)
   have h1 : p * (- d j) <= y j * q := this
   have e : p * (- d j) = - (p * d j) := Int.mul_neg ..
   have e2 : y j * q = q * y j := Int.mul_comm ..
   omega
  ·have h1 : 0 <= q * y j := Int.mul_nonneg (Int.le_of_lt hq) (P.nn j hj)
   have h2 : 0 <= p * d j := Int.mul_nonneg hp (by omega)
   omega
 ·have e : sm n (fun j => q * y j + p * d j) = q * sm n y + p * sm n d := by rw [<- sm_mul, <- sm_mul, <- jK]
  rw [e, h0, P.sum]
  omega
 ·intro i hi
  show sm n (fun j => a i j * (q * y j + p * d j)) <= q * N + p * δ
  rw [g i]
  have hle := P.le i hi
  by_cases h : δ < sm n (fun j => a i j * d j)
  ·have := hmin _ (mR i hi h)
   have h1 : p * (sm n (fun j => a i j * d j) - δ) <= (N - sm n (fun j => a i j * y j)) * q := this
   grind
  ·have h1 : p * sm n (fun j => a i j * d j) <= p * δ := Int.mul_le_mul_of_nonneg_left (by omega) hp
   have h2 : q * sm n (fun j => a i j * y j) <= q * N := Int.mul_le_mul_of_nonneg_left hle (Int.le_of_lt hq)
   omega
 ·obtain ⟨i, hi, h⟩ := P.ti
  exact ⟨i, hi, tight i hi h⟩
 ·have h1 : p * δ <= 0 := Int.mul_nonpos_of_nonneg_of_nonpos hp hδ
  have h2 : p * δ * S <= 0 := Int.mul_nonpos_of_nonpos_of_nonneg h1 (Int.le_of_lt P.pos)
  grind
 ·have s1 : ∀ j, j < n -> decide (q * y j + p * d j ≠ 0) = true -> decide (y j ≠ 0) = true := fun j hj h => by
   refine decide_eq_true fun e => ?_
   have := of_decide_eq_true h
   rw [e, hs j hj e] at this
   simp at this
  have s2 : ∀ i, i < m -> decide (sm n (fun j => a i j * (q * y j + p * d j)) ≠ q * N + p * δ) = true -> decide (sm n (fun j => a i j * y j) ≠ N) = true := fun i hi h => by
   refine decide_eq_true fun e => ?_
   exact of_decide_eq_true h (tight i hi e)
  have c1 := yq s1
  have c2 := yq s2
  show cnt (fun j => decide (q * y j + p * d j ≠ 0)) n + cnt (fun i => decide (sm n (fun j => a i j * (q * y j + p * d j)) ≠ q * N + p * δ)) m < cnt (fun j => decide (y j ≠ 0)) n + cnt (fun i => decide (sm n (fun j => a i j * y j) ≠ N)) m
  rcases inL x hx with ⟨j, hj, h, rfl⟩ | ⟨i, hi, h, rfl⟩
  ·have e1 : p = y j := hpe.symm
   have e2 : q = - d j := hqe.symm
   have : cnt (fun j => decide (q * y j + p * d j ≠ 0)) n < cnt (fun j => decide (y j ≠ 0)) n := by
    refine yx s1 ⟨j, hj, decide_eq_false ?_, decide_eq_true ?_⟩
    ·rw [e1, e2]
     intro z
     apply z
     grind
    ·intro z
     rw [hs j hj z] at h
     omega
   omega
  ·have e1 : p = N - sm n (fun j => a i j * y j) := hpe.symm
   have e2 : q = sm n (fun j => a i j * d j) - δ := hqe.symm
   have : cnt (fun i => decide (sm n (fun j => a i j * (q * y j + p * d j)) ≠ q * N + p * δ)) m < cnt (fun i => decide (sm n (fun j => a i j * y j) ≠ N)) m := by
    refine yx s2 ⟨i, hi, decide_eq_false ?_, decide_eq_true ?_⟩
    ·intro z
     apply z
     rw [g i, e1, e2]
     grind
    ·intro z
     rw [ht i hi z] at h
     omega
   omega
 ·show q * y j + p * d j = 0
  rw [e, hs j hj e]
  simp
def vZ (a : Nat -> Nat -> Int) (m n : Nat) (y : Nat -> Int) (N : Int) : Prop :=
 ∀ (d : Nat -> Int) (δ : Int), (∀ j, j < n -> y j = 0 -> d j = 0) -> sm n d = 0 -> (∀ i, i < m -> sm n (fun j => a i j * y j) = N -> sm n (fun j => a i j * d j) = δ) -> ∀ j, j < n -> d j = 0
theorem Fo {a : Nat -> Nat -> Int} {m n : Nat} : ∀ (k : Nat) {y : Nat -> Int} {S N : Int}, todo a m n y N = k -> Pt a m n y S N -> ∃ y' S' N', Pt a m n y' S' N' /\ N' * S <= N * S' /\ vZ a m n y' N' /\ (∀ j, j < n -> y j = 0 -> y' j = 0) /\ ∀ i, i < m -> sm n (fun j => a i j * y j) = N -> sm n (fun j => a i j * y' j) = N' := by
 intro k
 induction k using Nat.strongRecOn with
 | ind k ih =>
  intro y S N hk P
  by_cases hr : vZ a m n y N
  ·exact ⟨y, S, N, P, Int.le_refl _, hr, fun _ _ e => e, fun _ _ e => e⟩
  ·unfold vZ at hr
   obtain ⟨d, hr⟩ := Classical.not_forall.mp hr
   obtain ⟨δ, hr⟩ := Classical.not_forall.mp hr
   obtain ⟨hs, hr⟩ := Classical.not_forall.mp hr
   obtain ⟨h0, hr⟩ := Classical.not_forall.mp hr
   obtain ⟨ht, hr⟩ := Classical.not_forall.mp hr
   obtain ⟨j, hr⟩ := Classical.not_forall.mp hr
   obtain ⟨hj, hne⟩ := Classical.not_forall.mp hr
   have go : ∃ y' S' N', Pt a m n y' S' N' /\ N' * S <= N * S' /\ todo a m n y' N' < todo a m n y N /\ (∀ j, j < n -> y j = 0 -> y' j = 0) /\ ∀ i, i < m -> sm n (fun j => a i j * y j) = N -> sm n (fun j => a i j * y' j) = N' := by
    by_cases hδ : δ <= 0
    ·exact step P hs h0 ⟨j, hj, hne⟩ hδ ht
    ·refine step P (d := fun j => -1 * d j) (δ := -1 * δ) (fun j hj e => by rw [hs j hj e]; rfl) (by rw [sm_mul, h0]; rfl) ⟨j, hj, by omega⟩ (by omega) fun i hi e => ?_
     have e2 : sm n (fun j => a i j * (-1 * d j)) = -1 * sm n (fun j => a i j * d j) := by
      rw [<- sm_mul]
      exact sm_congr fun j _ => by grind
     rw [e2, ht i hi e]
   obtain ⟨y1, S1, N1, P1, l1, t1, u1, w1⟩ := go
   obtain ⟨y2, S2, N2, P2, l2, r2, u2, w2⟩ := ih _ (by omega) rfl P1
   refine ⟨y2, S2, N2, P2, ?_, r2, fun j hj e => u2 j hj (u1 j hj e), fun i hi e => w2 i hi (w1 i hi e)⟩
   have p1 := P1.pos
   have a1 : N2 * S1 * S <= N1 * S2 * S := Int.mul_le_mul_of_nonneg_right l2 (Int.le_of_lt P.pos)
   have a2 : N1 * S * S2 <= N * S1 * S2 := Int.mul_le_mul_of_nonneg_right l1 (Int.le_of_lt P2.pos)
   have a3 : N2 * S * S1 <= N * S2 * S1 := by grind
   exact Int.le_of_mul_le_mul_right a3 p1
end Gm
set_option Elab.async false
set_option linter.all false
namespace Gm
inductive Cone (Cs : List (Nat -> Int)) : (Nat -> Int) -> Prop
 | base {c} : c ∈ Cs -> Cone Cs c
 | comb {u v : Nat -> Int} {p q : Int} : Cone Cs u -> Cone Cs v -> 0 < p -> 0 <= q -> Cone Cs (fun i => p * u i + q * v i)
theorem Cone.trans {Cs Ds : List (Nat -> Int)} (h : ∀ c ∈ Ds, Cone Cs c) {v : Nat -> Int} (hv : Cone Ds v) : Cone Cs v := by
 induction hv with
 | base hc => exact h _ hc
 | comb _ _ hp hq ih1 ih2 => exact .comb ih1 ih2 hp hq
theorem Cone.le {Cs : List (Nat -> Int)} {i : Nat} (h : ∀ c ∈ Cs, c i <= 0) {v : Nat -> Int} (hv : Cone Cs v) : v i <= 0 := by
 induction hv with
 | base hc => exact h _ hc
 | @comb u v p q _ _ hp hq ih1 ih2 =>
  show p * u i + q * v i <= 0
  have h1 : p * u i <= 0 := Int.mul_nonpos_of_nonneg_of_nonpos (Int.le_of_lt hp) ih1
  have h2 : q * v i <= 0 := Int.mul_nonpos_of_nonneg_of_nonpos hq ih2
  omega
theorem Cone.weights {n : Nat} {a : Nat -> Nat -> Int} {v : Nat -> Int} (hv : Cone ((List.range n).map fun j i => a i j) v) : ∃ y : Nat -> Int, (∀ j, j < n -> 0 <= y j) /\ (∃ j, j < n /\ 0 < y j) /\ ∀ i, v i = sm n fun j => a i j * y j := by
 induction hv with
 | base hc =>
  obtain ⟨k, hk, rfl⟩ := List.mem_map.mp hc
  have hk := List.mem_range.mp hk
  refine ⟨fun j => if j = k then 1 else 0, fun j _ => by show (0 : Int) <= if j = k then 1 else 0; split <;> decide, ⟨k, hk, by simp⟩, fun i => ?_⟩
  have e : sm n (fun j => a i j * if j = k then 1 else 0) = sm n fun j => if j = k then a i k else 0 := sm_congr fun j _ => by
   by_cases h : j = k
   ·simp [h]
   ·simp [h]
  rw [e, sm_single, if_pos hk]
 | @comb u w p q _ _ hp hq ih1 ih2 =>
  obtain ⟨y, h1, ⟨k, hk, hk0⟩, h3⟩ := ih1
  obtain ⟨z, g1, _, g3⟩ := ih2
  refine ⟨fun j => p * y j + q * z j, fun j hj => ?_, ⟨k, hk, ?_⟩, fun i => ?_⟩
  ·exact Int.add_nonneg (Int.mul_nonneg (Int.le_of_lt hp) (h1 j hj)) (Int.mul_nonneg hq (g1 j hj))
  ·have a1 := Int.mul_pos hp hk0
   have a2 := Int.mul_nonneg hq (g1 k hk)
   show 0 < p * y k + q * z k
   omega
  ·rw [zN, <- h3, <- g3]
theorem xZ (f : Nat -> Int) : ∀ m, ∃ N : Int, 0 < N /\ ∀ i, i < m -> f i < N
 | 0 => ⟨1, by decide, fun i h => by omega⟩
 | m + 1 => by
  obtain ⟨N, h1, h2⟩ := xZ f m
  by_cases h : f m < N
  ·exact ⟨N, h1, fun i hi => by
    by_cases e : i = m
    ·rw [e]; exact h
    ·exact h2 i (by omega)⟩
  ·refine ⟨f m + 1, by omega, fun i hi => ?_⟩
   by_cases e : i = m
   ·rw [e]; omega
   ·have := h2 i (by omega)
    omega
theorem FJ (x u v : Nat -> Int) (p q : Int) (m : Nat) : sm m (fun i => x i * (p * u i + q * v i)) = p * sm m (fun i => x i * u i) + q * sm m (fun i => x i * v i) := by
 rw [<- sm_mul, <- sm_mul, <- jK]
 exact sm_congr fun j _ => by grind
theorem Fg (m : Nat) : ∀ Cs : List (Nat -> Int), Cs ≠ [] -> (∃ x : Nat -> Int, (∀ i, i < m -> 0 <= x i) /\ (∃ i, i < m /\ 0 < x i) /\ ∀ c ∈ Cs, 0 <= sm m fun i => x i * c i) \/ ∃ v, Cone Cs v /\ ∀ i, i < m -> v i < 0 := by
 induction m with
 | zero =>
  intro Cs h
  obtain ⟨c, hc⟩ := List.exists_mem_of_ne_nil _ h
  exact .inr ⟨c, .base hc, fun i hi => by omega⟩
 | succ m ih =>
  intro Cs hne
  by_cases hk : ∃ c0 ∈ Cs, c0 m < 0
  ·obtain ⟨c0, hc0, hb0⟩ := hk
   let Ds : List (Nat -> Int) := (Cs.filter fun c => decide (c m <= 0)) ++ (Cs.filter fun c => decide (0 < c m)).flatMap fun c => (Cs.filter fun c' => decide (c' m < 0)).map fun c' i => c m * c' i + (- c' m) * c i
   have hD1 : ∀ c ∈ Cs, c m <= 0 -> c ∈ Ds := fun c hc h => List.mem_append_left _ (List.mem_filter.mpr ⟨hc, decide_eq_true h⟩)
   have hD2 : ∀ c ∈ Cs, 0 < c m -> ∀ c' ∈ Cs, c' m < 0 -> (fun i => c m * c' i + (- c' m) * c i) ∈ Ds := fun c hc h c' hc' h' =>
    List.mem_append_right _ (List.mem_flatMap.mpr ⟨c, List.mem_filter.mpr ⟨hc, decide_eq_true h⟩, List.mem_map.mpr ⟨c', List.mem_filter.mpr ⟨hc', decide_eq_true h'⟩, rfl⟩⟩)
   have inD : ∀ d ∈ Ds, Cone Cs d /\ d m <= 0 := by
    intro d hd
    rcases List.mem_append.mp hd with h | h
    ·obtain ⟨h1, h2⟩ := List.mem_filter.mp h
     exact ⟨.base h1, of_decide_eq_true h2⟩
    ·obtain ⟨c, hc, h⟩ := List.mem_flatMap.mp h
     obtain ⟨h1, h2⟩ := List.mem_filter.mp hc
     have h2 := of_decide_eq_true h2
     obtain ⟨c', hc', rfl⟩ := List.mem_map.mp h
     obtain ⟨h3, h4⟩ := List.mem_filter.mp hc'
     have h4 := of_decide_eq_true h4
     refine ⟨.comb (.base h3) (.base h1) h2 (by omega), ?_⟩
     show c m * c' m + (- c' m) * c m <= 0
     grind
   rcases ih Ds (List.ne_nil_of_mem (hD1 c0 hc0 (Int.le_of_lt hb0))) with ⟨x, hx1, ⟨i0, hi0, hx2⟩, hx3⟩ | ⟨v, hv, hneg⟩
   ·left
    have key : ∃ p q : Int, 0 <= p /\ 0 < q /\ ∀ c ∈ Cs, 0 <= q * sm m (fun i => x i * c i) + p * c m := by
     by_cases hpos : ∃ c ∈ Cs, 0 < c m
     ·obtain ⟨c1, hc1, hb1⟩ := hpos
      obtain ⟨cs, hcs, hmin⟩ := lw (fun c : Nat -> Int => sm m fun i => x i * c i) (fun c => c m) (Cs.filter fun c => decide (0 < c m)) (List.ne_nil_of_mem (List.mem_filter.mpr ⟨hc1, decide_eq_true hb1⟩)) fun c hc => of_decide_eq_true (List.mem_filter.mp hc).2
      obtain ⟨hcs1, hcs2⟩ := List.mem_filter.mp hcs
      have hcs2 := of_decide_eq_true hcs2
      have hmin' : ∀ c ∈ Cs, 0 < c m -> sm m (fun i => x i * cs i) * c m <= sm m (fun i => x i * c i) * cs m := fun c hc h => hmin c (List.mem_filter.mpr ⟨hc, decide_eq_true h⟩)
      by_cases hs : 0 <= sm m (fun i => x i * cs i)
      ·refine ⟨0, 1, Int.le_refl _, by decide, fun c hc => ?_⟩
       have : 0 <= sm m (fun i => x i * c i) := by
        by_cases hb : 0 < c m
        ·have h1 := hmin' c hc hb
         have h2 : 0 <= sm m (fun i => x i * cs i) * c m := Int.mul_nonneg hs (Int.le_of_lt hb)
         have h3 : 0 <= sm m (fun i => x i * c i) * cs m := by omega
         refine Classical.byContradiction fun hc => ?_
         have := Int.mul_neg_of_neg_of_pos (show sm m (fun i => x i * c i) < 0 by omega) hcs2
         omega
        ·exact hx3 c (hD1 c hc (by omega))
       omega
      ·refine ⟨- sm m (fun i => x i * cs i), cs m, by omega, hcs2, fun c hc => ?_⟩
       by_cases hb : 0 < c m
       ·have h1 := hmin' c hc hb
        grind
       ·by_cases hz : c m = 0
        ·have h1 := hx3 c (hD1 c hc (by omega))
         rw [hz]
         have := Int.mul_nonneg (Int.le_of_lt hcs2) h1
         omega
        ·have h1 := hx3 _ (hD2 cs hcs1 hcs2 c hc (by omega))
         rw [FJ] at h1
         grind
     ·refine ⟨0, 1, Int.le_refl _, by decide, fun c hc => ?_⟩
      have h : c m <= 0 := Classical.byContradiction fun h => hpos ⟨c, hc, by omega⟩
      have := hx3 c (hD1 c hc h)
      omega
    obtain ⟨p, q, hp, hq, hall⟩ := key
    refine ⟨fun i => if i = m then p else q * x i, fun i hi => ?_, ⟨i0, by omega, ?_⟩, fun c hc => ?_⟩
    ·show 0 <= if i = m then p else q * x i
     split
     ·exact hp
     ·exact Int.mul_nonneg (Int.le_of_lt hq) (hx1 i (by omega))
    ·show 0 < if i0 = m then p else q * x i0
     rw [if_neg (by omega)]
     exact Int.mul_pos hq hx2
    ·show 0 <= sm m (fun i => (if i = m then p else q * x i) * c i) + (if m = m then p else q * x m) * c m
     rw [if_pos rfl]
     have e : sm m (fun i => (if i = m then p else q * x i) * c i) = q * sm m (fun i => x i * c i) := by
      rw [<- sm_mul]
      refine sm_congr fun i hi => ?_
      rw [if_neg (by omega), Int.mul_assoc]
     rw [e]
     exact hall c hc
   ·right
    obtain ⟨N, hN, hb⟩ := xZ c0 m
    have hv' : Cone Cs v := hv.trans fun d hd => (inD d hd).1
    have hvm : v m <= 0 := hv.le fun d hd => (inD d hd).2
    refine ⟨_, .comb hv' (.base hc0) hN (show (0 : Int) <= 1 by decide), fun i hi => ?_⟩
    show N * v i + 1 * c0 i < 0
    by_cases e : i = m
    ·rw [e]
     have : N * v m <= 0 := Int.mul_nonpos_of_nonneg_of_nonpos (Int.le_of_lt hN) hvm
     omega
    ·have h1 := hneg i (by omega)
     have h2 := hb i (by omega)
     have h3 : N * v i <= N * (-1) := Int.mul_le_mul_of_nonneg_left (by omega) (Int.le_of_lt hN)
     omega
  ·left
   refine ⟨fun i => if i = m then 1 else 0, fun i _ => by show (0 : Int) <= if i = m then 1 else 0; split <;> decide, ⟨m, by omega, by simp⟩, fun c hc => ?_⟩
   have e : sm (m + 1) (fun i => (if i = m then 1 else 0) * c i) = sm (m + 1) fun i => if i = m then c m else 0 := sm_congr fun i _ => by
    by_cases h : i = m
    ·simp [h]
    ·simp [h]
   rw [e, sm_single, if_pos (by omega)]
   exact Classical.byContradiction fun h => hk ⟨c, hc, by omega⟩
theorem alt (a : Nat -> Nat -> Int) (m n : Nat) (hn : 0 < n) :
  (∃ x : Nat -> Int, (∀ i, i < m -> 0 <= x i) /\ (∃ i, i < m /\ 0 < x i) /\ ∀ j, j < n -> 0 <= sm m fun i => x i * a i j) \/ ∃ y : Nat -> Int, (∀ j, j < n -> 0 <= y j) /\ (∃ j, j < n /\ 0 < y j) /\ ∀ i, i < m -> sm n (fun j => a i j * y j) < 0 := by
 have hne : (List.range n).map (fun j i => a i j) ≠ [] := fun e => by
  have := congrArg List.length e
  simp at this
  omega
 rcases Fg m _ hne with ⟨x, h1, h2, h3⟩ | ⟨v, hv, hneg⟩
 ·exact .inl ⟨x, h1, h2, fun j hj => h3 _ (List.mem_map.mpr ⟨j, List.mem_range.mpr hj, rfl⟩)⟩
 ·obtain ⟨y, h1, h2, h3⟩ := hv.weights
  exact .inr ⟨y, h1, h2, fun i hi => by rw [<- h3]; exact hneg i hi⟩
end Gm
set_option Elab.async false
set_option linter.all false
namespace Gm
def cut (r : List Int) (c : Nat) : List Int := r.take c ++ r.drop (c + 1)
def sg (c : Nat) : Int := if c % 2 = 0 then 1 else -1
def detN : Nat -> List (List Int) -> Int
 | 0, _ => 1
 | n + 1, M => sm (n + 1) fun c => sg c * (M.getD 0 []).getD c 0 * detN n ((M.drop 1).map fun r => cut r c)
def putC (r : List Int) (c : Nat) (x : Int) : List Int := r.take c ++ [x] ++ r.drop (c + 1)
def withC (M : List (List Int)) (c : Nat) (xs : List Int) : List (List Int) := List.zipWith (fun r x => putC r c x) M xs
abbrev cell (U : List (List Int)) (i j : Nat) : Int := (U.getD i []).getD j 0
def eqsM (U : List (List Int)) (R C : List Nat) : List (List Int) := List.replicate C.length 1 :: (R.drop 1).map fun i => C.map fun j => cell U i j - cell U (R.headD 0) j
def numsM (k : Nat) : List Int := 1 :: List.replicate (k - 1) 0
def wholeM (U : List (List Int)) (R C : List Nat) : Int := detN C.length (eqsM U R C)
def cF (U : List (List Int)) (R C : List Nat) (t : Nat) : Int := detN C.length (withC (eqsM U R C) t (numsM C.length))
def d2 (a b c d : Int) : Int := a * d - b * c
def d3 (a b c d e f g h i : Int) : Int := a * d2 e f h i - b * d2 d f g i + c * d2 d e g h
theorem Ik (x : Int) : detN 1 [[x]] = x := by simp [detN, sm, sg]
theorem ug (a b c d : Int) : detN 2 [[a, b], [c, d]] = d2 a b c d := by simp [detN, sm, sg, cut, d2]; grind
theorem pF (a b c d e f g h i : Int) : detN 3 [[a, b, c], [d, e, f], [g, h, i]] = d3 a b c d e f g h i := by
 have e : detN 3 [[a, b, c], [d, e, f], [g, h, i]] = 0 + 1 * a * detN 2 [[e, f], [h, i]] + (-1) * b * detN 2 [[d, f], [g, i]] + 1 * c * detN 2 [[d, e], [g, h]] := rfl
 rw [e, ug, ug, ug]
 unfold d3
 grind
theorem yI (a1 a2 a3 a4 b1 b2 b3 b4 c1 c2 c3 c4 e1 e2 e3 e4 : Int) : detN 4 [[a1, a2, a3, a4], [b1, b2, b3, b4], [c1, c2, c3, c4], [e1, e2, e3, e4]] =
  a1 * d3 b2 b3 b4 c2 c3 c4 e2 e3 e4 - a2 * d3 b1 b3 b4 c1 c3 c4 e1 e3 e4 + a3 * d3 b1 b2 b4 c1 c2 c4 e1 e2 e4 - a4 * d3 b1 b2 b3 c1 c2 c3 e1 e2 e3 := by
 have e : detN 4 [[a1, a2, a3, a4], [b1, b2, b3, b4], [c1, c2, c3, c4], [e1, e2, e3, e4]] =
  0 + 1 * a1 * detN 3 [[b2, b3, b4], [c2, c3, c4], [e2, e3, e4]] + (-1) * a2 * detN 3 [[b1, b3, b4], [c1, c3, c4], [e1, e3, e4]] + 1 * a3 * detN 3 [[b1, b2, b4], [c1, c2, c4], [e1, e2, e4]] + (-1) * a4 * detN 3 [[b1, b2, b3], [c1, c2, c3], [e1, e2, e3]] := rfl
 rw [e, pF, pF, pF, pF]
 grind
theorem Bj {l : List Nat} (h : l.length = 1) : ∃ a, l = [a] := List.length_eq_one_iff.mp h
theorem F_ {l : List Nat} {k : Nat} (h : l.length = k + 1) : ∃ a t, l = a :: t /\ t.length = k := by
 cases l with
 | nil => simp at h
 | cons a t => exact ⟨a, t, rfl, by simpa using h⟩
theorem BR {l : List Nat} (h : l.length = 2) : ∃ a b, l = [a, b] := by
 obtain ⟨a, t, rfl, ht⟩ := F_ h
 obtain ⟨b, rfl⟩ := Bj ht
 exact ⟨a, b, rfl⟩
theorem Bh {l : List Nat} (h : l.length = 3) : ∃ a b c, l = [a, b, c] := by
 obtain ⟨a, t, rfl, ht⟩ := F_ h
 obtain ⟨b, c, rfl⟩ := BR ht
 exact ⟨a, b, c, rfl⟩
theorem Ez {l : List Nat} (h : l.length = 4) : ∃ a b c d, l = [a, b, c, d] := by
 obtain ⟨a, t, rfl, ht⟩ := F_ h
 obtain ⟨b, c, d, rfl⟩ := Bh ht
 exact ⟨a, b, c, d, rfl⟩
theorem Ca {R C : List Nat} (h : R.length = C.length) (k : C.length = 1) : ∃ r c, R = [r] /\ C = [c] := by
 obtain ⟨c, rfl⟩ := Bj k
 obtain ⟨r, rfl⟩ := Bj h
 exact ⟨r, c, rfl, rfl⟩
theorem Dl {R C : List Nat} (h : R.length = C.length) (k : C.length = 2) : ∃ r s c d, R = [r, s] /\ C = [c, d] := by
 obtain ⟨c, d, rfl⟩ := BR k
 obtain ⟨r, s, rfl⟩ := BR h
 exact ⟨r, s, c, d, rfl, rfl⟩
theorem CG {R C : List Nat} (h : R.length = C.length) (k : C.length = 3) : ∃ r s t c d e, R = [r, s, t] /\ C = [c, d, e] := by
 obtain ⟨c, d, e, rfl⟩ := Bh k
 obtain ⟨r, s, t, rfl⟩ := Bh h
 exact ⟨r, s, t, c, d, e, rfl, rfl⟩
theorem CP {R C : List Nat} (h : R.length = C.length) (k : C.length = 4) : ∃ r s t u c d e f, R = [r, s, t, u] /\ C = [c, d, e, f] := by
 obtain ⟨c, d, e, f, rfl⟩ := Ez k
 obtain ⟨r, s, t, u, rfl⟩ := Ez h
 exact ⟨r, s, t, u, c, d, e, f, rfl, rfl⟩
section
variable (U : List (List Int))
theorem xN (r c : Nat) : wholeM U [r] [c] = 1 := Ik 1
theorem whole2 (r s c d : Nat) : wholeM U [r, s] [c, d] = d2 1 1 (cell U s c - cell U r c) (cell U s d - cell U r d) := ug ..
theorem xq (r s t c d e : Nat) : wholeM U [r, s, t] [c, d, e] = d3 1 1 1 (cell U s c - cell U r c) (cell U s d - cell U r d) (cell U s e - cell U r e) (cell U t c - cell U r c) (cell U t d - cell U r d) (cell U t e - cell U r e) := pF ..
theorem part1 (r c : Nat) : cF U [r] [c] 0 = 1 := Ik 1
theorem part20 (r s c d : Nat) : cF U [r, s] [c, d] 0 = d2 1 1 0 (cell U s d - cell U r d) := ug ..
theorem part21 (r s c d : Nat) : cF U [r, s] [c, d] 1 = d2 1 1 (cell U s c - cell U r c) 0 := ug ..
theorem Ei (r s t c d e : Nat) : cF U [r, s, t] [c, d, e] 0 = d3 1 1 1 0 (cell U s d - cell U r d) (cell U s e - cell U r e) 0 (cell U t d - cell U r d) (cell U t e - cell U r e) := pF ..
theorem Eh (r s t c d e : Nat) : cF U [r, s, t] [c, d, e] 1 = d3 1 1 1 (cell U s c - cell U r c) 0 (cell U s e - cell U r e) (cell U t c - cell U r c) 0 (cell U t e - cell U r e) := pF ..
theorem Dy (r s t c d e : Nat) : cF U [r, s, t] [c, d, e] 2 = d3 1 1 1 (cell U s c - cell U r c) (cell U s d - cell U r d) 0 (cell U t c - cell U r c) (cell U t d - cell U r d) 0 := pF ..
theorem yE (r s t u c d e f : Nat) : wholeM U [r, s, t, u] [c, d, e, f] = 1 * d3 (cell U s d - cell U r d) (cell U s e - cell U r e) (cell U s f - cell U r f) (cell U t d - cell U r d) (cell U t e - cell U r e) (cell U t f - cell U r f) (cell U u d - cell U r d) (cell U u e - cell U r e) (cell U u f - cell U r f) - 1 * d3 (cell U s c - cell U r c) (cell U s e - cell U r e) (cell U s f - cell U r f) (cell U t c - cell U r c) (cell U t e - cell U r e) (cell U t f - cell U r f) (cell U u c - cell U r c) (cell U u e - cell U r e) (cell U u f - cell U r f) + 1 * d3 (cell U s c - cell U r c) (cell U s d - cell U r d) (cell U s f - cell U r f) (cell U t c - cell U r c) (cell U t d - cell U r d) (cell U t f - cell U r f) (cell U u c - cell U r c) (cell U u d - cell U r d) (cell U u f - cell U r f) - 1 * d3 (cell U s c - cell U r c) (cell U s d - cell U r d) (cell U s e - cell U r e) (cell U t c - cell U r c) (cell U t d - cell U r d) (cell U t e - cell U r e) (cell U u c - cell U r c) (cell U u d - cell U r d) (cell U u e - cell U r e) := yI ..
theorem B_ (r s t u c d e f : Nat) : cF U [r, s, t, u] [c, d, e, f] 0 = 1 * d3 (cell U s d - cell U r d) (cell U s e - cell U r e) (cell U s f - cell U r f) (cell U t d - cell U r d) (cell U t e - cell U r e) (cell U t f - cell U r f) (cell U u d - cell U r d) (cell U u e - cell U r e) (cell U u f - cell U r f) - 1 * d3 0 (cell U s e - cell U r e) (cell U s f - cell U r f) 0 (cell U t e - cell U r e) (cell U t f - cell U r f) 0 (cell U u e - cell U r e) (cell U u f - cell U r f) + 1 * d3 0 (cell U s d - cell U r d) (cell U s f - cell U r f) 0 (cell U t d - cell U r d) (cell U t f - cell U r f) 0 (cell U u d - cell U r d) (cell U u f - cell U r f) - 1 * d3 0 (cell U s d - cell U r d) (cell U s e - cell U r e) 0 (cell U t d - cell U r d) (cell U t e - cell U r e) 0 (cell U u d - cell U r d) (cell U u e - cell U r e) := yI ..
theorem Cw (r s t u c d e f : Nat) : cF U [r, s, t, u] [c, d, e, f] 1 = 1 * d3 0 (cell U s e - cell U r e) (cell U s f - cell U r f) 0 (cell U t e - cell U r e) (cell U t f - cell U r f) 0 (cell U u e - cell U r e) (cell U u f - cell U r f) - 1 * d3 (cell U s c - cell U r c) (cell U s e - cell U r e) (cell U s f - cell U r f) (cell U t c - cell U r c) (cell U t e - cell U r e) (cell U t f - cell U r f) (cell U u c - cell U r c) (cell U u e - cell U r e) (cell U u f - cell U r f) + 1 * d3 (cell U s c - cell U r c) 0 (cell U s f - cell U r f) (cell U t c - cell U r c) 0 (cell U t f - cell U r f) (cell U u c - cell U r c) 0 (cell U u f - cell U r f) - 1 * d3 (cell U s c - cell U r c) 0 (cell U s e - cell U r e) (cell U t c - cell U r c) 0 (cell U t e - cell U r e) (cell U u c - cell U r c) 0 (cell U u e - cell U r e) := yI ..
theorem Dk (r s t u c d e f : Nat) : cF U [r, s, t, u] [c, d, e, f] 2 = 1 * d3 (cell U s d - cell U r d) 0 (cell U s f - cell U r f) (cell U t d - cell U r d) 0 (cell U t f - cell U r f) (cell U u d - cell U r d) 0 (cell U u f - cell U r f) - 1 * d3 (cell U s c - cell U r c) 0 (cell U s f - cell U r f) (cell U t c - cell U r c) 0 (cell U t f - cell U r f) (cell U u c - cell U r c) 0 (cell U u f - cell U r f) + 1 * d3 (cell U s c - cell U r c) (cell U s d - cell U r d) (cell U s f - cell U r f) (cell U t c - cell U r c) (cell U t d - cell U r d) (cell U t f - cell U r f) (cell U u c - cell U r c) (cell U u d - cell U r d) (cell U u f - cell U r f) - 1 * d3 (cell U s c - cell U r c) (cell U s d - cell U r d) 0 (cell U t c - cell U r c) (cell U t d - cell U r d) 0 (cell U u c - cell U r c) (cell U u d - cell U r d) 0 := yI ..
theorem Cq (r s t u c d e f : Nat) : cF U [r, s, t, u] [c, d, e, f] 3 = 1 * d3 (cell U s d - cell U r d) (cell U s e - cell U r e) 0 (cell U t d - cell U r d) (cell U t e - cell U r e) 0 (cell U u d - cell U r d) (cell U u e - cell U r e) 0 - 1 * d3 (cell U s c - cell U r c) (cell U s e - cell U r e) 0 (cell U t c - cell U r c) (cell U t e - cell U r e) 0 (cell U u c - cell U r c) (cell U u e - cell U r e) 0 + 1 * d3 (cell U s c - cell U r c) (cell U s d - cell U r d) 0 (cell U t c - cell U r c) (cell U t d - cell U r d) 0 (cell U u c - cell U r c) (cell U u d - cell U r d) 0 - 1 * d3 (cell U s c - cell U r c) (cell U s d - cell U r d) (cell U s e - cell U r e) (cell U t c - cell U r c) (cell U t d - cell U r d) (cell U t e - cell U r e) (cell U u c - cell U r c) (cell U u d - cell U r d) (cell U u e - cell U r e) := yI ..
end
def partsM (U : List (List Int)) (R C : List Nat) : List Int := (List.range C.length).map (cF U R C)
theorem BW (U : List (List Int)) {R C : List Nat} (h : R.length = C.length) (h0 : 0 < C.length) (h4 : C.length <= 4) : (partsM U R C).sum = wholeM U R C := by
 have hk : C.length = 1 \/ C.length = 2 \/ C.length = 3 \/ C.length = 4 := by omega
 rcases hk with k | k | k | k
 ·obtain ⟨r, c, rfl, rfl⟩ := Ca h k
  show cF U [r] [c] 0 + 0 = _
  rw [part1, xN]; rfl
 ·obtain ⟨r, s, c, d, rfl, rfl⟩ := Dl h k
  show cF U [r, s] [c, d] 0 + (cF U [r, s] [c, d] 1 + 0) = _
  rw [part20, part21, whole2]
  unfold d2; grind
 ·obtain ⟨r, s, t, c, d, e, rfl, rfl⟩ := CG h k
  show cF U [r, s, t] [c, d, e] 0 + (cF U [r, s, t] [c, d, e] 1 + (cF U [r, s, t] [c, d, e] 2 + 0)) = _
  rw [Ei, Eh, Dy, xq]
  unfold d3 d2; grind
 ·obtain ⟨r, s, t, u, c, d, e, f, rfl, rfl⟩ := CP h k
  show cF U [r, s, t, u] [c, d, e, f] 0 + (cF U [r, s, t, u] [c, d, e, f] 1 + (cF U [r, s, t, u] [c, d, e, f] 2 + (cF U [r, s, t, u] [c, d, e, f] 3 + 0))) = _
  rw [yE, B_, Cw, Dk, Cq]
  generalize cell U s c - cell U r c = b1
  generalize cell U s d - cell U r d = b2
  generalize cell U s e - cell U r e = b3
  generalize cell U s f - cell U r f = b4
  generalize cell U t c - cell U r c = c1
  generalize cell U t d - cell U r d = c2
  generalize cell U t e - cell U r e = c3
  generalize cell U t f - cell U r f = c4
  generalize cell U u c - cell U r c = e1
  generalize cell U u d - cell U r d = e2
  generalize cell U u e - cell U r e = e3
  generalize cell U u f - cell U r f = e4
  unfold d3 d2
  grind
def wsum (f : Nat -> Int) : List Nat -> List Int -> Int
 | c :: C, p :: ps => f c * p + wsum f C ps
 | _, _ => 0
theorem Js (U : List (List Int)) {R C : List Nat} {ps : List Int} {S : Int} (h : R.length = C.length) (h0 : 0 < C.length) (h4 : C.length <= 4) (hp : ps.length = C.length) (hS : ps.sum = S)
  (he : ∀ i ∈ R, wsum (cell U i) C ps = wsum (cell U (R.headD 0)) C ps) : ∀ t, t < C.length -> wholeM U R C * ps.getD t 0 = S * cF U R C t := by
 have hk : C.length = 1 \/ C.length = 2 \/ C.length = 3 \/ C.length = 4 := by omega
 have lenI : ∀ {l : List Int} {k : Nat}, l.length = k + 1 -> ∃ a t, l = a :: t /\ t.length = k := by
  intro l k h
  cases l with
  | nil => simp at h
  | cons a t => exact ⟨a, t, rfl, by simpa using h⟩
 rcases hk with k | k | k | k
 ·obtain ⟨r, c, rfl, rfl⟩ := Ca h k
  obtain ⟨p, t, rfl, ht⟩ := lenI hp
  obtain rfl := List.eq_nil_of_length_eq_zero ht
  intro t ht
  have : t = 0 := by simp at ht; omega
  subst this
  rw [part1, xN]
  simp at hS ⊢
  exact hS
 ·obtain ⟨r, s, c, d, rfl, rfl⟩ := Dl h k
  obtain ⟨p, l1, rfl, k1⟩ := lenI hp
  obtain ⟨q, l2, rfl, k2⟩ := lenI k1
  obtain rfl := List.eq_nil_of_length_eq_zero k2
  have e1 := he s (by simp)
  simp only [wsum, List.headD_cons] at e1
  simp only [List.sum_cons, List.sum_nil] at hS
  intro t ht
  have ht : t = 0 \/ t = 1 := by simp at ht; omega
  rcases ht with rfl | rfl
  ·rw [part20, whole2]
   show _ * p = _
   unfold d2; grind
  ·rw [part21, whole2]
   show _ * q = _
   unfold d2; grind
 ·obtain ⟨r, s, t, c, d, e, rfl, rfl⟩ := CG h k
  obtain ⟨p, l1, rfl, k1⟩ := lenI hp
  obtain ⟨q, l2, rfl, k2⟩ := lenI k1
  obtain ⟨u, l3, rfl, k3⟩ := lenI k2
  obtain rfl := List.eq_nil_of_length_eq_zero k3
  have e1 := he s (by simp)
  have e2 := he t (by simp)
  simp only [wsum, List.headD_cons] at e1 e2
  simp only [List.sum_cons, List.sum_nil] at hS
  intro x hx
  have hx : x = 0 \/ x = 1 \/ x = 2 := by simp at hx; omega
  have f1 : (cell U s c - cell U r c) * p + (cell U s d - cell U r d) * q + (cell U s e - cell U r e) * u = 0 := by grind
  have f2 : (cell U t c - cell U r c) * p + (cell U t d - cell U r d) * q + (cell U t e - cell U r e) * u = 0 := by grind
  rw [xq]
  rcases hx with rfl | rfl | rfl
  ·rw [Ei]
   show _ * p = _
   generalize cell U s c - cell U r c = b1 at f1 ⊢
   generalize cell U s d - cell U r d = b2 at f1 ⊢
   generalize cell U s e - cell U r e = b3 at f1 ⊢
   generalize cell U t c - cell U r c = c1 at f2 ⊢
   generalize cell U t d - cell U r d = c2 at f2 ⊢
   generalize cell U t e - cell U r e = c3 at f2 ⊢
   unfold d3 d2; grind
  ·rw [Eh]
   show _ * q = _
   generalize cell U s c - cell U r c = b1 at f1 ⊢
   generalize cell U s d - cell U r d = b2 at f1 ⊢
   generalize cell U s e - cell U r e = b3 at f1 ⊢
   generalize cell U t c - cell U r c = c1 at f2 ⊢
   generalize cell U t d - cell U r d = c2 at f2 ⊢
   generalize cell U t e - cell U r e = c3 at f2 ⊢
   unfold d3 d2; grind
  ·rw [Dy]
   show _ * u = _
   generalize cell U s c - cell U r c = b1 at f1 ⊢
   generalize cell U s d - cell U r d = b2 at f1 ⊢
   generalize cell U s e - cell U r e = b3 at f1 ⊢
   generalize cell U t c - cell U r c = c1 at f2 ⊢
   generalize cell U t d - cell U r d = c2 at f2 ⊢
   generalize cell U t e - cell U r e = c3 at f2 ⊢
   unfold d3 d2; grind
 ·obtain ⟨r, s, t, u, c, d, e, f, rfl, rfl⟩ := CP h k
  obtain ⟨p1, l1, rfl, k1⟩ := lenI hp
  obtain ⟨p2, l2, rfl, k2⟩ := lenI k1
  obtain ⟨p3, l3, rfl, k3⟩ := lenI k2
  obtain ⟨p4, l4, rfl, k4⟩ := lenI k3
  obtain rfl := List.eq_nil_of_length_eq_zero k4
  have g1 := he s (by simp)
  have g2 := he t (by simp)
  have g3 := he u (by simp)
  simp only [wsum, List.headD_cons] at g1 g2 g3
  simp only [List.sum_cons, List.sum_nil] at hS
  have f1 : (cell U s c - cell U r c) * p1 + (cell U s d - cell U r d) * p2 + (cell U s e - cell U r e) * p3 + (cell U s f - cell U r f) * p4 = 0 := by grind
  have f2 : (cell U t c - cell U r c) * p1 + (cell U t d - cell U r d) * p2 + (cell U t e - cell U r e) * p3 + (cell U t f - cell U r f) * p4 = 0 := by grind
  have f3 : (cell U u c - cell U r c) * p1 + (cell U u d - cell U r d) * p2 + (cell U u e - cell U r e) * p3 + (cell U u f - cell U r f) * p4 = 0 := by grind
  have hS' : p1 + p2 + p3 + p4 = S := by omega
  clear he g1 g2 g3
  intro x hx
  have hx : x = 0 \/ x = 1 \/ x = 2 \/ x = 3 := by simp at hx; omega
  rw [yE]
  rcases hx with rfl | rfl | rfl | rfl
  all_goals
   first
    | (rw [B_]; show _ * p1 = _)
    | (rw [Cw]; show _ * p2 = _)
    | (rw [Dk]; show _ * p3 = _)
    | (rw [Cq]; show _ * p4 = _)
  all_goals
   clear h h0 hx lenI h4 hp hS k k1 k2 k3 k4
   generalize cell U s c - cell U r c = b1 at f1 ⊢
   generalize cell U s d - cell U r d = b2 at f1 ⊢
   generalize cell U s e - cell U r e = b3 at f1 ⊢
   generalize cell U s f - cell U r f = b4 at f1 ⊢
   generalize cell U t c - cell U r c = c1 at f2 ⊢
   generalize cell U t d - cell U r d = c2 at f2 ⊢
   generalize cell U t e - cell U r e = c3 at f2 ⊢
   generalize cell U t f - cell U r f = c4 at f2 ⊢
   generalize cell U u c - cell U r c = e1 at f3 ⊢
   generalize cell U u d - cell U r d = e2 at f3 ⊢
   generalize cell U u e - cell U r e = e3 at f3 ⊢
   generalize cell U u f - cell U r f = e4 at f3 ⊢
   unfold d3 d2
   grind
end Gm
set_option Elab.async false
set_option linter.all false
namespace Gm
def chM : Nat -> List (List Nat)
 | 0 => [[]]
 | n + 1 => chM n ++ (chM n).map fun c => c ++ [n]
theorem mem_chM : ∀ {m : Nat} {R : List Nat}, R.Sublist (List.range m) ↔ R ∈ chM m
 | 0, R => by
  show R.Sublist [] ↔ R ∈ [[]]
  rw [List.sublist_nil, List.mem_singleton]
 | m + 1, R => by
  rw [List.range_succ, List.sublist_append_iff]
  show _ ↔ R ∈ chM m ++ (chM m).map fun c => c ++ [m]
  rw [List.mem_append, List.mem_map]
  constructor
  ·rintro ⟨R1, R2, rfl, h1, h2⟩
   have h1 := mem_chM.mp h1
   cases h2 with
   | cons _ h =>
    rw [List.sublist_nil.mp h, List.append_nil]; exact .inl h1
   | cons_cons _ h =>
    rw [List.sublist_nil.mp h]; exact .inr ⟨R1, h1, rfl⟩
  ·rintro (h | ⟨R1, h, rfl⟩)
   ·exact ⟨R, [], by simp, mem_chM.mpr h, List.nil_sublist _⟩
   ·exact ⟨R1, [m], rfl, mem_chM.mpr h, List.Sublist.refl _⟩
def yOf (C : List Nat) (ps : List Int) (j : Nat) : Int := wsum (fun c => if c = j then 1 else 0) C ps
theorem yOf_cons (c : Nat) (C : List Nat) (p : Int) (ps : List Int) (j : Nat) : yOf (c :: C) (p :: ps) j = (if j = c then p else 0) + yOf C ps j := by
 show (if c = j then (1 : Int) else 0) * p + yOf C ps j = _
 by_cases h : j = c
 ·rw [if_pos h, if_pos h.symm]; omega
 ·rw [if_neg h, if_neg fun e => h e.symm]; omega
theorem iM (f : Nat -> Int) (ps : List Int) : wsum f [] ps = 0 := by cases ps <;> rfl
theorem kh (f : Nat -> Int) (C : List Nat) : wsum f C [] = 0 := by cases C <;> rfl
theorem oR (f : Nat -> Int) (n : Nat) : ∀ (C : List Nat) (ps : List Int), (∀ c ∈ C, c < n) -> sm n (fun j => f j * yOf C ps j) = wsum f C ps
 | [], ps, _ => by
  have e : sm n (fun j => f j * yOf [] ps j) = sm n fun _ => 0 := sm_congr fun j _ => by
   unfold yOf
   rw [iM]; simp
  rw [e, tV, iM]
 | c :: C, [], _ => by
  have e : sm n (fun j => f j * yOf (c :: C) [] j) = sm n fun _ => 0 := sm_congr fun j _ => by
   unfold yOf
   rw [kh]; simp
  rw [e, tV, kh]
 | c :: C, p :: ps, h => by
  have e : sm n (fun j => f j * yOf (c :: C) (p :: ps) j) = sm n (fun j => (if j = c then f c * p else 0) + f j * yOf C ps j) := sm_congr fun j _ => by
   rw [yOf_cons, Int.mul_add]
   by_cases hj : j = c
   ·rw [if_pos hj, if_pos hj, hj]
   ·rw [if_neg hj, if_neg hj, Int.mul_zero]
  rw [e, jK, sm_single, if_pos (h c (by simp)), oR f n C ps fun x hx => h x (by simp [hx])]
  rfl
theorem xf : ∀ (C : List Nat) (ps : List Int), ps.length = C.length -> wsum (fun _ => 1) C ps = ps.sum
 | [], [], _ => rfl
 | c :: C, p :: ps, h => by
  show 1 * p + wsum (fun _ => 1) C ps = _
  rw [xf C ps (by simpa using h), List.sum_cons]; omega
 | [], _ :: _, h => by simp at h
 | _ :: _, [], h => by simp at h
theorem yOf_sum {n : Nat} {C : List Nat} {ps : List Int} (h : ∀ c ∈ C, c < n) (hl : ps.length = C.length) : sm n (yOf C ps) = ps.sum := by
 have := oR (fun _ => 1) n C ps h
 rw [xf C ps hl] at this
 rw [<- this]
 exact sm_congr fun j _ => by simp
theorem yOf_out : ∀ {C : List Nat} {ps : List Int} {j : Nat}, j ∉ C -> yOf C ps j = 0
 | [], ps, j, _ => iM _ _
 | c :: C, [], j, _ => kh _ _
 | c :: C, p :: ps, j, h => by
  rw [yOf_cons, if_neg fun e => h (by simp [e]), yOf_out fun q => h (by simp [q])]; rfl
theorem DP : ∀ {C : List Nat} {ps : List Int}, C.Nodup -> ps.length = C.length -> ∀ t, t < C.length -> yOf C ps (C.getD t 0) = ps.getD t 0
 | [], _, _, _, t, h => by simp at h
 | c :: C, [], _, h, t, _ => by simp at h
 | c :: C, p :: ps, hn, hl, 0, _ => by
  show yOf (c :: C) (p :: ps) c = p
  rw [yOf_cons, if_pos rfl, yOf_out (List.nodup_cons.mp hn).1]; omega
 | c :: C, p :: ps, hn, hl, t + 1, h => by
  show yOf (c :: C) (p :: ps) (C.getD t 0) = ps.getD t 0
  have ht : t < C.length := by simpa using h
  have hm : C.getD t 0 ∈ C := by
   rw [List.getD_eq_getElem?_getD, List.getElem?_eq_getElem ht]
   exact List.getElem_mem ht
  rw [yOf_cons, if_neg fun e => (List.nodup_cons.mp hn).1 (by rw [<- e]; exact hm), DP (List.nodup_cons.mp hn).2 (by simpa using hl) t ht]; omega
theorem Aq {y : Nat -> Int} : ∀ {C : List Nat}, C.Nodup -> ∀ j, yOf C (C.map y) j = if j ∈ C then y j else 0
 | [], _, j => by simp [yOf, wsum]
 | c :: C, hn, j => by
  rw [List.map_cons, yOf_cons, Aq (List.nodup_cons.mp hn).2 j]
  by_cases h : j = c
  ·subst h
   rw [if_pos rfl, if_neg (List.nodup_cons.mp hn).1, if_pos (by simp)]; omega
  ·rw [if_neg h]
   by_cases q : j ∈ C
   ·rw [if_pos q, if_pos (by simp [q])]; omega
   ·rw [if_neg q, if_neg (by simp [h, q])]; rfl
theorem J0 (l : List (Int × Int)) (h : ∀ u ∈ l, ∀ v ∈ l, u.1 * v.2 - u.2 * v.1 = 0) : ∃ x y : Int, (x ≠ 0 \/ y ≠ 0) /\ ∀ u ∈ l, u.1 * x + u.2 * y = 0 := by
 by_cases hz : ∃ v ∈ l, v.1 ≠ 0 \/ v.2 ≠ 0
 ·obtain ⟨v, hv, hne⟩ := hz
  refine ⟨v.2, - v.1, by omega, fun u hu => ?_⟩
  have := h u hu v hv
  grind
 ·refine ⟨1, 0, .inl (by decide), fun u hu => ?_⟩
  have : u.1 = 0 := Classical.byContradiction fun e => hz ⟨u, hu, .inl e⟩
  rw [this]; simp
theorem lK {x y : Int} (h : x * y = 0) (hx : x ≠ 0) : y = 0 := (Int.mul_eq_zero.mp h).resolve_left hx
theorem Bp (u1 u2 u3 v1 v2 v3 w1 w2 w3 : Int) (h : d3 u1 u2 u3 v1 v2 v3 w1 w2 w3 = 0) :
  ∃ x y z : Int, (x ≠ 0 \/ y ≠ 0 \/ z ≠ 0) /\ u1 * x + u2 * y + u3 * z = 0 /\ v1 * x + v2 * y + v3 * z = 0 /\ w1 * x + w2 * y + w3 * z = 0 := by
 unfold d3 d2 at h
 by_cases A : u2 * v3 - u3 * v2 ≠ 0 \/ u3 * v1 - u1 * v3 ≠ 0 \/ u1 * v2 - u2 * v1 ≠ 0
 ·exact ⟨_, _, _, A, by grind, by grind, by grind⟩
 by_cases B : u2 * w3 - u3 * w2 ≠ 0 \/ u3 * w1 - u1 * w3 ≠ 0 \/ u1 * w2 - u2 * w1 ≠ 0
 ·exact ⟨_, _, _, B, by grind, by grind, by grind⟩
 by_cases D : v2 * w3 - v3 * w2 ≠ 0 \/ v3 * w1 - v1 * w3 ≠ 0 \/ v1 * w2 - v2 * w1 ≠ 0
 ·exact ⟨_, _, _, D, by grind, by grind, by grind⟩
 have a1 : u2 * v3 - u3 * v2 = 0 := by omega
 have a2 : u3 * v1 - u1 * v3 = 0 := by omega
 have a3 : u1 * v2 - u2 * v1 = 0 := by omega
 have b1 : u2 * w3 - u3 * w2 = 0 := by omega
 have b2 : u3 * w1 - u1 * w3 = 0 := by omega
 have b3 : u1 * w2 - u2 * w1 = 0 := by omega
 have c1 : v2 * w3 - v3 * w2 = 0 := by omega
 have c2 : v3 * w1 - v1 * w3 = 0 := by omega
 have c3 : v1 * w2 - v2 * w1 = 0 := by omega
 clear A B D h
 by_cases hu : u1 ≠ 0 \/ u2 ≠ 0
 ·exact ⟨u2, -u1, 0, by omega, by grind, by grind, by grind⟩
 have hu1 : u1 = 0 := by omega
 have hu2 : u2 = 0 := by omega
 subst hu1 hu2
 by_cases hu3 : u3 ≠ 0
 ·have q1 : v2 = 0 := lK (x := u3) (by omega) hu3
  have q2 : v1 = 0 := lK (x := u3) (by omega) hu3
  have q3 : w2 = 0 := lK (x := u3) (by omega) hu3
  have q4 : w1 = 0 := lK (x := u3) (by omega) hu3
  exact ⟨1, 0, 0, by decide, by simp, by simp [q2], by simp [q4]⟩
 have hu3 : u3 = 0 := by omega
 subst hu3
 by_cases hv : v1 ≠ 0 \/ v2 ≠ 0
 ·exact ⟨v2, -v1, 0, by omega, by grind, by grind, by grind⟩
 have hv1 : v1 = 0 := by omega
 have hv2 : v2 = 0 := by omega
 subst hv1 hv2
 by_cases hv3 : v3 ≠ 0
 ·have q4 : w1 = 0 := lK (x := v3) (by omega) hv3
  exact ⟨1, 0, 0, by decide, by simp, by simp, by simp [q4]⟩
 have hv3 : v3 = 0 := by omega
 subst hv3
 by_cases hw : w1 ≠ 0 \/ w2 ≠ 0
 ·exact ⟨w2, -w1, 0, by omega, by grind, by grind, by grind⟩
 have hw1 : w1 = 0 := by omega
 subst hw1
 exact ⟨1, 0, 0, by decide, by simp, by simp, by simp⟩
theorem yp : ∀ {l : List Nat} {i j : Nat}, i ∈ l -> j ∈ l -> i ≠ j -> [i, j].Sublist l \/ [j, i].Sublist l
 | [], i, j, h, _, _ => nomatch h
 | x :: l, i, j, hi, hj, hne => by
  rcases List.mem_cons.mp hi with e | hi'
  ·subst e
   rcases List.mem_cons.mp hj with e | hj'
   ·exact absurd e.symm hne
   ·exact .inl (.cons₂ _ (List.singleton_sublist.mpr hj'))
  ·rcases List.mem_cons.mp hj with e | hj'
   ·subst e
    exact .inr (.cons₂ _ (List.singleton_sublist.mpr hi'))
   ·rcases yp hi' hj' hne with h | h
    ·exact .inl (.cons _ h)
    ·exact .inr (.cons _ h)
theorem rank {U : List (List Int)} {m n : Nat} {y : Nat -> Int} {S N : Int} (P : Pt (cell U) m n y S N) (hr : vZ (cell U) m n y N) (m4 : m <= 4) (n4 : n <= 4) :
  ∃ R C : List Nat, R.Sublist (List.range m) /\ C.Sublist (List.range n) /\ R.length = C.length /\ 0 < C.length /\ (∀ c ∈ C, 0 < y c) /\ (∀ j, j < n -> j ∉ C -> y j = 0) /\
   (∀ i ∈ R, sm n (fun j => cell U i j * y j) = N) /\ wholeM U R C ≠ 0 := by
 let C := (List.range n).filter fun j => decide (y j ≠ 0)
 let T := (List.range m).filter fun i => decide (sm n (fun j => cell U i j * y j) = N)
 have Cs : C.Sublist (List.range n) := List.filter_sublist
 have Ts : T.Sublist (List.range m) := List.filter_sublist
 have Cn : C.Nodup := Cs.nodup List.nodup_range
 have inC : ∀ j, j ∈ C ↔ j < n /\ y j ≠ 0 := fun j => by simp [C]
 have inT : ∀ i, i ∈ T ↔ i < m /\ sm n (fun j => cell U i j * y j) = N := fun i => by simp [T]
 have Cp : ∀ c ∈ C, 0 < y c := fun c hc => by
  obtain ⟨h1, h2⟩ := (inC c).mp hc
  have := P.nn c h1
  omega
 have Co : ∀ j, j < n -> j ∉ C -> y j = 0 := fun j hj h => Classical.byContradiction fun e => h ((inC j).mpr ⟨hj, e⟩)
 have C0 : 0 < C.length := by
  obtain ⟨j, hj, hp⟩ := Gu (by rw [P.sum]; exact P.pos)
  exact List.length_pos_of_mem ((inC j).mpr ⟨hj, by omega⟩)
 have C4 : C.length <= 4 := by
  have := Cs.length_le
  rw [List.length_range] at this
  omega
 have T4 : T.length <= 4 := by
  have := Ts.length_le
  rw [List.length_range] at this
  omega
 obtain ⟨t0, T', hT⟩ : ∃ t0 T', T = t0 :: T' := by
  obtain ⟨i, hi, h⟩ := P.ti
  cases hT : T with
  | nil =>
   have := (inT i).mpr ⟨hi, h⟩
   rw [hT] at this
   cases this
  | cons a l => exact ⟨a, l, rfl⟩
 have rc : ∀ qs : List Int, qs.length = C.length -> qs.sum = 0 -> (∀ i ∈ T', wsum (cell U i) C qs = wsum (cell U t0) C qs) -> ∀ t, t < C.length -> qs.getD t 0 = 0 := by
  intro qs hl hs he t ht
  have hC : ∀ c ∈ C, c < n := fun c hc => ((inC c).mp hc).1
  rw [<- DP Cn hl t ht]
  refine hr (yOf C qs) (wsum (cell U t0) C qs) (fun j hj e => yOf_out fun h => ((inC j).mp h).2 e) (by rw [yOf_sum hC hl, hs]) (fun i hi e => ?_) _ (hC _ ?_)
  ·rw [oR _ n C qs hC]
   have := (inT i).mpr ⟨hi, e⟩
   rw [hT] at this
   rcases List.mem_cons.mp this with rfl | h
   ·rfl
   ·exact he i h
  ·rw [List.getD_eq_getElem?_getD, List.getElem?_eq_getElem ht]
   exact List.getElem_mem ht
 have fin : ∀ R : List Nat, R.Sublist T -> R.length = C.length -> wholeM U R C ≠ 0 -> ∃ R C : List Nat, R.Sublist (List.range m) /\ C.Sublist (List.range n) /\ R.length = C.length /\ 0 < C.length /\ (∀ c ∈ C, 0 < y c) /\ (∀ j, j < n -> j ∉ C -> y j = 0) /\
   (∀ i ∈ R, sm n (fun j => cell U i j * y j) = N) /\ wholeM U R C ≠ 0 :=
  fun R h1 h2 h3 => ⟨R, C, h1.trans Ts, Cs, h2, C0, Cp, Co, fun i hi => ((inT i).mp (h1.subset hi)).2, h3⟩
 clear_value C
 have hk : C.length = 1 \/ C.length = 2 \/ C.length = 3 \/ C.length = 4 := by omega
 rcases hk with k | k | k | k
 ·obtain ⟨c, rfl⟩ := Bj k
  refine fin [t0] (by rw [hT]; exact .cons₂ _ (List.nil_sublist _)) rfl ?_
  rw [xN]; decide
 ·obtain ⟨c, d, rfl⟩ := BR k
  by_cases h : ∃ i ∈ T', wholeM U [t0, i] [c, d] ≠ 0
  ·obtain ⟨i, hi, h⟩ := h
   exact fin [t0, i] (by rw [hT]; exact .cons₂ _ (List.singleton_sublist.mpr hi)) rfl h
  ·exfalso
   have := rc [1, -1] rfl rfl (fun i hi => ?_) 0 (by simp)
   ·exact absurd this (by decide)
   ·have : wholeM U [t0, i] [c, d] = 0 := Classical.byContradiction fun e => h ⟨i, hi, e⟩
    rw [whole2] at this
    unfold d2 at this
    simp only [wsum]
    omega
 ·obtain ⟨c, d, e, rfl⟩ := Bh k
  by_cases h : ∃ i j, [i, j].Sublist T' /\ wholeM U [t0, i, j] [c, d, e] ≠ 0
  ·obtain ⟨i, j, hs, h⟩ := h
   exact fin [t0, i, j] (by rw [hT]; exact .cons₂ _ hs) rfl h
  ·exfalso
   let b : Nat -> Nat -> Int := fun i x => cell U i x - cell U t0 x
   have hz : ∀ i j, [i, j].Sublist T' -> d3 1 1 1 (b i c) (b i d) (b i e) (b j c) (b j d) (b j e) = 0 := fun i j hs => by
    rw [<- xq]
    exact Classical.byContradiction fun z => h ⟨i, j, hs, z⟩
   obtain ⟨x, z, hne, ho⟩ := J0 (T'.map fun i => (b i c - b i e, b i d - b i e)) (by
    intro u hu v hv
    obtain ⟨i, hi, rfl⟩ := List.mem_map.mp hu
    obtain ⟨j, hj, rfl⟩ := List.mem_map.mp hv
    by_cases q : i = j
    ·rw [q]
     show (b j c - b j e) * (b j d - b j e) - (b j d - b j e) * (b j c - b j e) = 0
     grind
    ·show (b i c - b i e) * (b j d - b j e) - (b i d - b i e) * (b j c - b j e) = 0
     rcases yp hi hj q with s | s
     ·have := hz i j s
      unfold d3 d2 at this
      grind
     ·have := hz j i s
      unfold d3 d2 at this
      grind)
   have hq := rc [x, z, -x - z] rfl (by simp only [List.sum_cons, List.sum_nil]; omega) (fun i hi => by
    have := ho _ (List.mem_map_of_mem hi)
    have q : (b i c - b i e) * x + (b i d - b i e) * z = 0 := this
    simp only [wsum]
    have b1 : b i c = cell U i c - cell U t0 c := rfl
    have b2 : b i d = cell U i d - cell U t0 d := rfl
    have b3 : b i e = cell U i e - cell U t0 e := rfl
    rw [b1, b2, b3] at q
    grind)
   have q0 : x = 0 := hq 0 (by simp)
   have q1 : z = 0 := hq 1 (by simp)
   omega
 ·obtain ⟨c, d, e, f, rfl⟩ := Ez k
  let b : Nat -> Nat -> Int := fun i x => cell U i x - cell U t0 x
  have pick : (∃ i j l, T' = [i, j, l] /\ wholeM U [t0, i, j, l] [c, d, e, f] ≠ 0) \/ ∃ x z w : Int, (x ≠ 0 \/ z ≠ 0 \/ w ≠ 0) /\ ∀ i ∈ T', (b i c - b i f) * x + (b i d - b i f) * z + (b i e - b i f) * w = 0 := by
   have T3 : T'.length <= 3 := by
    have := T4
    rw [hT, List.length_cons] at this
    omega
   match hT' : T', T3 with
   | [], _ => exact .inr ⟨1, 0, 0, by decide, fun i hi => nomatch hi⟩
   | [i], _ =>
    obtain ⟨x, z, w, hne, h1, _, _⟩ := Bp (b i c - b i f) (b i d - b i f) (b i e - b i f) 0 0 0 0 0 0 (by simp [d3, d2])
    exact .inr ⟨x, z, w, hne, fun q hq => by rw [List.mem_singleton.mp hq]; exact h1⟩
   | [i, j], _ =>
    obtain ⟨x, z, w, hne, h1, h2, _⟩ := Bp (b i c - b i f) (b i d - b i f) (b i e - b i f) (b j c - b j f) (b j d - b j f) (b j e - b j f) 0 0 0 (by simp [d3, d2])
    refine .inr ⟨x, z, w, hne, fun q hq => ?_⟩
    rcases List.mem_cons.mp hq with rfl | hq
    ·exact h1
    ·rw [List.mem_singleton.mp hq]; exact h2
   | [i, j, l], _ =>
    by_cases hw : wholeM U [t0, i, j, l] [c, d, e, f] = 0
    ·have ht : d3 (b i c - b i f) (b i d - b i f) (b i e - b i f) (b j c - b j f) (b j d - b j f) (b j e - b j f) (b l c - b l f) (b l d - b l f) (b l e - b l f) = 0 := by
      rw [yE] at hw
      have g : ∀ i x, cell U i x - cell U t0 x = b i x := fun _ _ => rfl
      simp only [g] at hw
      generalize b i c = x1 at *
      generalize b i d = x2 at *
      generalize b i e = x3 at *
      generalize b i f = x4 at *
      generalize b j c = y1 at *
      generalize b j d = y2 at *
      generalize b j e = y3 at *
      generalize b j f = y4 at *
      generalize b l c = z1 at *
      generalize b l d = z2 at *
      generalize b l e = z3 at *
      generalize b l f = z4 at *
      unfold d3 d2 at hw ⊢
      grind
     obtain ⟨x, z, w, hne, h1, h2, h3⟩ := Bp _ _ _ _ _ _ _ _ _ ht
     refine .inr ⟨x, z, w, hne, fun q hq => ?_⟩
     rcases List.mem_cons.mp hq with rfl | hq
     ·exact h1
     rcases List.mem_cons.mp hq with rfl | hq
     ·exact h2
     ·rw [List.mem_singleton.mp hq]; exact h3
    ·exact .inl ⟨i, j, l, rfl, hw⟩
   | _ :: _ :: _ :: _ :: _, h => simp at h
  rcases pick with ⟨i, j, l, rfl, hw⟩ | ⟨x, z, w, hne, ho⟩
  ·exact fin [t0, i, j, l] (by rw [hT]; exact List.Sublist.refl _) rfl hw
  ·exfalso
   have hq := rc [x, z, w, -x - z - w] rfl (by simp only [List.sum_cons, List.sum_nil]; omega) (fun i hi => by
    have q := ho i hi
    simp only [wsum]
    have b1 : b i c = cell U i c - cell U t0 c := rfl
    have b2 : b i d = cell U i d - cell U t0 d := rfl
    have b3 : b i e = cell U i e - cell U t0 e := rfl
    have b4 : b i f = cell U i f - cell U t0 f := rfl
    rw [b1, b2, b3, b4] at q
    grind)
   have q0 : x = 0 := hq 0 (by simp)
   have q1 : z = 0 := hq 1 (by simp)
   have q2 : w = 0 := hq 2 (by simp)
   omega
end Gm
set_option Elab.async false
set_option linter.all false
namespace Gm
def sgn (w : Int) : Int := if 0 < w then 1 else -1
theorem sgn_pos {w : Int} (h : w ≠ 0) : 0 < sgn w * w := by
 unfold sgn
 split <;> omega
def shM (U : List (List Int)) (R C : List Nat) : List Int := (partsM U R C).map fun p => sgn (wholeM U R C) * p
def smM (U : List (List Int)) (R C : List Nat) : Int := sgn (wholeM U R C) * wholeM U R C
def gain (U : List (List Int)) (n : Nat) (y : Nat -> Int) (i : Nat) : Int := sm n fun j => cell U i j * y j
structure Good2 (m n : Nat) (R C : List Nat) : Prop where
 rs : R.Sublist (List.range m)
 cs : C.Sublist (List.range n)
 len : R.length = C.length
 pos : 0 < C.length
theorem Good2.c4 {m n : Nat} {R C : List Nat} (g : Good2 m n R C) (n4 : n <= 4) : C.length <= 4 := by
 have := g.cs.length_le
 rw [List.length_range] at this
 omega
theorem Good2.lt {m n : Nat} {R C : List Nat} (g : Good2 m n R C) : ∀ c ∈ C, c < n := fun c hc => List.mem_range.mp (g.cs.subset hc)
theorem Good2.nd {m n : Nat} {R C : List Nat} (g : Good2 m n R C) : C.Nodup := g.cs.nodup List.nodup_range
theorem Good2.r0 {m n : Nat} {R C : List Nat} (g : Good2 m n R C) : R.headD 0 ∈ R := by
 have := g.len
 have := g.pos
 cases R with
 | nil => simp at *; omega
 | cons r R => simp
theorem Good2.r0m {m n : Nat} {R C : List Nat} (g : Good2 m n R C) : R.headD 0 < m := List.mem_range.mp (g.rs.subset g.r0)
structure Corner (U : List (List Int)) (m n : Nat) (R C : List Nat) : Prop where
 ne : wholeM U R C ≠ 0
 pos : ∀ q ∈ shM U R C, 0 < q
 le : ∀ i, i < m -> gain U n (yOf C (shM U R C)) i <= gain U n (yOf C (shM U R C)) (R.headD 0)
theorem shM_len (U : List (List Int)) (R C : List Nat) : (shM U R C).length = C.length := by
 unfold shM partsM
 simp
theorem qu (c : Int) : ∀ l : List Int, (l.map fun p => c * p).sum = c * l.sum
 | [] => by simp
 | x :: l => by
  rw [List.map_cons, List.sum_cons, List.sum_cons, qu c l, Int.mul_add]
theorem shM_sum (U : List (List Int)) {m n : Nat} {R C : List Nat} (g : Good2 m n R C) (n4 : n <= 4) : (shM U R C).sum = smM U R C := by
 unfold shM smM
 rw [qu, BW U g.len g.pos (g.c4 n4)]
theorem yOf_nn : ∀ {C : List Nat} {ps : List Int} {j : Nat}, (∀ q ∈ ps, 0 <= q) -> 0 <= yOf C ps j
 | [], ps, j, _ => by
  unfold yOf
  rw [iM]; exact Int.le_refl _
 | c :: C, [], j, _ => by
  unfold yOf
  rw [kh]; exact Int.le_refl _
 | c :: C, p :: ps, j, h => by
  rw [yOf_cons]
  have h1 := h p (by simp)
  have h2 := yOf_nn (C := C) (ps := ps) (j := j) fun q hq => h q (by simp [hq])
  split <;> omega
theorem corner_pt {U : List (List Int)} {m n : Nat} {R C : List Nat} (g : Good2 m n R C) (n4 : n <= 4) (k : Corner U m n R C) : Pt (cell U) m n (yOf C (shM U R C)) (smM U R C) (gain U n (yOf C (shM U R C)) (R.headD 0)) := by
 refine ⟨sgn_pos k.ne, fun j _ => yOf_nn fun q hq => Int.le_of_lt (k.pos q hq), ?_, k.le, ⟨R.headD 0, g.r0m, rfl⟩⟩
 rw [yOf_sum g.lt (shM_len U R C), shM_sum U g n4]
theorem yK (c : Int) (l : List Int) (t : Nat) : (l.map fun p => c * p).getD t 0 = c * l.getD t 0 := by
 rw [List.getD_eq_getElem?_getD, List.getElem?_map, List.getD_eq_getElem?_getD]
 cases l[t]? <;> simp
theorem Bl {U : List (List Int)} {R C : List Nat} {t : Nat} (h : t < C.length) : (partsM U R C).getD t 0 = cF U R C t := by
 unfold partsM
 rw [List.getD_eq_getElem?_getD, List.getElem?_map, List.getElem?_eq_getElem (by simpa using h)]
 simp
theorem vq (f : Nat -> Int) {a b : Int} : ∀ {C : List Nat} {ps qs : List Int}, ps.length = C.length -> qs.length = C.length -> (∀ t, t < C.length -> ps.getD t 0 * a = qs.getD t 0 * b) -> wsum f C ps * a = wsum f C qs * b
 | [], ps, qs, _, _, _ => by rw [iM, iM]; simp
 | c :: C, p :: ps, q :: qs, h1, h2, h => by
  have h0 : p * a = q * b := h 0 (by simp)
  have ih := vq f (C := C) (ps := ps) (qs := qs) (by simpa using h1) (by simpa using h2) fun t ht => h (t + 1) (by simpa using ht)
  show (f c * p + wsum f C ps) * a = (f c * q + wsum f C qs) * b
  grind
 | c :: C, [], _, h, _, _ => by simp at h
 | c :: C, _ :: _, [], _, h, _ => by simp at h
theorem Cj {U : List (List Int)} {m n : Nat} {y : Nat -> Int} {S N : Int} (P : Pt (cell U) m n y S N) (m4 : m <= 4) (n4 : n <= 4) :
  ∃ R C, Good2 m n R C /\ Corner U m n R C /\ gain U n (yOf C (shM U R C)) (R.headD 0) * S <= N * smM U R C /\ (∀ j, j < n -> y j = 0 -> yOf C (shM U R C) j = 0) /\
   ∀ i, i < m -> sm n (fun j => cell U i j * y j) = N -> gain U n (yOf C (shM U R C)) i = gain U n (yOf C (shM U R C)) (R.headD 0) := by
 obtain ⟨y1, S1, N1, P1, l1, r1, u1, w1⟩ := Fo _ rfl P
 obtain ⟨R, C, hR, hC, hl, h0, hp, ho, ht, hw⟩ := rank P1 r1 m4 n4
 have g : Good2 m n R C := ⟨hR, hC, hl, h0⟩
 have hlt := g.lt
 have hnd := g.nd
 have e0 : ∀ j, j < n -> yOf C (C.map y1) j = y1 j := fun j hj => by
  rw [Aq hnd]
  by_cases h : j ∈ C
  ·rw [if_pos h]
  ·rw [if_neg h, ho j hj h]
 have eg : ∀ i, wsum (cell U i) C (C.map y1) = sm n fun j => cell U i j * y1 j := fun i => by
  rw [<- oR (cell U i) n C _ hlt]
  exact sm_congr fun j hj => by rw [e0 j hj]
 have es : (C.map y1).sum = S1 := by
  rw [<- yOf_sum hlt (List.length_map ..), <- P1.sum]
  exact sm_congr fun j hj => e0 j hj
 have cr := Js U (R := R) (C := C) (ps := C.map y1) hl h0 (g.c4 n4) (List.length_map ..) es (fun i hi => by rw [eg, eg, ht i hi, ht _ g.r0])
 have hS1 := P1.pos
 have hW := sgn_pos hw
 have q1 : ∀ t, t < C.length -> (shM U R C).getD t 0 * S1 = (C.map y1).getD t 0 * smM U R C := fun t h => by
  have := cr t h
  unfold shM smM
  rw [yK, Bl h]
  grind
 have hm : ∀ t, t < C.length -> 0 < (C.map y1).getD t 0 := fun t h => by
  rw [List.getD_eq_getElem?_getD, List.getElem?_map, List.getElem?_eq_getElem h]
  exact hp _ (List.getElem_mem h)
 have hg : ∀ i, gain U n (yOf C (shM U R C)) i * S1 = (sm n fun j => cell U i j * y1 j) * smM U R C := fun i => by
  unfold gain
  rw [oR (cell U i) n C _ hlt, vq (cell U i) (shM_len U R C) (List.length_map ..) q1, eg]
 have k : Corner U m n R C := by
  refine ⟨hw, fun q hq => ?_, fun i hi => ?_⟩
  ·obtain ⟨t, ht, e⟩ := List.mem_iff_getElem.mp hq
   rw [shM_len] at ht
   have h1 := q1 t ht
   have h2 := Int.mul_pos (hm t ht) (show 0 < smM U R C from hW)
   rw [List.getD_eq_getElem?_getD, List.getElem?_eq_getElem (by rw [shM_len]; exact ht)] at h1
   have h3 : q * S1 = (C.map y1).getD t 0 * smM U R C := by rw [<- h1, <- e]; rfl
   refine Classical.byContradiction fun hc => ?_
   have := Int.mul_nonpos_of_nonpos_of_nonneg (show q <= 0 by omega) (Int.le_of_lt hS1)
   omega
  ·have a1 := hg i
   have a2 := hg (R.headD 0)
   rw [ht _ g.r0] at a2
   have a3 : (sm n fun j => cell U i j * y1 j) * smM U R C <= N1 * smM U R C := Int.mul_le_mul_of_nonneg_right (P1.le i hi) (Int.le_of_lt hW)
   exact Int.le_of_mul_le_mul_right (by omega) hS1
 refine ⟨R, C, g, k, ?_, fun j hj e => yOf_out fun hj' => ?_, fun i hi e => ?_⟩
 rotate_left
 ·have := hp j hj'
  rw [u1 j hj e] at this
  omega
 ·have a1 := hg i
  have a2 := hg (R.headD 0)
  rw [ht _ g.r0] at a2
  rw [w1 i hi e] at a1
  exact Int.eq_of_mul_eq_mul_right (by omega) (a1.trans a2.symm)
 have a2 := hg (R.headD 0)
 rw [ht _ g.r0] at a2
 generalize gain U n (yOf C (shM U R C)) (R.headD 0) = G at a2 ⊢
 have b1 : N1 * S * smM U R C <= N * S1 * smM U R C := Int.mul_le_mul_of_nonneg_right l1 (Int.le_of_lt hW)
 have b2 : G * S * S1 <= N * smM U R C * S1 := by
  have : G * S * S1 = N1 * S * smM U R C := by grind
  rw [this]
  grind
 exact Int.le_of_mul_le_mul_right b2 hS1
theorem complete {U : List (List Int)} {m n : Nat} {y : Nat -> Int} {S N : Int} (P : Pt (cell U) m n y S N) (m4 : m <= 4) (n4 : n <= 4) :
  ∃ R C, Good2 m n R C /\ Corner U m n R C /\ gain U n (yOf C (shM U R C)) (R.headD 0) * S <= N * smM U R C := by
 obtain ⟨R, C, h1, h2, h3, _⟩ := Cj P m4 n4
 exact ⟨R, C, h1, h2, h3⟩
theorem max_of (f : Nat -> Int) : ∀ {m : Nat}, 0 < m -> ∃ i, i < m /\ ∀ j, j < m -> f j <= f i
 | 0, h => by omega
 | 1, _ => ⟨0, by decide, fun j hj => by
  have : j = 0 := by omega
  rw [this]; exact Int.le_refl _⟩
 | m + 2, _ => by
  obtain ⟨i, hi, h⟩ := max_of f (m := m + 1) (by omega)
  by_cases c : f i <= f (m + 1)
  ·refine ⟨m + 1, by omega, fun j hj => ?_⟩
   by_cases e : j = m + 1
   ·rw [e]; exact Int.le_refl _
   ·have := h j (by omega)
    omega
  ·refine ⟨i, by omega, fun j hj => ?_⟩
   by_cases e : j = m + 1
   ·rw [e]; omega
   ·exact h j (by omega)
theorem Hr {a b : Nat -> Nat -> Int} {m n : Nat} (hn : 0 < n) (hm : 0 < m) (hb : ∀ i j, i < m -> j < n -> b j i = - a i j) {y : Nat -> Int} {S N : Int} (P : Pt a m n y S N) (hmin : ∀ y' S' N', Pt a m n y' S' N' -> N * S' <= N' * S) :
  ∃ x S' N', Pt b n m x S' N' /\ N' * S + N * S' <= 0 := by
 rcases alt (fun i j => a i j * S - N) m n hn with ⟨x, h1, ⟨i0, hi0, hp⟩, h3⟩ | ⟨z, h1, ⟨j0, hj0, hp⟩, h3⟩
 ·obtain ⟨j1, hj1, hmax⟩ := max_of (fun j => sm m fun i => b j i * x i) hn
  have hx := tE h1 ⟨i0, hi0, hp⟩
  refine ⟨x, sm m x, _, ⟨hx, h1, rfl, hmax, ⟨j1, hj1, rfl⟩⟩, ?_⟩
  have e1 : (sm m fun i => b j1 i * x i) = - sm m fun i => x i * a i j1 := by
   have : (sm m fun i => b j1 i * x i) = sm m fun i => -1 * (x i * a i j1) := sm_congr fun i hi => by
    rw [hb i j1 hi hj1]; grind
   rw [this, sm_mul]; omega
  have e2 : (sm m fun i => x i * (a i j1 * S - N)) = S * (sm m fun i => x i * a i j1) + (-N) * sm m x := by
   rw [<- sm_mul, <- sm_mul, <- jK]
   exact sm_congr fun i _ => by grind
  have h4 := h3 j1 hj1
  rw [e2] at h4
  rw [e1]
  grind
 ·exfalso
  obtain ⟨i1, hi1, hmax⟩ := max_of (fun i => sm n fun j => a i j * z j) hm
  have hz := tE h1 ⟨j0, hj0, hp⟩
  have h4 := hmin z (sm n z) _ ⟨hz, h1, rfl, hmax, ⟨i1, hi1, rfl⟩⟩
  have h5 := h3 i1 hi1
  have e2 : (sm n fun j => (a i1 j * S - N) * z j) = S * (sm n fun j => a i1 j * z j) + (-N) * sm n z := by
   rw [<- sm_mul, <- sm_mul, <- jK]
   exact sm_congr fun i _ => by grind
  rw [e2] at h5
  grind
theorem meet {a b : Nat -> Nat -> Int} {m n : Nat} (hn : 0 < n) (hm : 0 < m) (hb : ∀ i j, i < m -> j < n -> b j i = - a i j) {y x : Nat -> Int} {S N S' N' : Int} (P : Pt a m n y S N) (hmin : ∀ y' S' N', Pt a m n y' S' N' -> N * S' <= N' * S)
  (P' : Pt b n m x S' N') (hmin' : ∀ y1 S1 N1, Pt b n m y1 S1 N1 -> N' * S1 <= N1 * S') : N' * S + N * S' <= 0 := by
 obtain ⟨x2, S2, N2, P2, h⟩ := Hr hn hm hb P hmin
 have h2 := hmin' x2 S2 N2 P2
 have p0 := P.pos
 have p1 := P'.pos
 have p2 := P2.pos
 have a1 : N' * S2 * S <= N2 * S' * S := Int.mul_le_mul_of_nonneg_right h2 (Int.le_of_lt p0)
 have a2 : (N2 * S + N * S2) * S' <= 0 * S' := Int.mul_le_mul_of_nonneg_right h (Int.le_of_lt p1)
 have a3 : (N' * S + N * S') * S2 <= 0 * S2 := by grind
 exact Int.le_of_mul_le_mul_right a3 p2
end Gm
set_option Elab.async false
set_option linter.all false
set_option maxRecDepth 100000
namespace L2
open PySem PySem.Spec PyProof.Rows
def Sz (k : Nat) (x : Int) : Prop := x.natAbs < 2 ^ k
theorem Sz.mono {a b : Nat} {x : Int} (h : Sz a x) (hab : a <= b) : Sz b x := Nat.lt_of_lt_of_le h (Nat.pow_le_pow_right (by decide) hab)
theorem Sz.mul {a b : Nat} {x y : Int} (h : Sz a x) (q : Sz b y) : Sz (a + b) (x * y) := by
 unfold Sz at *
 rw [Int.natAbs_mul, Nat.pow_add]
 exact Nat.mul_lt_mul'' h q
theorem Sz.add {k : Nat} {x y : Int} (h : Sz k x) (q : Sz k y) : Sz (k + 1) (x + y) := by
 unfold Sz at *
 rw [Nat.pow_succ]
 have := Int.natAbs_add_le x y
 omega
theorem Sz.neg {k : Nat} {x : Int} (h : Sz k x) : Sz k (-x) := by
 unfold Sz at *
 rw [Int.natAbs_neg]; exact h
theorem Sz.fst {k : Nat} {a b : Int} (hb : 0 < b) (h : Sz k a) : Sz k (Fr.mk a b).1 := Nat.lt_of_le_of_lt (Fr.mk_fst_le hb) h
theorem Sz.snd {k : Nat} {a b : Int} (hb : 0 < b) (h : Sz k b) : Sz k (Fr.mk a b).2 := by
 unfold Sz at *
 have h1 := Fr.mk_snd_le (a := a) hb
 have h2 := Fr.mk_pos (a := a) hb
 omega
theorem Sz.log {k : Nat} {x : Int} (h : Sz k x) (hk : 0 < k) : x.natAbs.log2 < k := by
 rcases Nat.eq_zero_or_pos x.natAbs with h0 | hp
 ·rw [h0]; simpa using hk
 ·exact (Nat.log2_lt (Nat.ne_of_gt hp)).mpr h
theorem Sz.bits {x : Int} (h : Sz 4000 x) : Builtin.Int.intBits x <= 2 ^ 20 := by
 unfold Builtin.Int.intBits
 split
 ·exact Nat.zero_le _
 ·have := h.log (by decide)
  have e : (2 : Nat) ^ 20 = 1048576 := by decide
  omega
variable {X : Cx}
def Ka (i j : Int) : Prop := Sz 4000 i /\ Sz 4000 j
theorem dF : OpR X (binaryOp .Mult) (rI Ka fun i j => .int (i * j)) := opI fun _ _ _ _ _ _ _ hc q => mul_int q (IntMulOk.of_bits hc.1.bits hc.2.bits)
theorem yO {i j : Int} (h0 : 0 < j) (h : Sz 8000 j) : Gr i j := ⟨h0, Nat.lt_of_lt_of_le (h.log (by decide)) (by decide)⟩
structure Pq (q : Int × Int) : Prop where
 pos : 0 < q.2
 cop : Int.gcd q.1 q.2 = 1
theorem Pq.mk_eq {q : Int × Int} (h : Pq q) : Fr.mk q.1 q.2 = q := by
 have := h.cop
 unfold Fr.mk
 rw [this]
 simp
theorem Pq.of {a b : Int} (h : 0 < b) : Pq (Fr.mk a b) := ⟨Fr.mk_pos h, Fr.mk_cop h⟩
structure GQ (qs : List (Int × Int)) : Prop where
 pr : ∀ q ∈ qs, Pq q
 s1 : ∀ q ∈ qs, Sz 60 q.1
 s2 : ∀ q ∈ qs, Sz 60 q.2
 len : qs.length <= 8
def stp (a : Int × Int) (x : Int × (Int × Int)) : Int × Int := (a.1 * x.2.2 + x.1 * x.2.1 * a.2, a.2 * x.2.2)
def acc (l : List (Int × (Int × Int))) : Int × Int := l.foldl stp (0, 1)
theorem wR (l : List (Int × (Int × Int))) (x : Int × (Int × Int)) : acc (l ++ [x]) = stp (acc l) x := by
 unfold acc
 rw [List.foldl_append]
 rfl
theorem xM {l : List (Int × (Int × Int))} {i : Nat} {x : Int × (Int × Int)} (h : l[i]? = some x) : acc (l.take (i + 1)) = stp (acc (l.take i)) x := by
 rw [List.take_add_one, h]
 exact wR _ _
def GX (l : List (Int × (Int × Int))) : Prop := ∀ x ∈ l, Sz 9 x.1 /\ Pq x.2 /\ Sz 60 x.2.1 /\ Sz 60 x.2.2
theorem rP : ∀ (k : Nat) (l : List (Int × (Int × Int))), l.length = k -> GX l -> 0 < (acc l).2 /\ Sz (70 + 61 * k) (acc l).1 /\ Sz (1 + 60 * k) (acc l).2
 | 0, l, h, _ => by
  have := List.eq_nil_of_length_eq_zero h
  subst this
  exact ⟨by decide, show Sz 70 0 from by unfold Sz; exact Nat.pow_pos (by decide), show Sz 1 1 from by unfold Sz; decide⟩
 | k + 1, l, h, g => by
  have hne : l ≠ [] := fun e => by rw [e] at h; simp at h
  have e : l = l.dropLast ++ [l.getLast hne] := (List.dropLast_concat_getLast hne).symm
  obtain ⟨h1, h2, h3, h4⟩ := g _ (List.getLast_mem hne)
  have ih := rP k l.dropLast (by rw [List.length_dropLast]; omega) fun x hx => g x (List.dropLast_subset l hx)
  rw [e, wR]
  unfold stp
  refine ⟨Int.mul_pos ih.1 h2.pos, ?_, ?_⟩
  ·have a1 : Sz (130 + 61 * k) ((acc l.dropLast).1 * (l.getLast hne).2.2) := (ih.2.1.mul h4).mono (by omega)
   have a2 : Sz (130 + 61 * k) ((l.getLast hne).1 * (l.getLast hne).2.1 * (acc l.dropLast).2) := ((h1.mul h3).mul ih.2.2).mono (by omega)
   exact (a1.add a2).mono (by omega)
  ·exact (ih.2.2.mul h4).mono (by omega)
theorem GX.take {l : List (Int × (Int × Int))} (g : GX l) (i : Nat) : GX (l.take i) := fun x hx => g x (List.mem_of_mem_take hx)
def iT (r : List Int) (qs : List (Int × Int)) : Int × Int := Fr.mk (acc (r.zip qs)).1 (acc (r.zip qs)).2
theorem jW {r : List Int} {qs : List (Int × Int)} (hr : ∀ x ∈ r, Sz 9 x) (g : GQ qs) : GX (r.zip qs) := fun x hx => by
 have h1 := List.of_mem_zip hx
 exact ⟨hr _ h1.1, g.pr _ h1.2, g.s1 _ h1.2, g.s2 _ h1.2⟩
theorem jA {l : List (Int × (Int × Int))} (g : GX l) : 0 < (acc l).2 := (rP _ l rfl g).1
theorem wO {l : List (Int × (Int × Int))} (g : GX l) (h : l.length <= 8) : Sz 900 (acc l).1 := (rP _ l rfl g).2.1.mono (by omega)
theorem yG {l : List (Int × (Int × Int))} (g : GX l) (h : l.length <= 8) : Sz 900 (acc l).2 := (rP _ l rfl g).2.2.mono (by omega)
theorem Hh {r : List Int} {qs : List (Int × Int)} (hr : ∀ x ∈ r, Sz 9 x) (g : GQ qs) : Pq (iT r qs) := Pq.of (jA (jW hr g))
theorem wu (r : List Int) {qs : List (Int × Int)} (g : GQ qs) : (r.zip qs).length <= 8 := by
 rw [List.length_zip]
 have := g.len
 omega
theorem uB {r : List Int} {qs : List (Int × Int)} (hr : ∀ x ∈ r, Sz 9 x) (g : GQ qs) : Sz 900 (iT r qs).1 := (wO (jW hr g) (wu r g)).fst (jA (jW hr g))
theorem uD {r : List Int} {qs : List (Int × Int)} (hr : ∀ x ∈ r, Sz 9 x) (g : GQ qs) : Sz 900 (iT r qs).2 := (yG (jW hr g) (wu r g)).snd (jA (jW hr g))
theorem Ji {A D x c d : Int} (hD : 0 < D) (hq : Pq (c, d)) :
  Fr.mk ((Fr.mk A D).1 * (Fr.mk (x * c) (1 * d)).2 + (Fr.mk (x * c) (1 * d)).1 * (Fr.mk A D).2) ((Fr.mk A D).2 * (Fr.mk (x * c) (1 * d)).2) = Fr.mk (stp (A, D) (x, (c, d))).1 (stp (A, D) (x, (c, d))).2 := by
 have hd : 0 < 1 * d := by have := hq.pos; simp only at this; omega
 rw [Fr.mk_add hD hd]
 unfold stp
 simp only [Int.one_mul]
theorem HD {A D c d : Int} (hD : 0 < D) (hq : Pq (c, d)) :
  Fr.mk ((Fr.mk A D).1 * d + c * (Fr.mk A D).2) ((Fr.mk A D).2 * d) = Fr.mk (stp (A, D) (1, (c, d))).1 (stp (A, D) (1, (c, d))).2 := by
 have e := Fr.mk_add (a := A) (b := D) (c := c) (d := d) hD hq.pos
 have q : Fr.mk c d = (c, d) := hq.mk_eq
 rw [q] at e
 rw [e]
 unfold stp
 simp only [Int.one_mul]
def ones (qs : List (Int × Int)) : List (Int × (Int × Int)) := qs.map fun q => (1, q)
def gj (qs : List (Int × Int)) (n : Nat) : Bool := decide (qs.length = n) && (qs.all fun q => decide (0 <= q.1)) && decide (Fr.mk (acc (ones qs)).1 (acc (ones qs)).2 = (1, 1))
theorem Ia {qs : List (Int × Int)} (g : GQ qs) : GX (ones qs) := fun x hx => by
 obtain ⟨q, hq, rfl⟩ := List.mem_map.mp hx
 exact ⟨show Sz 9 1 from by unfold Sz; decide, g.pr q hq, g.s1 q hq, g.s2 q hq⟩
def ltQ (p q : Int × Int) : Bool := decide (p.1 * q.2 < q.1 * p.2)
theorem Fv (S : Int) (hS : 0 < S) : ∀ (r ws : List Int), (acc (r.zip (mks ws S))).1 * S = Fr.dot r ws * (acc (r.zip (mks ws S))).2 := by
 have go : ∀ (r ws : List Int) (a : Int × Int) (d : Int), a.1 * S = d * a.2 -> ((r.zip (mks ws S)).foldl stp a).1 * S = (d + Fr.dot r ws) * ((r.zip (mks ws S)).foldl stp a).2 := by
  intro r
  induction r with
  | nil =>
   intro ws a d h
   have e : Fr.dot [] ws = 0 := by cases ws <;> rfl
   rw [e]
   simpa using h
  | cons x r ih =>
   intro ws a d h
   cases ws with
   | nil =>
    show a.1 * S = (d + 0) * a.2
    rw [Int.add_zero]; exact h
   | cons w ws =>
    show ((r.zip (mks ws S)).foldl stp (stp a (x, Fr.mk w S))).1 * S = _
    have hr := Fr.mk_ratio (a := w) hS
    rw [ih ws (stp a (x, Fr.mk w S)) (d + x * w) ?_]
    ·show (d + x * w + Fr.dot r ws) * _ = (d + (x * w + Fr.dot r ws)) * _
     rw [Int.add_assoc]
     rfl
    ·unfold stp
     simp only
     generalize Fr.mk w S = q at hr
     grind
 intro r ws
 have := go r ws (0, 1) 0 (by simp)
 rw [Int.zero_add] at this
 exact this
theorem Je {ws : List Int} {S : Int} (hS : 0 < S) (h1 : ∀ x ∈ ws, Sz 60 x) (h2 : Sz 60 S) (hl : ws.length <= 8) : GQ (mks ws S) := by
 refine ⟨fun q hq => ?_, fun q hq => ?_, fun q hq => ?_, by rw [lV]; exact hl⟩
 ·obtain ⟨x, _, rfl⟩ := List.mem_map.mp hq
  exact Pq.of hS
 ·obtain ⟨x, hx, rfl⟩ := List.mem_map.mp hq
  exact (h1 x hx).fst hS
 ·obtain ⟨x, hx, rfl⟩ := List.mem_map.mp hq
  exact h2.snd hS
theorem yJ {r ws : List Int} {S : Int} (hS : 0 < S) (hr : ∀ x ∈ r, Sz 9 x) (g : GQ (mks ws S)) : iT r (mks ws S) = Fr.mk (Fr.dot r ws) S := by
 unfold iT
 exact Fr.mk_cross (jA (jW hr g)) hS (Fv S hS r ws)
theorem sz9 {x : Int} (h : -200 <= x /\ x <= 200) : Sz 9 x := by
 show x.natAbs < 512
 omega
theorem IsFr.inj {H : Hp} {v : V} {p q : Int × Int} (h : IsFr H v p) (k : IsFr H v q) : p = q := by
 obtain ⟨a, rfl, e⟩ := h
 obtain ⟨b, eb, f⟩ := k
 cases eb
 rw [e] at f
 simp at f
 exact Prod.ext f.1 f.2
theorem IsFr.at {l : Addr} {H : Hp} {v : V} {q : Int × Int} {xs : List V} {o : HO} (hl : H l = some (.lst xs)) (h : IsFr H v q) : IsFr (upd H l o) v q := by
 obtain ⟨b, e, z⟩ := h
 exact ⟨b, e, by rw [aO (pO z hl (by intro z; cases z))]; exact z⟩
end L2
namespace PySem
theorem Paired.drop1 {α β : Type} {F : α -> β -> Prop} : ∀ {l : List α} {r : List β}, Paired F l r -> Paired F (l.drop 1) (r.drop 1)
 | _, _, .nil => .nil
 | _, _, .cons _ t => t
end PySem
namespace L2
open PySem PySem.Spec PyProof.Rows
theorem IsTab.drop1 {H : Hp} {p : Addr} {vs : List V} {M : List (List Int)} (hp : H p = none) (h : Paired (IsRow H) vs M) : IsTab (upd H p (.lst (vs.drop 1))) p (M.drop 1) :=
 ⟨_, az, h.drop1.imp2 fun _ _ z => z.mono (aq hp)⟩
structure Isi (K : PySem.W.Frag) (C : Addr) : Prop where
 ha : PySem.W.findIn K (.ref C) "__class__" = some (some (.builtin "object.__class__"))
 hn : PySem.W.specialIn K (.builtin "object.__class__") "__get__" = some (some (.builtin "getset_descriptor.__get__"))
 htk : PySem.W.takesIn K (.builtin "object.__class__") = some true
 hm : PySem.W.mroIn K C (.type "object") = some true
theorem Isi.ty {K : PySem.W.Frag} {C a dx : Addr} {fs : List (Str × V)} {H : Hp} (i : Isi K C) (c : Cls K C) (e : H a = some (.ins C dx fs)) : TyOf K H (.ref a) (.ref C) := .ins e c i.ha i.hn i.htk i.hm
def GF (K : PySem.W.Frag) : List V -> Hp -> VK -> Prop := fun xs H Q => ∃ x t c b, xs = [x, .ref c] /\ TyOf K H x t /\ PySem.W.kitOne K t (.ref c) = some b /\ Q (.bl b) H
theorem yN {X : Cx} : CallR X (.builtin "isinstance") (GF X.K) := by
 intro pins s σ H xs us Q I r h
 obtain ⟨x, t, c, b, rfl, ty, e, q⟩ := h
 cases r with
 | cons r1 rr =>
  cases rr with
  | cons r2 rr =>
   cases rr
   cases r2
   exact uR I r1 ty e fun tk => ⟨.bl b, H, I.tok _, rfl, q⟩
theorem JR {X : Cx} (K : PySem.W.Frag) (h : X.K = K := by rfl) : CallR X (.builtin "isinstance") (GF K) := by subst h; exact yN
theorem peC {X : Cx} {x : Str} {a : Addr} {pos : Pos} (hm : X.mg x = some (.ref a)) (hg : Gl X x) (hd : (x == ("__debug__" : Str)) = false := by decide) : PE X (.Name x pos) (tC (.ref a)) := Ah hg hm rfl hd
end L2
set_option Elab.async false
set_option linter.all false
set_option maxRecDepth 100000
namespace L2
open PySem PySem.Spec PyProof.Rows
section
variable {X : Cx}
def LC : V -> List V -> Hp -> VK -> Prop := fun x vs H Q => ∃ (l : Addr) (ns : List Int) (k : Int), x = .ref l /\ vs = [.int k] /\ H l = some (.lst (ns.map V.int)) /\ k ∈ ns /\ Q (.int (ns.idxOf k : Nat)) H
def Lr : V -> List V -> Hp -> VK -> Prop := fun x vs H Q => ∃ (l : Addr) (ns : List Int) (k : Int), x = .ref l /\ vs = [.int k] /\ H l = some (.lst (ns.map V.int)) /\ k ∈ ns /\ Q .non (upd H l (.lst ((ns.map V.int).eraseIdx (ns.idxOf k))))
theorem sJ : ∀ (l : List Value) (off : Nat), (∀ j v, l[j]? = some v -> ∃ t, v = Value.int ((off + j : Nat) : Int) t) -> Vals ((List.range' off l.length).map fun (i : Nat) => V.int i) l
 | [], _, _ => .nil
 | v :: l, off, h => by
  have h0 := h 0 v rfl
  have ih := sJ l (off + 1) fun j u hj => by
   have := h (j + 1) u hj
   rw [show off + 1 + j = off + (j + 1) by omega]
   exact this
  show Vals (V.int (off : Nat) :: ((List.range' (off + 1) l.length).map fun (i : Nat) => V.int i)) (v :: l)
  exact .cons h0 ih
def J8 (ta : TA) : TE := fun σ H Q => ta σ H fun vs H1 => ∃ n : Nat, vs = [.int n] /\ n <= 1000 /\ ∀ l, H1 l = none -> Q (.ref l) (upd H1 l (.lst ((List.range n).map fun (i : Nat) => V.int i)))
theorem u6 {a : Expr} {ta : TA} {p p' pos pos' : Pos} (hc : X.calm = true) (hl : Gl X "list") (ml : X.mg "list" = none) (hg : Gl X "range") (hm : X.mg "range" = none) (ha : PA X [a] ta) (hs : starEach [a] X.env = [(false, eval a X.env)] := by rfl) :
  PE X (.Call (.Name "list" p) [.Call (.Name "range" p') [a] [] pos'] [] pos) (J8 ta) := by
 intro pins s σ H Q I h
 refine wpAny_Call_Name_kw (jc I hl ml d9 ?_)
 refine PyProof.Rows.callWith_type1 ?_ rfl rfl
 show wpAny _ _ (spliced ((false, eval (.Call (.Name "range" p') [a] [] pos') X.env) :: [])) _ _ s
 refine Calls.spliced_cons ?_
 refine Call_ (jc I hg hm boot_range (PyProof.Rows.callWith_type1 (thn (ha pos' pins s σ H _ I h) fun us s1 ⟨vs, H1, I1, r1, q1⟩ => ?_) hs rfl))
 obtain ⟨n, e, hn, q⟩ := q1
 subst e
 cases r1 with
 | cons r rr =>
  cases rr
  obtain ⟨t, rfl⟩ := r
  refine call_range_1 ?_
  refine Calls.spliced_nil ?_
  have I2 : Inv X pins σ H1 { s1 with heap := s1.heap.push { cls := .type "range", data := .fields #[.int 0 s1.toks, .int (n : Int) t, .int 1 (s1.toks + 1)] }, toks := s1.toks + 1 + 1 } := I1.kept fun b o e => Heap.get?_push_of_some _ e
  refine call_list_range (n := n) (I2.ok.hd hc) (IsRange.new ..) (small_one (by decide) (by decide) (by omega) (by omega)) (by rw [rangeSize_one]; split <;> omega) (by omega) fun h' tk acc' c' kp e hacc => ?_
  obtain ⟨hsz, hat⟩ := hacc
  have hv : Vals ((List.range n).map fun (i : Nat) => V.int i) acc'.toList := by
   have := sJ acc'.toList 0 fun j v hj => by
    obtain ⟨t, rfl⟩ := hat j v (by rw [<- Array.getElem?_toList]; exact hj)
    exact ⟨t, by congr 1; simp⟩
   rw [Array.length_toList, hsz, <- List.range_eq_range'] at this
   exact this
  refine ⟨.ref _, _, I2.laid (t' := tk) kp (Nat.le_refl _) (show ObjOk X.prog X.w _ h' _ (.lst ((List.range n).map fun (i : Nat) => V.int i)) from ⟨?_, acc'.toList, c', hv, e⟩), rfl, q _ (I2.hok.fresh (Nat.le_refl _))⟩
  rw [List.length_map, List.length_range]
  exact Nat.le_trans hn (by decide)
end
end L2
set_option Elab.async false
set_option linter.all false
set_option maxRecDepth 100000
set_option maxHeartbeats 4000000
namespace L2
open PySem PySem.Spec PyProof.Rows
theorem ObjOk.there {P : Program} {w : World} {H : Hp} {h : Heap} {a : Addr} {o : HO} (x : ObjOk P w H h a o) : ∃ u, h.get? a = some u := by
 cases o with
 | lst xs => obtain ⟨_, _, _, _, e⟩ := x; exact ⟨_, e⟩
 | tup xs => obtain ⟨_, _, _, o, e, _⟩ := x; exact ⟨_, e⟩
 | dK kvs => obtain ⟨_, _, _, _, o, _, _, e, _⟩ := x; exact ⟨_, e⟩
 | dT kvs => obtain ⟨_, _, _, _, o, _, _, e, _⟩ := x; exact ⟨_, e⟩
 | set S n => obtain ⟨o, _, _, _, e, _⟩ := x; exact ⟨_, e⟩
 | ins C dx fs => obtain ⟨_, _, _, e, _⟩ := x; exact ⟨_, e⟩
 | own y => exact x
 | xd fs => obtain ⟨_, ⟨_, _, _, e, _⟩, _⟩ := x; exact ⟨_, e⟩
 | rng lo hi => obtain ⟨_, _, _, e⟩ := x; exact ⟨_, e⟩
 | frz ob u => obtain ⟨e, _⟩ := x; exact ⟨_, e⟩
 | tbl ps => exact ⟨_, (show h.get? a = some _ from x)⟩
 | met f y => exact ⟨_, (show h.get? a = some _ from x)⟩
 | ext φ => obtain ⟨_, e, _⟩ := x; exact e
theorem HOk.part {P : Program} {w : World} {H : Hp} {h h' : Heap} (x : HOk P w H h) (k : ∀ b o u, H b = some o -> h.get? b = some u -> h'.get? b = some u) : HOk P w H h' := fun a o e =>
 (x a o e).stay (fun b u hb q => by
  rcases hb with rfl | hb
  ·exact k b o u e q
  ·exact k b _ u hb q) (fun _ q => q) fun _ _ q => q
def CX1 (P : Program) (w : World) : CXT := fun outer H s E e s' => ∃ (ea : Addr) (cls a0 : Value) (B : Heap) (H' : Hp), e = .ref ea /\ s'.os = s.os /\ AllBare s'.gens /\
 Heap.FlyingW B outer ea cls a0 s'.heap /\ Un (frs outer) [] H H' s.heap s'.heap /\ HOk P w H' s'.heap /\ (∀ b o, H' b = some o -> ∃ u, B.get? b = some u) /\
 (∀ b o, s.heap.get? b = some o -> b ∉ frs outer -> ∃ u, B.get? b = some u) /\ E cls none H'
section
variable {X : Cx} {pins : List (Addr × Obj)} {σ : St} {H : Hp} {s s2 : Shared} {B : Heap} {E : XK}
theorem Inv.flown (I : Inv X pins σ H s) (os : s2.os = s.os) (gs : AllBare s2.gens) (st : B.StaysIn s.heap) (st' : B.StaysIn s2.heap) (up : s.heap.UpToSlots s2.heap)
  (trk : ∀ b o, H b = some o -> ∃ u, B.get? b = some u) (cov : ∀ b o, X.s₀.heap.get? b = some o -> b ∉ X.fs -> b ∉ X.ex -> ∃ u, B.get? b = some u) (pb : ∀ p ∈ X.pn ++ pins, ∃ u, B.get? p.1 = some u) : Inv X pins σ H s2 := by
 have kB : ∀ b o u, B.get? b = some u -> s.heap.get? b = some o -> s2.heap.get? b = some o := fun b o u hb e => by
  have := (st b u hb).symm.trans e
  cases this
  exact st' b _ hb
 have cl : ∀ c v, s.heap.IsCell c v -> s2.heap.IsCell c v := fun c v ⟨o, e, d⟩ => by
  obtain ⟨sl, q⟩ := up c o e (fun vs z => by rw [d] at z; cases z)
  exact ⟨_, q, d⟩
 refine ⟨I.ok, os.trans I.os, gs, ⟨fun b o e n hb hx => ?_, fun b o e n hb hx => ?_, I.base.free, fun b o e hx => ?_, I.base.tups, I.base.frzs, I.base.tbls⟩, ?_, fun x c e => ?_, I.free, I.freeC, fun p hp => ?_, I.hok.part fun b o u e q => ?_, I.len⟩
 ·obtain ⟨u, hu⟩ := cov b o e hb hx
  exact kB b o u hu (I.base.keep b o e n hb hx)
 ·obtain ⟨sl, q⟩ := I.base.slot b o e n hb hx
  obtain ⟨_, o', ho', hnf⟩ := I.ok.funs.mem hb
  rw [e] at ho'
  cases ho'
  obtain ⟨sl', q'⟩ := up b _ q hnf
  exact ⟨sl', q'⟩
 ·by_cases hb : b ∈ X.fs
  ·obtain ⟨_, o', ho', hnf⟩ := I.ok.funs.mem hb
   rw [e] at ho'
   cases ho'
   obtain ⟨sl, q⟩ := I.base.slot b o e (I.ok.frf b hb) hb hx
   obtain ⟨sl', q'⟩ := up b _ q hnf
   exact ⟨_, q'⟩
  ·obtain ⟨u, hu⟩ := cov b o e hb hx
   exact ⟨u, st' b u hu⟩
 ·obtain ⟨m, hn, hl⟩ := I.loc
  refine ⟨m, up.ns hn, fun i x v e1 e2 e3 => ?_⟩
  obtain ⟨u, r, l⟩ := hl i x v e1 e2 e3
  refine ⟨u, r, ?_⟩
  rcases l with l | ⟨k, c, e, z⟩
  ·exact .inl l
  ·exact .inr ⟨k, c, e, cl c _ z⟩
 ·obtain ⟨v, z⟩ := I.cell x c e
  exact ⟨v, cl c v z⟩
 ·obtain ⟨e, n, ne, nf, d⟩ := I.pin p hp
  obtain ⟨u, hu⟩ := pb p hp
  exact ⟨kB p.1 p.2 u hu e, n, ne, nf, d⟩
 ·obtain ⟨v, hv⟩ := trk b o e
  exact kB b u v hv q
theorem Inv.covers (I : Inv X pins σ H s) (cov : ∀ b o, s.heap.get? b = some o -> b ∉ frs X.stack -> ∃ u, B.get? b = some u) :
  (∀ b o, X.s₀.heap.get? b = some o -> b ∉ X.fs -> b ∉ X.ex -> ∃ u, B.get? b = some u) /\ ∀ p ∈ X.pn ++ pins, ∃ u, B.get? p.1 = some u := by
 refine ⟨fun b o e hb hx => ?_, fun p hp => ?_⟩
 ·obtain ⟨o1, e1⟩ := I.base.there b o e hx
  refine cov b o1 e1 fun z => ?_
  rcases List.mem_cons.mp (I.stkSub b z) with z | z
  ·exact absurd (Nat.lt_of_lt_of_le (Heap.lt_size e) I.ok.above) (by rw [z]; exact Nat.lt_irrefl _)
  ·exact hb z
 ·obtain ⟨e, n, ne, nf, d⟩ := I.pin p hp
  refine cov p.1 p.2 e fun z => ?_
  rcases List.mem_cons.mp (I.stkSub p.1 z) with z | z
  ·exact ne z
  ·exact nf z
theorem Inv.left {ea : Addr} {cls a0 : Value} (I : Inv X pins σ H s) (hex : X.ex = []) (os : s2.os = s.os) (gs : s2.gens = s.gens) (st : B.StaysIn s.heap) (fl : Heap.FlyingW B X.outer ea cls a0 s2.heap) (up : s.heap.UpToSlots s2.heap)
  (trk : ∀ b o, H b = some o -> ∃ u, B.get? b = some u) (cov : ∀ b o, X.s₀.heap.get? b = some o -> b ∉ X.fs -> b ∉ X.ex -> ∃ u, B.get? b = some u) (pb : ∀ p ∈ X.pn ++ pins, ∃ u, B.get? p.1 = some u) (hE : E cls none H) :
  CX1 X.prog X.w X.outer X.H₀ X.s₀ E (.ref ea) s2 := by
 have J := I.flown os (by rw [gs]; exact I.bare) st fl.1 up trk cov pb
 have u := J.base
 rw [hex] at u
 exact ⟨ea, cls, a0, B, H, rfl, J.os, J.bare, fl, u, J.hok, trk, fun b o e hb => cov b o e hb (by rw [hex]; simp), hE⟩
end
section
variable {P : Program} {w : World} {K : PySem.W.Frag} {mg : Str -> Option Value} {base : Heap} {N : List Str} {qual : Str} {scope : Scope} {f : Addr} {cd : Value} {A : Around} {outer : List Env} {s₀ : Shared} {H₀ : Hp} {E : XK}
theorem bA : ig (CX1 P w) (dh (CX1 P w) P w K mg base N qual scope f cd A outer s₀ H₀ E) E := by
 intro pins σ H s e s' I h
 obtain ⟨ea, cls, a0, B, H', rfl, os, bare, fl, un, hok, trk, cov, hE⟩ := h
 have I' := I.call' os un hok bare (ch := []) (fun b z => absurd z (by simp))
 obtain ⟨c1, c2⟩ := I.covers cov
 show wpAny (model P w) _ (leaving _ (.ref ea)) _ _ s'
 exact wpAny_leaves_onW I.ok.frames rfl fl fun h' fl' up => I'.left (s2 := { s' with heap := h' }) rfl rfl rfl fl.1 fl' up trk c1 c2 hE
theorem JP {pins : List (Addr × Obj)} {σ : St} {H : Hp} {s : Shared} {h' : Heap} {e : Addr} {cls : Value} {vs : List Value} (I : Inv (dh (CX1 P w) P w K mg base N qual scope f cd A outer s₀ H₀ E) pins σ H s) (hm : Heap.MadeExcOf s.heap h' e cls vs) (hE : E cls none H) :
  (dh (CX1 P w) P w K mg base N qual scope f cd A outer s₀ H₀ E).xe (.ref e) { s with heap := h' } := by
 have st : (PySem.W.hideAll s.heap (frs (dh (CX1 P w) P w K mg base N qual scope f cd A outer s₀ H₀ E).stack)).StaysIn s.heap := fun b o q => PySem.W.of_hideAll _ q
 have cov : ∀ b o, s.heap.get? b = some o -> b ∉ frs (dh (CX1 P w) P w K mg base N qual scope f cd A outer s₀ H₀ E).stack -> ∃ u, (PySem.W.hideAll s.heap (frs (dh (CX1 P w) P w K mg base N qual scope f cd A outer s₀ H₀ E).stack)).get? b = some u :=
  fun b o q hb => ⟨o, PySem.W.hideAll_get _ q hb⟩
 have trk : ∀ b o, H b = some o -> ∃ u, (PySem.W.hideAll s.heap (frs (dh (CX1 P w) P w K mg base N qual scope f cd A outer s₀ H₀ E).stack)).get? b = some u := fun b o q => by
  obtain ⟨u, hu⟩ := (I.hok b o q).there
  exact cov b u hu fun z => by rw [I.stkFree b z] at q; cases q
 obtain ⟨c1, c2⟩ := I.covers cov
 have fr := PySem.W.funFrames_hide I.stack (fun env he b hb => List.mem_filterMap.mpr ⟨env, he, hb⟩ : ∀ env ∈ (dh (CX1 P w) P w K mg base N qual scope f cd A outer s₀ H₀ E).stack, ∀ a, env.frame = some a -> a ∈ frs (dh (CX1 P w) P w K mg base N qual scope f cd A outer s₀ H₀ E).stack)
 show wpAny (model P w) _ (leaving _ (.ref e)) _ _ { s with heap := h' }
 exact wpAny_leaves_madeW (s := { s with heap := h' }) I.ok.frames rfl st fr hm fun h'' t fl tup tn up => I.left (s2 := { s with heap := h'' }) rfl rfl rfl st fl ((Heap.UpToSlots.of_keeps hm.keeps).trans up) trk c1 c2 hE
end
end L2
set_option Elab.async false
set_option linter.all false
set_option maxRecDepth 100000
set_option maxHeartbeats 4000000
namespace L2
open PySem PySem.Spec PyProof.Rows
abbrev Ff : List Value := [.type "ValueError", .type "Exception", .type "BaseException", .type "object"]
structure Exc (K : PySem.W.Frag) (mg : Str -> Option Value) (x : Str) (C : Addr) : Prop where
 nm : PySem.W.nsIn K mainGlobals x = some (some (.ref C))
 mg_ : mg x = some (.ref C)
 own : PySem.W.excIn K C Ff "ValueError.__new__" = true
structure ExcT (K : PySem.W.Frag) (C : Addr) : Prop where
 ga : PySem.W.findIn K (.ref C) "__getattribute__" = some (some (.builtin "BaseException.__getattribute__"))
 gt : PySem.W.findIn K (.ref C) "__getattr__" = some none
 cl : PySem.W.findIn K (.ref C) "__class__" = some (some (.builtin "object.__class__"))
 gn : PySem.W.specialIn K (.builtin "object.__class__") "__get__" = some (some (.builtin "getset_descriptor.__get__"))
 tk : PySem.W.takesIn K (.builtin "object.__class__") = some true
 mo : PySem.W.mroIn K C (.type "object") = some true
 mb : PySem.W.mroIn K C (.type "BaseException") = some true
def Jj (C : Addr) (E : XK) (ta : TA) : TS := fun _ σ H => ta σ H fun vs H1 => vs.length <= sizeLine /\ E (.ref C) none H1
theorem HJ {K : PySem.W.Frag} {mg : Str -> Option Value} {h : Heap} {x : Str} {C : Addr} (e : Exc K mg x C) (X : K.In h) : OwnCls x C Ff "ValueError.__new__" mg h := by
 have q := e.own
 refine ⟨e.mg_, ?_⟩
 unfold PySem.W.excIn at q
 split at q
 ·rename_i dd cd sl ho
  split at q
  ·rename_i C' bm k0 k1 k2 k3 n k5 hm hs
   simp only [Bool.and_eq_true, beq_iff_eq, Bool.not_eq_true'] at q
   obtain ⟨⟨⟨⟨⟨rfl, rfl⟩, hdel⟩, ht⟩, hok⟩, hni⟩ := q
   obtain ⟨nm, bs, mro, ns, qn, hd, sn, sub, ab, col, del⟩ := cd
   dsimp only at hm hdel hok hni
   subst hm hdel
   have hsl : sl = #[k0, k1, k2, k3, some (.builtin "ValueError.__new__"), k5] := by
    obtain ⟨l⟩ := sl
    simp only at hs
    rw [hs]
   subst hsl
   exact ⟨bm, ns, nm, qn, bs, hd, sn, sub, ab, col, dd, k0, k1, k2, k3, k5, _, X _ _ ho, .of_isNs (PySem.W.isNs_of_in X hok), PySem.W.nsMap_none_of_in X hok hni, PySem.W.tail_of_in X ht⟩
  ·cases q
 ·cases q
section
variable {P : Program} {w : World} {K : PySem.W.Frag} {mg : Str -> Option Value} {base : Heap} {N : List Str} {qual : Str} {scope : Scope} {f : Addr} {cd : Value} {A : Around} {outer : List Env} {s₀ : Shared} {H₀ : Hp} {E : XK}
theorem iR {x : Str} {C : Addr} {np cpos pos : Pos} {e0 : Expr} {rest : List Expr} {ta : TA} (Ex : Exc K mg x C) (ha : PA (dh (CX1 P w) P w K mg base N qual scope f cd A outer s₀ H₀ E) (e0 :: rest) ta)
  (hg : Gl (dh (CX1 P w) P w K mg base N qual scope f cd A outer s₀ H₀ E) x) (hdb : (x == ("__debug__" : Str)) = false := by decide)
  (he : starEach (e0 :: rest) (envOfC qual scope s₀.heap.objs.size f cd) = (false, eval e0 (envOfC qual scope s₀.heap.objs.size f cd)) :: starEach rest (envOfC qual scope s₀.heap.objs.size f cd) := by rfl)
  (hpl : (backTo cpos (starEach rest (envOfC qual scope s₀.heap.objs.size f cd))).any (·.1) = false := by rfl) :
  PS (dh (CX1 P w) P w K mg base N qual scope f cd A outer s₀ H₀ E) (.Raise (some (.Call (.Name x np) (e0 :: rest) [] cpos)) none pos) (Jj C E ta) := by
 intro pins s σ H D I h
 obtain ⟨tl, N', nm, q, bs, hdct, sn, sub, ab, col, dd, k0, k1, k2, k3, k5, mN, hC, hN, hni, T⟩ := (HJ Ex I.ok.mod.kin).obj
 refine wpAny_Raise_call_subT (C := C) (nm := nm) (q := q) (N := N') (bs := bs) (bm := tl) (hdct := hdct) (sn := sn) (sub := sub) (ab := ab) (col := col) (dd := dd) (k0 := k0) (k1 := k1) (k2 := k2) (k3 := k3) (k5 := k5)
  PySem.F.excBase_ValueError (mN := mN) (T.hasType PySem.F.excBase_ValueError.hasBase) (I.ok.hd rfl) ?_ hni (lF I hg Ex.mg_ ⟨rfl, ?_⟩ hdb)
 ·show (backTo cpos (starEach (e0 :: rest) (envOfC qual scope s₀.heap.objs.size f cd))).any (·.1) = false
  rw [he]
  show (false || (backTo cpos (starEach rest (envOfC qual scope s₀.heap.objs.size f cd))).any (·.1)) = false
  rw [hpl]
  rfl
 have hw := thn (ha cpos pins s σ H _ I h) (Q' := fun us s1 => us.length <= sizeLine /\ s1.heap.get? C = some (excClassObj nm q C N' bs tl hdct sn sub ab col dd k0 k1 k2 k3 k5 "ValueError.__new__") /\ s1.heap.Ns N' mN /\ OwnTail s1.heap Ff tl /\
   ∀ h' e, Heap.MadeExcOf s1.heap h' e (.ref C) us -> (dh (CX1 P w) P w K mg base N qual scope f cd A outer s₀ H₀ E).xe (.ref e) { s1 with heap := h' })
  (fun us s1 ⟨vs, H1, I1, r, q1, q2⟩ => ⟨by rw [<- r.length]; exact q1, I1.bk _ _ hC, hN.keeps I1.bk, T.keeps I1.bk, fun h' e hm => JP I1 hm q2⟩)
 show wpAny (model P w) _ (evalArgs (.ref C) true (backTo cpos (starEach (e0 :: rest) (envOfC qual scope s₀.heap.objs.size f cd))) []) _ _ s
 have hw' : wpAny (model P w) (A.deeper (envOfC qual scope s₀.heap.objs.size f cd)) (spliced (backTo cpos (starEach (e0 :: rest) (envOfC qual scope s₀.heap.objs.size f cd)))) _ _ s := hw
 rw [he] at hw' ⊢
 exact Calls.evalArgs_plain (wpAny_mono hw' (fun vs s₂ h₂ => ⟨rfl, h₂⟩) fun _ _ y => y)
end
structure DefX (P : Program) (w : World) (K : PySem.W.Frag) (mg : Str -> Option Value) (base : Heap) (x : Str) (ps : List Str) (k : Nat) (sp : Sp) : Prop where
 ex : ∃ f fd, FnOk P w K mg base (CX1 P w) k f fd ps sp /\ mg x = some (.ref f) /\ PySem.W.keepIn K (.ref f) = true /\ Binds K fd ps []
section
variable {P : Program} {w : World} {K : PySem.W.Frag} {mg : Str -> Option Value} {base : Heap}
theorem DefX.of {x : Str} {st : Stmt} {N ps : List Str} {k : Nat} {sp : Sp} (F : FunM K mg x st ps) (S : FnScope N ps (aF st)) (len : ∀ vs H Q E, sp vs H Q E -> vs.length = ps.length)
  (hbody : ∀ (f : Addr) (cdv : Value) (A : Around) (outer : List Env) (s : Shared) (H : Hp) (vs : List V) (Q : VK) (E : XK), Room k (A.deeper (envOfC x (aF st) s.heap.objs.size f cdv)) -> sp vs H Q E ->
   ∃ t, PSs (dh (CX1 P w) P w K mg base N x (aF st) f cdv A outer s H E) (cO st) t /\ t { nx := fun _ H' => Q .non H', rt := Q } (start N vs) H) : DefX P w K mg base x ps (k + 1) sp := by
 obtain ⟨f, fd, F1, hm, hb⟩ := F.ex
 have kp := F1.kp
 obtain ⟨oc, od, kV, doc, pm, an, cdv, ct, osl, rfl, lk, hcd⟩ := F1.ex
 exact ⟨f, _, Gw lk hcd S len (fun A outer s H vs Q E hr hsp => hbody f cdv A outer s H vs Q E hr hsp), hm, kp, hb⟩
end
theorem bz {X : Cx} {x : Str} {ps : List Str} {k : Nat} {sp : Sp} {p pos : Pos} {e : Expr} {es : List Expr} {t : TA} {E : XK} (D : DefX X.prog X.w X.K X.mg X.base x ps k sp) (hr : Room k X.A) (hg : Gl X x) (hx : ig (CX1 X.prog X.w) X E) (ha : PA X (e :: es) t)
  (hdb : (x == ("__debug__" : Str)) = false := by decide)
  (he : starEach (e :: es) X.env = (false, eval e X.env) :: starEach es X.env := by rfl) (hpl : (backTo pos (starEach es X.env)).any (·.1) = false := by rfl) : PE X (.Call (.Name x p) (e :: es) [] pos) (Bb sp [] E t) := by
 obtain ⟨f, fd, F, hm, hk, hb⟩ := D.ex
 exact zY F hr hg hm hk hb .nil hx ha hdb he hpl
end L2
set_option Elab.async false
set_option linter.all false
set_option maxRecDepth 100000
set_option maxHeartbeats 4000000
namespace L2
open PySem PySem.Spec PyProof.Rows
def ExcAt (ea : Addr) (cls : Value) (h : Heap) : Prop := ∃ ob vs, h.get? ea = some ob /\ ob.cls = cls /\ ob.data = .fields vs
abbrev Cx.tryX (X : Cx) (pins : List (Addr × Obj)) (E : XK) : Cx := { X with pn := X.pn ++ pins, xe := fun e s' => ∃ (ea : Addr) (cls a0 : Value) (B : Heap) (H1 : Hp) (σ1 : St), e = .ref ea /\ Inv X pins σ1 H1 s' /\ Heap.FlyingW B X.stack ea cls a0 s'.heap /\
 (∀ b o, H1 b = some o -> ∃ u, B.get? b = some u) /\ (∀ b o, X.s₀.heap.get? b = some o -> b ∉ X.fs -> b ∉ X.ex -> ∃ u, B.get? b = some u) /\ (∀ p ∈ X.pn ++ pins, ∃ u, B.get? p.1 = some u) /\ E cls none H1 }
abbrev Cx.inH (X : Cx) (ea : Addr) : Cx := { X with A := X.A.mark (some (.ref ea)), calm := false, xe := fun _ _ => False }
section
variable {X : Cx} {pins pins' : List (Addr × Obj)} {σ : St} {H : Hp} {s : Shared} {E : XK} {ea : Addr}
theorem Cx.Ok.try_ (ok : X.Ok) (pins : List (Addr × Obj)) (E : XK) : (X.tryX pins E).Ok :=
 ⟨ok.mod, ok.kind, ok.glob, ok.blt, ok.above, ok.inj, ok.has, ok.cab, ok.hd, ok.frames, ok.stk, ok.exf, ok.bs, ok.bsz, ok.noex, ok.exfs, ok.funs, ok.frf⟩
theorem Cx.Ok.untry (ok : (X.tryX pins E).Ok) : X.Ok :=
 ⟨ok.mod, ok.kind, ok.glob, ok.blt, ok.above, ok.inj, ok.has, ok.cab, ok.hd, ok.frames, ok.stk, ok.exf, ok.bs, ok.bsz, ok.noex, ok.exfs, ok.funs, ok.frf⟩
theorem Cx.Ok.inH (ok : X.Ok) (ea : Addr) : (X.inH ea).Ok :=
 ⟨ok.mod, ok.kind, ok.glob, ok.blt, ok.above, ok.inj, ok.has, ok.cab, (fun z => by cases z), ok.frames, ok.stk, ok.exf, ok.bs, ok.bsz, ok.noex, ok.exfs, ok.funs, ok.frf⟩
theorem Inv.try_ (I : Inv X pins σ H s) (E : XK) : Inv (X.tryX pins E) [] σ H s :=
 ⟨I.ok.try_ pins E, I.os, I.bare, I.base, I.loc, I.cell, I.free, I.freeC, (fun p hp => I.pin p (by simpa using hp)), I.hok, I.len⟩
theorem Inv.untry (I : Inv (X.tryX pins E) pins' σ H s) : Inv X pins σ H s :=
 ⟨I.ok.untry, I.os, I.bare, I.base, I.loc, I.cell, I.free, I.freeC, (fun p hp => I.pin p (List.mem_append_left _ hp)), I.hok, I.len⟩
theorem Inv.inH (I : Inv X pins σ H s) (ea : Addr) : Inv (X.inH ea) pins σ H s :=
 ⟨I.ok.inH ea, I.os, I.bare, I.base, I.loc, I.cell, I.free, I.freeC, I.pin, I.hok, I.len⟩
theorem Inv.outH (I : Inv (X.inH ea) pins σ H s) (ok : X.Ok) : Inv X pins σ H s :=
 ⟨ok, I.os, I.bare, I.base, I.loc, I.cell, I.free, I.freeC, I.pin, I.hok, I.len⟩
theorem Inv.trackX {a : Addr} {o : HO} (I : Inv X pins σ H s) (hn : H a = none) (h0 : X.s₀.heap.get? a = none) (hL : a ≠ X.env.locals) (hC : ∀ x c, X.env.cells.lookup x = some c -> c ≠ a) (hp : ∀ p ∈ X.pn ++ pins, p.1 ≠ a)
  (new : ObjOk X.prog X.w (upd H a o) s.heap a o) : Inv X pins σ (upd H a o) s := by
 refine ⟨I.ok, I.os, I.bare, ⟨I.base.keep, I.base.slot, fun b ob e n hx => ?_, I.base.there, fun b xs e => ?_, fun b ob u e => ?_, fun b ps e => ?_⟩, I.loc, I.cell, ?_, fun x c e => ?_, fun p q => ?_, fun b u e => ?_, I.len⟩
 ·rw [aO (fun z => by rw [z, h0] at e; cases e)]; exact I.base.free b ob e n hx
 ·have := I.base.tups b xs e
  rw [aO (bh this hn)]; exact this
 ·have := I.base.frzs b ob u e
  rw [aO (bh this hn)]; exact this
 ·obtain ⟨m, q⟩ := I.base.tbls b ps e
  exact ⟨m, by rw [aO (bh q hn)]; exact q⟩
 ·rw [aO hL.symm]; exact I.free
 ·rw [aO (hC x c e)]; exact I.freeC x c e
 ·obtain ⟨a1, a2, a3, a4, a5⟩ := I.pin p q
  exact ⟨a1, by rw [aO (hp p q)]; exact a2, a3, a4, a5⟩
 ·by_cases hb : b = a
  ·subst hb; rw [az] at e; cases e; exact new
  ·rw [aO hb] at e
   exact (I.hok b u e).stay (fun _ _ _ q => q) (fun c q => by rw [aO (bh q hn)]; exact q) fun c xs q => by rw [aO (bh q hn)]; exact q
theorem Inv.unbound {h' : Heap} {m' : Str -> Option Value} {t : Nat} (I : Inv X pins σ H s) (hs : Heap.SameBut X.env.locals s.heap h') (hn : h'.Ns X.env.locals m') : Inv X pins (List.replicate X.N.length none) H { s with heap := h', toks := t } := by
 have neL : ∀ b o, X.s₀.heap.get? b = some o -> b ≠ X.env.locals := fun b o e => Nat.ne_of_lt (Nat.lt_of_lt_of_le (Heap.lt_size e) I.ok.above)
 refine ⟨I.ok, I.os, I.bare, ⟨fun b o e n hb hx => (hs.2 b (neL b o e)).trans (I.base.keep b o e n hb hx), fun b o e n hb hx => ?_, I.base.free, fun b o e hx => ?_, I.base.tups, I.base.frzs, I.base.tbls⟩, ⟨m', hn, fun i x v e1 e2 e3 => ?_⟩, fun x c e => ?_, I.free, I.freeC, fun p hp => ?_, fun b u e => ?_, by simp⟩
 ·obtain ⟨sl, e1⟩ := I.base.slot b o e n hb hx
  exact ⟨sl, (hs.2 b (neL b o e)).trans e1⟩
 ·obtain ⟨o', e1⟩ := I.base.there b o e hx
  exact ⟨o', (hs.2 b (neL b o e)).trans e1⟩
 ·rw [List.getElem?_replicate] at e2
  split at e2 <;> cases e2
 ·obtain ⟨v, z⟩ := I.cell x c e
  exact ⟨v, z.sameBut hs (I.cne x c e)⟩
 ·obtain ⟨e, n, ne, nf, d⟩ := I.pin p hp
  exact ⟨(hs.2 p.1 ne).trans e, n, ne, nf, d⟩
 ·refine (I.hok b u e).stay (fun c w' hc q => (hs.2 c ?_).trans q) (fun _ q => q) fun _ _ q => q
  rintro rfl
  rcases hc with rfl | hc
  ·rw [I.free] at e; cases e
  ·rw [I.free] at hc; cases hc
theorem J7 : ig (CX1 X.prog X.w) (X.tryX pins E) E := by
 intro pins' σ H s e s' I h
 obtain ⟨ea, cls, a0, B, H', rfl, os, bare, fl, un, hok, trk, cov, hE⟩ := h
 have I0 := I.untry
 have I' := I0.call' os un hok bare (ch := []) (fun b z => absurd z (by simp))
 obtain ⟨c1, c2⟩ := I0.covers cov
 exact ⟨ea, cls, a0, B, H', σ, rfl, I', fl, trk, c1, c2, hE⟩
end
def Lf (K : PySem.W.Frag) (len : Nat) (C : Addr) (i : Nat) (E : XK) (tb th : TS) : TS := fun D σ H => tb D σ H /\ ∀ (cls : Value) (H1 : Hp) (ea : Addr), E cls none H1 -> H1 ea = none -> PySem.W.exmOne K cls (.ref C) = some true /\
 th { nx := fun _ H2 => D.nx (List.replicate len none) H2, rt := D.rt, bk := fun _ H2 => D.bk (List.replicate len none) H2, ct := fun _ H2 => D.ct (List.replicate len none) H2 } ((List.replicate len none).set i (some (.ref ea))) (upd H1 ea (.ext (ExcAt ea cls)))
theorem IW {X : Cx} {body : List Stmt} {x n : Str} {np pos hpos : Pos} {b0 : Stmt} {suite : List Stmt} {tb th : TS} {E : XK} {C : Addr} {i : Nat} (hst : X.stack = X.env :: X.outer) (hfr : X.env.frame = some X.env.locals) (hex : X.ex = [])
  (hN : X.N.Nodup) (hi : X.N[i]? = some n) (hl : X.env.scope.names.lookup n = some .local) (hkn : X.env.kindOf n = some .local) (hg : Gl X x) (hm : X.mg x = some (.ref C))
  (hb : ∀ pins, PSs (X.tryX pins E) body tb) (hh : ∀ ea, PSs (X.inH ea) (b0 :: suite) th) (hd : (x == ("__debug__" : Str)) = false := by decide) :
  PS X (.Try body [.ExceptHandler (some (.Name x np)) (some n) (b0 :: suite) hpos] [] [] pos) (Lf X.K X.N.length C i E tb th) := by
 intro pins s σ H D I h
 obtain ⟨h1, h2⟩ := h
 refine wpAny_Try_except (wpAny_mono (hb pins [] s σ H D (I.try_ E) h1) (fun f s₁ q => ?_) (fun e s₁ q => ?_))
 ·cases f with
  | next => obtain ⟨σ', H', I', q⟩ := q; exact wpAny_execs_nil ⟨σ', H', I'.untry, q⟩
  | brk => obtain ⟨σ', H', I', q⟩ := q; exact ⟨σ', H', I'.untry, q⟩
  | cont => obtain ⟨σ', H', I', q⟩ := q; exact ⟨σ', H', I'.untry, q⟩
  | ret u => obtain ⟨v, σ', H', I', r, q⟩ := q; exact ⟨v, σ', H', I'.untry, r, q⟩
 ·obtain ⟨ea, cls, a0, B, H1, σ1, rfl, I1, fl, trk, c1, c2, hE⟩ := q
  have afr := I.ok.frames
  rw [hst] at fl afr
  refine wpAny_looks_onW afr hfr fl fun h₄ held₄ up₄ => ?_
  refine wpAny_landsW held₄ fun h₅ fl₅ up₅ => ?_
  have I5 : Inv X pins σ1 H1 { s₁ with heap := h₅ } := I1.flown rfl I1.bare fl.1 fl₅.1 (up₄.trans up₅) trk c1 c2
  have nea : H1 ea = none := by
   cases e : H1 ea with
   | none => rfl
   | some o => obtain ⟨u, hu⟩ := trk ea o e; rw [fl.2.1] at hu; cases hu
  obtain ⟨hx, hth⟩ := h2 cls H1 ea hE nea
  refine wpAny_handleBy_cons (codeAny_handlers_test (lF (X := X.inH ea) (I5.inH ea) hg hm ?_ hd)) (by intro q; cases q)
  obtain ⟨ob, hob, hobc⟩ := fl₅.there
  have LT : PySem.W.Looks (model X.prog X.w) h₅ (typeOf (.ref ea)) cls := hobc ▸ (PySem.W.Looks.ld hob).andThen .now
  refine (PySem.W.exm_one (K := X.K) I5.kIn LT hx).here ?_
  show codeAny _ _ _ _ _
  refine codeAny_handlers_suite_as ?_
  refine lands_againW fl₅ fun h₆ fl₆ up₆ => ?_
  have I6 : Inv X pins σ1 H1 { s₁ with heap := h₆ } := I5.flown rfl I1.bare fl₅.1 fl₆.1 up₆ trk c1 c2
  obtain ⟨oe, ws, hoe, hoec, hoed, _⟩ := fl₆.first
  have nfr : ∀ b ∈ frs (X.env :: X.outer), b ≠ ea := fun b hb z => by
   obtain ⟨_, o', ho', hnf⟩ := fl₆.2.2.1.mem hb
   rw [z, hoe] at ho'
   cases ho'
   exact hnf _ hoed
  have sub : ∀ b ∈ X.fs, b ∈ frs (X.env :: X.outer) := fun b hb => by
   unfold frs
   rw [List.filterMap_cons, hfr]
   exact List.mem_cons_of_mem _ hb
  have n0 : X.s₀.heap.get? ea = none := by
   cases e : X.s₀.heap.get? ea with
   | none => rfl
   | some o =>
    by_cases hb : ea ∈ X.fs
    ·exact absurd rfl (nfr ea (sub ea hb))
    ·obtain ⟨u, hu⟩ := c1 ea o e hb (by rw [hex]; simp)
     rw [fl.2.1] at hu; cases hu
  have nL : ea ≠ X.env.locals := (nfr X.env.locals (by unfold frs; rw [List.filterMap_cons, hfr]; exact List.mem_cons_self)).symm
  have nC : ∀ y c, X.env.cells.lookup y = some c -> c ≠ ea := fun y c e z => by
   obtain ⟨v, o, ho, hdd⟩ := I6.cell y c e
   rw [z] at ho
   have ho' : h₆.get? ea = some o := ho
   rw [hoe] at ho'
   cases ho'
   rw [hoed] at hdd
   cases hdd
  have nP : ∀ p ∈ X.pn ++ pins, p.1 ≠ ea := fun p hp z => by
   obtain ⟨u, hu⟩ := c2 p hp
   rw [z, fl.2.1] at hu; cases hu
  have I7 : Inv X pins σ1 (upd H1 ea (.ext (ExcAt ea cls))) { s₁ with heap := h₆ } := I6.trackX nea n0 nL nC nP
   ⟨⟨oe, ws, hoe, hoec, hoed⟩, ⟨oe, hoe⟩, fun g1 g2 ⟨o, v, a1, a2, a3⟩ k => ⟨o, v, k o a1, a2, a3⟩⟩
  have I8 := I7.weak (σ' := List.replicate X.N.length none) (by rw [List.length_replicate]; exact I7.len.symm) (fun j v e => by
   rw [List.getElem?_replicate] at e
   split at e <;> cases e)
  refine qN (X := X.inH ea) (I8.inH ea) hN hi (.inl hl) (v := .ref ea) rfl (fun s' I9 => ?_) (.inr hl)
  refine wpAny_mono (hh ea pins s' _ _ _ I9 hth) (fun f s'' q => ?_) (fun _ _ z => z.elim)
  have fin : ∀ {σ' : St} {H' : Hp} {Q : Shared -> Prop}, Inv (X.inH ea) pins σ' H' s'' -> (∀ s3, Inv X pins (List.replicate X.N.length none) H' s3 -> Q s3) -> wpAny (model X.prog X.w) X.A (do bindName X.env n .none; unbindBehindTheSuite X.env n hpos) (fun _ s3 => Q s3) X.xe s'' := fun {σ' H' Q} J k => by
   obtain ⟨m, hn, _⟩ := id J.loc
   refine wpAny_nameGoes hkn hn (by rw [I.ok.kind]; rfl) fun h' m' hn' hs => k _ ?_
   exact (J.outH I.ok).unbound hs hn'
  cases f with
  | next => obtain ⟨σ', H', J, q⟩ := q; exact fin J fun s3 J3 => ⟨_, H', J3, q⟩
  | brk => obtain ⟨σ', H', J, q⟩ := q; exact fin J fun s3 J3 => ⟨_, H', J3, q⟩
  | cont => obtain ⟨σ', H', J, q⟩ := q; exact fin J fun s3 J3 => ⟨_, H', J3, q⟩
  | ret u => obtain ⟨v, σ', H', J, r, q⟩ := q; exact fin J fun s3 J3 => ⟨v, _, H', J3, r, q⟩
end L2
set_option Elab.async false
set_option linter.all false
set_option maxRecDepth 100000
set_option maxHeartbeats 400000
namespace L2
open PySem PySem.Spec PyProof.Rows PySem.W PySem.Calls PySem.Builtin PySem.Builtin.ObjectAttr PySem.Builtin.Getset_descriptor
section
variable {K : Frag} {C x : Addr}
theorem Fi {M : Model} {h : Heap} (X : K.In h) (e : ExcT K C) : Looks M h (find (.ref x) (.ref C) "__class__") (.bind (.builtin "getset_descriptor.__get__") (.builtin "object.__class__")) := by
 have L1 := looks_findIn (M := M) X e.cl
 have L2' : Looks M h (getOf (some (.builtin "object.__class__"))) (some (.builtin "getset_descriptor.__get__")) := looks_specialIn X e.gn
 have L3 := looks_takesIn (M := M) X e.tk
 exact L1.andThen (L2'.andThen ((show Looks M h (dataDescriptor? (some (.builtin "object.__class__")) (some (.builtin "getset_descriptor.__get__"))) (some (.builtin "getset_descriptor.__get__", .builtin "object.__class__")) from L3.andThen .now).andThen (Looks.tag .now)))
theorem exc_type {M : Model} {h : Heap} (p : ExcAt x (.ref C) h) : Looks M h (typeOf (.ref x)) (.ref C) := by
 obtain ⟨ob, vs, h1, h2, _⟩ := p
 exact h2 ▸ (Looks.ld h1).andThen .now
variable {prog : Program} {w : World} {A : Around} {E : Value -> Shared -> Prop} {s : Shared}
theorem Fw {R : Result -> Shared -> Prop} (X : K.In s.heap) (e : ExcT K C) (p : ExcAt x (.ref C) s.heap) (h : R (.ok (.ret (.ref C))) s) :
  codeAny (model prog w) A (.call (.builtin "getset_descriptor.__get__") ⟨[.builtin "object.__class__", .ref x, .ref C], []⟩) R s := by
 obtain ⟨hh, g, dr, t, os⟩ := s
 have L0 := exc_type (M := model prog w) p
 have L1 := looks_mroIn (M := model prog w) X e.mo
 obtain ⟨ob, vs, o1, o2, _⟩ := p
 refine codeAny_call_builtin KF.slot_gs.plain KF.entry_gs (KF.slot_gs.check _ _ _ _ _ _ _ _ KF.type_class (KF.args_gs _ _ _) ?_)
 unfold Builtin.«getset_descriptor.__get__» descrGet
 rw [dga_obj]
 refine wpAny_bind (wpAny_pure ?_)
 unfold descrGetter descrCheckInstance descrNameAndClass isInstance
 simp only [KF.owner_class]
 repeat lk
 refine ⟨Code.quiet_builtin _ (by decide +kernel), codeAny_builtin KF.entry_class ?_⟩
 unfold Builtin.«object.__class__» shownTypeOf
 repeat lk
 exact h
theorem D_ {tk : Tok} {Q : Fin -> Shared -> Prop} (X : K.In s.heap) (e : ExcT K C) (p : ExcAt x (.ref C) s.heap) (h : Q (.done (.ret (.ref C))) s) :
  wpAny (model prog w) A (Builtin.«object.__getattribute__» ⟨[.ref x, .str "__class__" tk], []⟩) Q E s := by
 obtain ⟨hh, g, dr, t, os⟩ := s
 have L0 := exc_type (M := model prog w) p
 have L4 := Fi (x := x) (M := model prog w) X e
 unfold Builtin.«object.__getattribute__»
 refine wpAny_bind (wpAny_of_eq (a := (Value.ref x, [Value.str "__class__" tk])) rfl ?_)
 refine wpAny_bind (wpAny_of_eq (a := ("__class__" : Str)) rfl ?_)
 refine wpAny_bind (L0.at (wpAny_bind (L4.at ?_)))
 show wpAny _ _ (bindTo (.builtin "getset_descriptor.__get__") (.builtin "object.__class__") (.ref x) (.ref C)) _ _ _
 show wpAny _ _ (holding [.builtin "object.__class__"] (call (.builtin "getset_descriptor.__get__") [.builtin "object.__class__", .ref x, .ref C]) >>= ret) _ _ _
 refine wpAny_bind (wpAny_holding (wpAny_call (Fw (s := ⟨hh, g, dr, t, os⟩) X e p ?_)))
 exact wpAny_pure h
theorem JC {R : Result -> Shared -> Prop} {tk : Tok} (X : K.In s.heap) (e : ExcT K C) (p : ExcAt x (.ref C) s.heap) (h : R (.ok (.ret (.ref C))) s) :
  codeAny (model prog w) A (.call (.builtin "BaseException.__getattribute__") ⟨[.ref x, .str "__class__" tk], []⟩) R s := by
 obtain ⟨hh, g, dr, t, os⟩ := s
 have L0 := exc_type (M := model prog w) p
 have L1 := looks_mroIn (M := model prog w) X e.mb
 refine codeAny_call_builtin PySem.F.attr_ValueError.ga.plain PySem.F.entry_bexc_ga ?_
 have hk : builtinKind "BaseException.__getattribute__" = some .slot := by decide +kernel
 have hsplit : splitId "BaseException.__getattribute__" = some ("BaseException", "__getattribute__") := by decide +kernel
 have ha := PySem.F.args_bexc_ga (.ref x) (.str "__class__" tk)
 have fin := D_ (prog := prog) (w := w) (A := A.in1) (E := fun e s' => R (Except.error e) s') (s := ⟨hh, g, dr, t, os⟩) (x := x) (tk := tk) (Q := fun fin s' => match fin with
  | Fin.done f => R (Except.ok f) s'
  | Fin.again c' => c'.quiet = true /\ codeAny (model prog w) A c' R s') X e p h
 simp only [checkBuiltinCall, hk, hsplit]
 refine wpAny_bind ?_
 unfold isInstance
 refine wpAny_bind (L0.at (L1.at ?_))
 simp only [Bool.not_true, Bool.false_eq_true, if_false]
 exact wpAny_of_eq ha fin
theorem Cy {Q : Option Value -> Shared -> Prop} (X : K.In s.heap) (e : ExcT K C) (p : ExcAt x (.ref C) s.heap) (h : Q (some (.ref C)) { s with toks := s.toks + 1 }) : wpAny (model prog w) A (getAttr? (.ref x) "__class__") Q E s := by
 obtain ⟨hh, g, d, t, os⟩ := s
 have L0 := exc_type (M := model prog w) p
 have L1 := looks_findIn (M := model prog w) X e.ga
 have L3 := looks_findIn (M := model prog w) X e.gt
 have b1 := PySem.F.attr_ValueError.ga.bind (.ref x)
 unfold getAttr? getAttrBy? getAttrBy
 refine wpAny_bind (wpAny_mkText (wpAny_bind (wpAny_attempt (wpAny_holding (wpAny_bind (L0.at (wpAny_bind (L1.at ?_))))))))
 have hx2 : (Value.builtin "BaseException.__getattribute__" == Value.builtin "object.__getattribute__") = false := by decide +kernel
 dsimp only
 rw [hx2, Bool.and_false, if_neg Bool.false_ne_true]
 unfold getAttrByItsOwn hookBefore
 show wpAny _ _ (typeLookup (.ref C) "__getattr__" >>= _) _ _ _
 refine wpAny_bind (L3.at ?_)
 refine wpAny_bind (wpAny_attempt (wpAny_holding ?_))
 unfold callGetattribute boundAndCalled
 rw [Bool.false_and, if_neg Bool.false_ne_true]
 refine wpAny_bind (wpAny_of_eq b1 ?_)
 refine wpAny_call (JC (s := ⟨hh, g, d, t + 1, os⟩) X e p ?_)
 refine handed_on rfl ?_
 exact wpAny_pure h
theorem wK (hc : (clsIn K C).isSome = true) (e : ExcT K C) : KitX K (.ref x) (.ref C) (ExcAt x (.ref C)) where
 ty := fun _ _ _ p => exc_type p
 it := fun _ _ X _ => by
  obtain ⟨cdD, hcD⟩ := Option.isSome_iff_exists.mp hc
  unfold clsIn at hcD
  split at hcD
  ·rename_i c' d' cd' sl' ho
   intro A' Q' E' s' k q
   unfold isType loadHead
   exact wpAny_bind (wpAny_loadPart (k _ _ (X _ _ ho)) (wpAny_pure q))
  ·cases hcD
 ne := fun h tp dd its n sl X htp => by
  obtain ⟨cdD, hcD⟩ := Option.isSome_iff_exists.mp hc
  refine Bool.eq_false_iff.mpr fun q => ?_
  have e : C = tp := Value.ref.inj (beq_iff_eq.mp q)
  subst e
  unfold clsIn at hcD
  split at hcD
  ·rename_i c' d' cd' sl' ho
   have z := (X _ _ ho).symm.trans htp
   cases z
  ·cases hcD
 ca := fun X p k => Cy X e p k
theorem ExcT.cls (e : ExcT K C) : (clsIn K C).isSome = true := by
 have := e.mo
 unfold mroIn at this
 cases h : clsIn K C with
 | none => rw [h] at this; cases this
 | some _ => rfl
end
def Gz (K : PySem.W.Frag) : List V -> Hp -> VK -> Prop := fun xs H Q => ∃ ea C c b, xs = [.ref ea, c] /\ H ea = some (.ext (ExcAt ea (.ref C))) /\ ExcT K C /\ ((∃ D, c = .ref D /\ kitOne K (.ref C) (.ref D) = some b) \/ ∃ T, c = .ty T /\ kitOne K (.ref C) (.type T) = some b) /\ Q (.bl b) H
theorem yo {X : Cx} : CallR X (.builtin "isinstance") (Gz X.K) := by
 intro pins s σ H xs us Q I r h
 obtain ⟨ea, C, c, b, rfl, he, ex, hk, q⟩ := h
 obtain ⟨p, _, _⟩ := (show ObjOk X.prog X.w H s.heap ea (.ext (ExcAt ea (.ref C))) from I.hok ea _ he)
 cases r with
 | cons r1 rr =>
  cases rr with
  | cons r2 rr =>
   cases rr
   cases r1
   rcases hk with ⟨D, rfl, e⟩ | ⟨T, rfl, e⟩
   ·cases r2
    exact kia_one (wK ex.cls ex) I.kIn p e (fun z => nomatch z) fun tk => ⟨.bl b, H, I.tok _, rfl, q⟩
   ·cases r2
    exact kia_one (wK ex.cls ex) I.kIn p e (fun z => nomatch z) fun tk => ⟨.bl b, H, I.tok _, rfl, q⟩
theorem pX {X : Cx} (K : PySem.W.Frag) (h : X.K = K := by rfl) : CallR X (.builtin "isinstance") (Gz K) := by subst h; exact yo
end L2
set_option Elab.async false
set_option linter.all false
set_option maxRecDepth 100000
set_option maxHeartbeats 400000
namespace L2
open PySem PySem.Spec PyProof.Rows
mutual
def Lay (H : Hp) : D -> V -> Prop
 | .non, v => v = .non
 | .bl b, v => v = .bl b
 | .int i, v => v = .int i
 | .str x, v => v = .str x
 | .tup ds, v => ∃ a vs, v = .ref a /\ H a = some (.tup vs) /\ Lays H ds vs
 | .lst ds, v => ∃ a vs, v = .ref a /\ H a = some (.lst vs) /\ Lays H ds vs
def Lays (H : Hp) : List D -> List V -> Prop
 | [], vs => vs = []
 | d :: ds, vs => ∃ v r, vs = v :: r /\ Lay H d v /\ Lays H ds r
end
mutual
theorem Lay.mono {H H' : Hp} (e : Same H H') : ∀ {d : D} {v : V}, Lay H d v -> Lay H' d v
 | .non, _, h => h
 | .bl _, _, h => h
 | .int _, _, h => h
 | .str _, _, h => h
 | .tup ds, _, h => by
  unfold Lay at h ⊢
  obtain ⟨a, vs, h1, h2, h3⟩ := h
  exact ⟨a, vs, h1, e _ _ h2, Lays.mono e h3⟩
 | .lst ds, _, h => by
  unfold Lay at h ⊢
  obtain ⟨a, vs, h1, h2, h3⟩ := h
  exact ⟨a, vs, h1, e _ _ h2, Lays.mono e h3⟩
theorem Lays.mono {H H' : Hp} (e : Same H H') : ∀ {ds : List D} {vs : List V}, Lays H ds vs -> Lays H' ds vs
 | [], _, h => h
 | d :: ds, _, h => by
  unfold Lays at h ⊢
  obtain ⟨v, r, h1, h2, h3⟩ := h
  exact ⟨v, r, h1, Lay.mono e h2, Lays.mono e h3⟩
end
mutual
theorem Lay.rep {K : PySem.W.Frag} {H : Hp} : ∀ {d : D} {v : V}, Lay H d v -> Rep K H d v
 | .non, _, h => h
 | .bl _, _, h => h
 | .int _, _, h => h
 | .str _, _, h => h
 | .tup ds, _, h => by
  unfold Lay at h
  obtain ⟨a, vs, h1, h2, h3⟩ := h
  unfold Rep
  exact ⟨a, vs, h1, SqT.of h2, Lays.rep h3⟩
 | .lst ds, _, h => by
  unfold Lay at h
  obtain ⟨a, vs, h1, h2, h3⟩ := h
  unfold Rep
  exact ⟨a, vs, h1, SqL.of h2, Lays.rep h3⟩
theorem Lays.rep {K : PySem.W.Frag} {H : Hp} : ∀ {ds : List D} {vs : List V}, Lays H ds vs -> Reps K H ds vs
 | [], _, h => h
 | d :: ds, _, h => by
  unfold Lays at h
  obtain ⟨v, r, h1, h2, h3⟩ := h
  unfold Reps
  exact ⟨v, r, h1, Lay.rep h2, Lays.rep h3⟩
end
mutual
theorem Lay.uniq {H : Hp} : ∀ {d e : D} {v : V}, Lay H d v -> Lay H e v -> d = e
 | .non, e, _, h, k => by unfold Lay at h; subst h; cases e <;> unfold Lay at k <;> first | rfl | (cases k; done) | (obtain ⟨_, _, z, _⟩ := k; cases z)
 | .bl b, e, _, h, k => by unfold Lay at h; subst h; cases e <;> unfold Lay at k <;> first | (cases k; done) | (cases k; rfl) | (obtain ⟨_, _, z, _⟩ := k; cases z)
 | .int b, e, _, h, k => by unfold Lay at h; subst h; cases e <;> unfold Lay at k <;> first | (cases k; done) | (cases k; rfl) | (obtain ⟨_, _, z, _⟩ := k; cases z)
 | .str b, e, _, h, k => by unfold Lay at h; subst h; cases e <;> unfold Lay at k <;> first | (cases k; done) | (cases k; rfl) | (obtain ⟨_, _, z, _⟩ := k; cases z)
 | .tup ds, e, _, h, k => by
  unfold Lay at h
  obtain ⟨a, vs, rfl, h2, h3⟩ := h
  cases e with
  | tup es =>
   unfold Lay at k
   obtain ⟨b, ws, z, k2, k3⟩ := k
   cases z
   rw [h2] at k2
   cases k2
   rw [Lays.uniq h3 k3]
  | lst es => unfold Lay at k; obtain ⟨b, ws, z, k2, k3⟩ := k; cases z; rw [h2] at k2; cases k2
  | non => unfold Lay at k; cases k
  | bl _ => unfold Lay at k; cases k
  | int _ => unfold Lay at k; cases k
  | str _ => unfold Lay at k; cases k
 | .lst ds, e, _, h, k => by
  unfold Lay at h
  obtain ⟨a, vs, rfl, h2, h3⟩ := h
  cases e with
  | lst es =>
   unfold Lay at k
   obtain ⟨b, ws, z, k2, k3⟩ := k
   cases z
   rw [h2] at k2
   cases k2
   rw [Lays.uniq h3 k3]
  | tup es => unfold Lay at k; obtain ⟨b, ws, z, k2, k3⟩ := k; cases z; rw [h2] at k2; cases k2
  | non => unfold Lay at k; cases k
  | bl _ => unfold Lay at k; cases k
  | int _ => unfold Lay at k; cases k
  | str _ => unfold Lay at k; cases k
theorem Lays.uniq {H : Hp} : ∀ {ds es : List D} {vs : List V}, Lays H ds vs -> Lays H es vs -> ds = es
 | [], es, _, h, k => by
  unfold Lays at h
  subst h
  cases es with
  | nil => rfl
  | cons e es => unfold Lays at k; obtain ⟨_, _, z, _⟩ := k; cases z
 | d :: ds, es, _, h, k => by
  unfold Lays at h
  obtain ⟨v, r, rfl, h2, h3⟩ := h
  cases es with
  | nil => unfold Lays at k; cases k
  | cons e es =>
   unfold Lays at k
   obtain ⟨v', r', z, k2, k3⟩ := k
   cases z
   rw [Lay.uniq h2 k2, Lays.uniq h3 k3]
end
theorem Lays.len {H : Hp} : ∀ {ds : List D} {vs : List V}, Lays H ds vs -> vs.length = ds.length
 | [], _, h => by unfold Lays at h; rw [h]; rfl
 | d :: ds, _, h => by
  unfold Lays at h
  obtain ⟨v, r, rfl, _, h3⟩ := h
  rw [List.length_cons, List.length_cons, h3.len]
theorem Lays.append {H : Hp} : ∀ {ds es : List D} {vs ws : List V}, Lays H ds vs -> Lays H es ws -> Lays H (ds ++ es) (vs ++ ws)
 | [], _, _, _, h, k => by unfold Lays at h; rw [h]; exact k
 | d :: ds, _, _, _, h, k => by
  unfold Lays at h
  obtain ⟨v, r, rfl, h2, h3⟩ := h
  show Lays H (d :: (ds ++ _)) (v :: (r ++ _))
  unfold Lays
  exact ⟨v, _, rfl, h2, h3.append k⟩
theorem Lays.get {H : Hp} : ∀ {ds : List D} {vs : List V} {i : Nat} {d : D}, Lays H ds vs -> ds[i]? = some d -> ∃ v, vs[i]? = some v /\ Lay H d v
 | [], _, i, _, _, e => by simp at e
 | d :: ds, _, i, e, h, k => by
  unfold Lays at h
  obtain ⟨v, r, rfl, h2, h3⟩ := h
  cases i with
  | zero => simp at k; subst k; exact ⟨v, rfl, h2⟩
  | succ i => obtain ⟨u, a, b⟩ := h3.get (i := i) (by simpa using k); exact ⟨u, by simpa using a, b⟩
theorem Lays.mem {H : Hp} : ∀ {ds : List D} {vs : List V} {v : V}, Lays H ds vs -> v ∈ vs -> ∃ d, d ∈ ds /\ Lay H d v
 | [], _, _, h, k => by unfold Lays at h; rw [h] at k; cases k
 | d :: ds, _, v, h, k => by
  unfold Lays at h
  obtain ⟨u, r, rfl, h2, h3⟩ := h
  rcases List.mem_cons.mp k with rfl | k
  ·exact ⟨d, List.mem_cons_self, h2⟩
  ·obtain ⟨e, a, b⟩ := h3.mem k
   exact ⟨e, List.mem_cons_of_mem _ a, b⟩
def tyD : D -> String
 | .non => "NoneType"
 | .bl _ => "bool"
 | .int _ => "int"
 | .str _ => "str"
 | .tup _ => "tuple"
 | .lst _ => "list"
theorem Lay.ty {K : PySem.W.Frag} {H : Hp} {d : D} {v : V} (h : Lay H d v) : TyOf K H v (.type (tyD d)) := by
 cases d with
 | non => unfold Lay at h; subst h; exact .non
 | bl b => unfold Lay at h; subst h; exact .bl b
 | int i => unfold Lay at h; subst h; exact .int i
 | str x => unfold Lay at h; subst h; exact .str x
 | tup ds => unfold Lay at h; obtain ⟨a, vs, rfl, e, _⟩ := h; exact .tup e
 | lst ds => unfold Lay at h; obtain ⟨a, vs, rfl, e, _⟩ := h; exact .lst e
theorem Same.updS {H H' : Hp} {l : Addr} {o : HO} (s : Same H H') : Same (upd H l o) (upd H' l o) := fun b u e => by
 by_cases hb : b = l
 ·subst hb; rw [az] at e ⊢; exact e
 ·rw [aO hb] at e ⊢; exact s b u e
def Kept (H H' : Hp) (d : D) (v : V) : Prop := ∀ l o o', H l = some o -> Lay (upd H' l o') d v
def JQ (H H' : Hp) (d : List D) (v : List V) : Prop := ∀ l o o', H l = some o -> Lays (upd H' l o') d v
def bY (c : St -> Prop) (d : D) : TE := fun σ H Q => c σ /\ ∀ v H', Same H H' -> Lay H' d v -> Kept H H' d v -> Q v H'
def sY (c : St -> Prop) (d : List D) : TA := fun σ H Q => c σ /\ ∀ vs H', Same H H' -> Lays H' d vs -> JQ H H' d vs -> Q vs H'
def yes : St -> Prop := fun _ => True
def isI (k : Nat) (m : Int) : St -> Prop := fun σ => σ[k]? = some (some (.int m))
section
variable {X : Cx} {pos : Pos} {c : St -> Prop}
theorem PE.of {e : Expr} {t t' : TE} (h : PE X e t) (k : ∀ σ H Q, t' σ H Q -> t σ H Q) : PE X e t' := fun pins s σ H Q I q => h pins s σ H Q I (k σ H Q q)
theorem PA.of {e : List Expr} {t t' : TA} (h : PA X e t) (k : ∀ σ H Q, t' σ H Q -> t σ H Q) : PA X e t' := fun pos pins s σ H Q I q => h pos pins s σ H Q I (k σ H Q q)
theorem aD {i j pos} : PE X (.Constant (.int i) j pos) (bY c (.int i)) := pe_int.of fun σ H Q h => h.2 _ H (Same.refl _) (by unfold Lay; rfl) (fun _ _ _ _ => by unfold Lay; rfl)
theorem BP {b j pos} : PE X (.Constant (.bool b) j pos) (bY c (.bl b)) := pe_bl.of fun σ H Q h => h.2 _ H (Same.refl _) (by unfold Lay; rfl) (fun _ _ _ _ => by unfold Lay; rfl)
theorem rM {j pos} : PE X (.Constant .none j pos) (bY c .non) := pe_non.of fun σ H Q h => h.2 _ H (Same.refl _) (by unfold Lay; rfl) (fun _ _ _ _ => by unfold Lay; rfl)
theorem rN {x j pos} : PE X (.Constant (.str x) j pos) (bY c (.str x)) := pe_str.of fun σ H Q h => h.2 _ H (Same.refl _) (by unfold Lay; rfl) (fun _ _ _ _ => by unfold Lay; rfl)
theorem iB {i j p} : PE X (.UnaryOp .USub (.Constant (.int i) j p) pos) (bY c (.int (-i))) := (tG oW pe_int).of fun σ H Q h => ⟨_, rfl, h.2 _ H (Same.refl _) (by unfold Lay; rfl) (fun _ _ _ _ => by unfold Lay; rfl)⟩
theorem Cr {e : Expr} {i j p} {k : Nat} {m : Int} (he : PE X e (t8 k)) : PE X (.BinOp (.Constant (.int i) j p) .Add e pos) (bY (isI k m) (.int (i + m))) :=
 (bu lH pe_int he).of fun σ H Q h => ⟨_, h.1, _, _, rfl, rfl, h.2 _ H (Same.refl _) (by unfold Lay; rfl) (fun _ _ _ _ => by unfold Lay; rfl)⟩
theorem Ce {e : Expr} {i j p p2} {k : Nat} {m : Int} (he : PE X e (t8 k)) : PE X (.BinOp (.UnaryOp .USub (.Constant (.int i) j p) p2) .Sub e pos) (bY (isI k m) (.int (-i - m))) :=
 (bu wW (tG oW pe_int) he).of fun σ H Q h => ⟨_, rfl, _, h.1, _, _, rfl, rfl, h.2 _ H (Same.refl _) (by unfold Lay; rfl) (fun _ _ _ _ => by unfold Lay; rfl)⟩
theorem aA : PA X [] (sY c []) := pa_nil.of fun σ H Q h => h.2 _ H (Same.refl _) (by unfold Lays; rfl) (fun _ _ _ _ => by unfold Lays; rfl)
theorem ak {e : Expr} {es : List Expr} {d : D} {ds : List D} (h : PE X e (bY c d)) (k : PA X es (sY c ds)) (hs : starEach (e :: es) X.env = (false, eval e X.env) :: starEach es X.env := by rfl) :
  PA X (e :: es) (sY c (d :: ds)) :=
 (aa h k hs).of fun σ H Q q => by
  obtain ⟨c1, q⟩ := q
  refine ⟨c1, fun v H1 s1 l1 k1 => ⟨c1, fun vs H2 s2 l2 k2 => q _ H2 (s1.trans s2) ?_ fun l o o' e => ?_⟩⟩
  ·unfold Lays
   exact ⟨v, vs, rfl, l1.mono s2, l2⟩
  ·unfold Lays
   exact ⟨v, vs, rfl, (k1 l o o' e).mono s2.updS, k2 l o o' (s1 _ _ e)⟩
theorem aG {es : List Expr} {ds : List D} (h : PA X es (sY c ds)) (hl : ds.length <= 1000 := by exact of_decide_eq_true rfl) : PE X (.List es pos) (bY c (.lst ds)) :=
 (bL h).of fun σ H Q q => by
  obtain ⟨c1, q⟩ := q
  refine ⟨c1, fun vs H1 s1 l1 k1 => ⟨by rw [l1.len]; exact Nat.le_of_lt (aR hl), fun a ha => q _ _ (s1.trans (aq ha)) ?_ fun l o o' e => ?_⟩⟩
  ·unfold Lay
   exact ⟨a, vs, rfl, az, l1.mono (aq ha)⟩
  ·have na : a ≠ l := fun z => by rw [z, s1 _ _ e] at ha; cases ha
   unfold Lay
   exact ⟨a, vs, rfl, by rw [aO na]; exact az, (k1 l o o' e).mono (aq ha).updS⟩
theorem bD {es : List Expr} {ds : List D} {x1} (h : PA X es (sY c ds)) (hl : ds.length <= 1000 := by exact of_decide_eq_true rfl) : PE X (.Tuple es x1 pos) (bY c (.tup ds)) :=
 (cQ h).of fun σ H Q q => by
  obtain ⟨c1, q⟩ := q
  refine ⟨c1, fun vs H1 s1 l1 k1 => ⟨by rw [l1.len]; exact Nat.le_of_lt (aR hl), fun a ha => q _ _ (s1.trans (aq ha)) ?_ fun l o o' e => ?_⟩⟩
  ·unfold Lay
   exact ⟨a, vs, rfl, az, l1.mono (aq ha)⟩
  ·have na : a ≠ l := fun z => by rw [z, s1 _ _ e] at ha; cases ha
   unfold Lay
   exact ⟨a, vs, rfl, by rw [aO na]; exact az, (k1 l o o' e).mono (aq ha).updS⟩
end
end L2
namespace L2
open PySem PySem.Spec PyProof.Rows
theorem PS.nox {X : Cx} {st : Stmt} {t : TS} (h : PS X.nox st t) : PS X st t := fun pins s σ H D I hw =>
 wpAny_mono (h pins s σ H D (I.wish _) hw) (fun _ _ q => q.unwish) fun _ _ z => False.elim z
def Jg (X : Cx) (tf : TE) (ta : TA) : TE := fun σ H Q => tf σ H fun v H1 => ∃ (f : Addr) (fd : FuncData) (k : Nat) (ps : List Str) (sp : Sp) (E : XK), v = .ref f /\ FnOk X.prog X.w X.K X.mg X.base (CX1 X.prog X.w) k f fd ps sp /\ Room k X.A /\ PySem.W.keepIn X.K (.ref f) = true /\ Binds X.K fd ps [] /\
 ig (CX1 X.prog X.w) X E /\ ta σ H1 fun vs H2 => sp vs H2 Q E
theorem qZ {X : Cx} {fe e : Expr} {es : List Expr} {pos : Pos} {tf : TE} {ta : TA} (hf : PE X fe tf) (ha : PA X (e :: es) ta)
  (hev : eval (.Call fe (e :: es) [] pos) X.env = (do callWith pos (<- eval fe X.env) [] (backTo pos (starEach (e :: es) X.env)) (backToKw pos (keywordEach [] X.env))) := by rfl)
  (he : starEach (e :: es) X.env = (false, eval e X.env) :: starEach es X.env := by rfl) (hpl : (backTo pos (starEach es X.env)).any (·.1) = false := by rfl) : PE X (.Call fe (e :: es) [] pos) (Jg X tf ta) := by
 intro pins s σ H Q I h
 rw [hev]
 refine wpAny_bind (thn (hf pins s σ H _ I h) fun u s1 ⟨v, H1, I1, r, f, fd, k, ps, sp, E, e1, F, hr, hk, hb, hx, q⟩ => ?_)
 subst e1
 cases r
 refine PySem.W.callWith_K (h₀ := X.base) I1.ok.mod.kin hk (thn (ha pos pins s1 σ H1 _ I1 q) fun us s2 ⟨vs, H2, I2, r2, q2⟩ => ⟨I2.kIn, ?_⟩) he hpl
 exact Dh F hr hb .nil hx I2 r2 (by simpa using q2)
theorem lay_ints {H : Hp} : ∀ {r : List Int} {vs : List V}, Lays H (r.map D.int) vs -> vs = r.map V.int
 | [], _, h => by simp only [List.map_nil] at h; unfold Lays at h; exact h
 | x :: r, _, h => by
  simp only [List.map_cons] at h
  unfold Lays at h
  obtain ⟨v, u, rfl, h2, h3⟩ := h
  unfold Lay at h2
  rw [h2, lay_ints h3]
  rfl
theorem mG {H : Hp} : ∀ (r : List Int), Lays H (r.map D.int) (r.map V.int)
 | [] => by simp only [List.map_nil]; unfold Lays; rfl
 | x :: r => by
  simp only [List.map_cons]
  unfold Lays
  exact ⟨_, _, rfl, by unfold Lay; rfl, mG r⟩
theorem yc {H : Hp} : ∀ {T : List (List Int)} {vs : List V}, Lays H (T.map gW) vs -> Paired (IsRow H) vs T
 | [], _, h => by simp only [List.map_nil] at h; unfold Lays at h; rw [h]; exact .nil
 | x :: r, _, h => by
  simp only [List.map_cons] at h
  unfold Lays at h
  obtain ⟨v, u, rfl, h2, h3⟩ := h
  unfold gW Lay at h2
  obtain ⟨a, ws, rfl, ha, hw⟩ := h2
  exact .cons ⟨a, rfl, by rw [ha, lay_ints hw]⟩ (yc h3)
theorem di {H : Hp} {T : List (List Int)} {v : V} (h : Lay H (cZ T) v) : ∃ a, v = .ref a /\ IsTab H a T := by
 unfold cZ Lay at h
 obtain ⟨a, vs, rfl, ha, hv⟩ := h
 exact ⟨a, rfl, vs, ha, yc hv⟩
theorem yL {H : Hp} : ∀ {T : List (List Int)} {vs : List V}, Paired (IsRow H) vs T -> Lays H (T.map gW) vs
 | _, _, .nil => by simp only [List.map_nil]; unfold Lays; rfl
 | _, _, .cons (b := r) h t => by
  simp only [List.map_cons]
  unfold Lays
  refine ⟨_, _, rfl, ?_, yL t⟩
  obtain ⟨a, rfl, ha⟩ := h
  unfold gW Lay
  exact ⟨a, _, rfl, ha, mG r⟩
theorem uy {H : Hp} {T : List (List Int)} {a : Addr} (h : IsTab H a T) : Lay H (cZ T) (.ref a) := by
 obtain ⟨vs, ha, hv⟩ := h
 unfold cZ Lay
 exact ⟨a, vs, rfl, ha, yL hv⟩
end L2
set_option Elab.async false
set_option linter.all false
set_option maxRecDepth 100000
set_option maxHeartbeats 4000000
namespace K14
open PySem L2
def top (i : Nat) : Stmt := PySem.Challenge.pw_unseen_k14_refused.main.body.getD i (.Pass ⟨0, 0, 0, 0⟩)
structure Blt (mg : Str -> Option Value) : Prop where
 LEAST_NUMBER : ∃ t, mg "LEAST_NUMBER" = some (.int (-100) t)
 MOST_CARDS : ∃ t, mg "MOST_CARDS" = some (.int (4) t)
 MOST_NUMBER : ∃ t, mg "MOST_NUMBER" = some (.int (100) t)
 ValueError_ : mg "ValueError" = none
 abs_ : mg "abs" = none
 all_ : mg "all" = none
 any_ : mg "any" = none
 bool_ : mg "bool" = none
 enumerate_ : mg "enumerate" = none
 int_ : mg "int" = none
 isinstance_ : mg "isinstance" = none
 len_ : mg "len" = none
 list_ : mg "list" = none
 max_ : mg "max" = none
 min_ : mg "min" = none
 range_ : mg "range" = none
 tuple_ : mg "tuple" = none
 zip_ : mg "zip" = none
def Ag (K : PySem.W.Frag) : Sp := fun vs H Q _ => ∃ (a : Addr) (ns : List Int) (k : Int), vs = [.ref a, .int k] /\ SqL K H a (ns.map V.int) /\ 0 <= k /\ Q (.int (ns.getD k.toNat 0)) H
def Lq : Sp := fun vs H Q _ => ∃ c k m : Int, vs = [.int c, .int k, .int m] /\ 0 < m /\ Q (.int (Fr.draw c k m)) H
def nM : Sp := fun vs H Q _ => ∃ i : Int, vs = [.int i] /\ Q (.bl true) H
def uX : Sp := fun vs H Q _ => ∃ i : Int, vs = [.int i] /\ -100 <= i /\ i <= 100 /\ Q (.bl true) H
def Ck : Sp := fun vs H Q _ => ∃ (a : Addr) (r : List Int), vs = [.ref a] /\ H a = some (.lst (r.map V.int)) /\ 1 <= r.length /\ r.length <= 4 /\ (∀ x ∈ r, -100 <= x /\ x <= 100) /\ ∀ H', Same H H' -> Q (.bl true) H'
def rn : Sp := fun vs H Q _ => ∃ (a : Addr) (T : List (List Int)) (m n : Nat), vs = [.ref a] /\ IsTab H a T /\ Good T m n /\ ∀ H', Same H H' -> Q (.bl true) H'
def iV : Sp := fun vs H Q _ => ∃ (a : Addr) (T : List (List Int)) (m n : Nat), vs = [.ref a] /\ IsTab H a T /\ Good T m n /\ ∀ H', Same H H' -> Q .non H'
def Kc : Sp := fun vs H Q _ => ∃ (c : Int) (m n : Nat), vs = [.int c, .int m, .int n] /\ 1 <= m /\ m <= 4 /\ 1 <= n /\ n <= 4 /\ ∀ a T H', Same H H' -> IsTab H' a T -> Good T m n -> Q (.ref a) H'
def Kw : Sp := fun vs H Q _ => ∃ c : Int, vs = [.int c] /\ ∀ (p : Addr) (m n : Nat) H', 1 <= m -> m <= 4 -> 1 <= n -> n <= 4 -> Same H H' -> H' p = some (.tup [.int m, .int n]) -> Q (.ref p) H'
def sS (K : PySem.W.Frag) : Sp := fun vs H Q _ => ∃ (a : Addr) (ns : List Int), vs = [.ref a] /\ SqL K H a (ns.map V.int) /\ ns.length <= 63 /\ ∀ H', Q (.bl true) H'
section
variable {P : Program} {w : World} {K : PySem.W.Frag} {mg : Str -> Option Value} {base : Heap}
abbrev jy : Stmt := top 2
theorem qx : FnScope ["thing"] ["thing"] (aF jy) := ⟨rfl, rfl, rfl, by decide +kernel, rfl, by decide +kernel, by decide +kernel⟩
theorem yQ (F : FunM K mg "is_whole" jy ["thing"]) (T : Blt mg) : Def P w K mg base "is_whole" ["thing"] 1 nM := by
 have S := qx
 refine Def.of F S (fun vs H Q E h => ?_) (fun f cdv A outer s H vs Q E hr h => ?_)
 ·obtain ⟨i, rfl, _⟩ := h
  rfl
 ·obtain ⟨i, rfl, k⟩ := h
  refine ⟨_, (aB (aN (gr (aJ (ji K) (by rfl) T.isinstance_ bx (aa (pv 0) (aa (cU (v := .ty "int") rfl T.int_ Dv rfl) pa_nil aj) aj) (he := aj)) (gA (sr (aJ (ji K) (by rfl) T.isinstance_ bx (aa (pv 0) (aa (cU (v := .ty "bool") rfl T.bool_ zR rfl) pa_nil aj) aj) (he := aj))))))), ?_⟩
  refine ⟨_, rfl, _, _, _, _, rfl, TyOf.int i, rfl, _, rfl, ?_⟩
  refine bH ?_
  exact ⟨_, rfl, _, _, _, _, rfl, TyOf.int i, rfl, _, rfl, k⟩
abbrev iY : Stmt := top 33
theorem oA : FnScope ["number"] ["number"] (aF iY) := ⟨rfl, rfl, rfl, by decide +kernel, rfl, by decide +kernel, by decide +kernel⟩
theorem xG (F : FunM K mg "is_within" iY ["number"]) (T : Blt mg) : Def P w K mg base "is_within" ["number"] 1 uX := by
 have S := oA
 refine Def.of F S (fun vs H Q E h => ?_) (fun f cdv A outer s H vs Q E hr h => ?_)
 ·obtain ⟨i, rfl, _⟩ := h
  rfl
 ·obtain ⟨i, rfl, h1, h2, k⟩ := h
  refine ⟨_, (aB (aN (yw eZ eZ (peI T.LEAST_NUMBER rfl) (pv 0) (peI T.MOST_NUMBER rfl)))), ?_⟩
  refine ⟨_, rfl, _, _, rfl, rfl, _, rfl, ?_⟩
  refine ifP (decide_eq_true h1) ?_
  exact ⟨_, _, rfl, rfl, zU h2 k⟩
abbrev l_ : Stmt := top 34
theorem vG : FnScope ["thing"] ["thing"] (aF l_) := ⟨rfl, rfl, rfl, by decide +kernel, rfl, by decide +kernel, by decide +kernel⟩
theorem CK (F : FunM K mg "is_row" l_ ["thing"]) (T : Blt mg) (bV : Def P w K mg base "is_whole" ["thing"] 1 nM) (gk : Def P w K mg base "is_within" ["number"] 1 uX) : Def P w K mg base "is_row" ["thing"] 2 Ck := by
 have S := vG
 refine Def.of F S (fun vs H Q E h => ?_) (fun f cdv A outer s H vs Q E hr h => ?_)
 ·obtain ⟨a, r, rfl, _⟩ := h
  rfl
 ·obtain ⟨a, r, rfl, ha, h1, h4, hn, k⟩ := h
  refine ⟨_, (au (bj (PW.pt (dO (bG (bK (aJ (ji K) (by rfl) T.isinstance_ bx (aa (pv 0) (aa (cU (v := .ty "list") rfl T.list_ d9 rfl) pa_nil aj) aj) (he := aj)))) (du (bG (gQ eZ eZ pe_int (aJ (bZ K) (by rfl) T.len_ bC (aa (pv 0) pa_nil aj) (he := aj)) (peI T.MOST_CARDS rfl))))))
    (aB (aN pe_bl)) aP)
   (aB (aN (aJ (mJ K) (by rfl) T.all_ g8 (aa (bN rfl (N' := ["number"]) (src := [none]) rfl (piL K (pv 0)) (fun _ _ _ _ _ => (aW (i := 0) (show (["number"] : List Str).Nodup from by decide +kernel) rfl (Or.inl rfl))) (fun _ _ _ _ _ => bJ) (fun _ _ _ _ _ => (gr (aK bV (hr.mono (by decide)) rfl (aa (pv 0) pa_nil aj) (he := aj)) (gA (aK gk (hr.mono (by decide)) rfl (aa (pv 0) pa_nil aj) (he := aj)))))) pa_nil bf) (he := bf))))), ?_⟩
  refine ⟨_, rfl, _, _, _, _, rfl, TyOf.lst ha, rfl, _, rfl, ?_⟩
  refine bW ?_
  refine ⟨_, rfl, a, _, rfl, .inl (SqL.of ha), _, _, rfl, rfl, _, rfl, ?_⟩
  have hl : (r.map V.int).length = r.length := List.length_map ..
  refine ifP (decide_eq_true (by rw [hl]; omega)) ?_
  refine ⟨_, _, rfl, rfl, _, rfl, ?_⟩
  refine vY (by rw [hl]; omega) ?_
  refine ⟨_, rfl, a, rfl, ⟨_, SqL.of ha⟩, bQ (xs := r.map V.int) (fun _ y _ => y = .bl true) (fun _ _ _ _ _ h => h) (SqL.of ha) (by rw [hl]; exact Nat.le_of_lt (aR (by omega))) ?_ ?_⟩
  ·intro x hx H1 s1 Q' q
   obtain ⟨i, hi, rfl⟩ := List.mem_map.mp hx
   refine ⟨_, rfl, i, rfl, _, rfl, ?_⟩
   refine bH ?_
   exact ⟨_, rfl, i, rfl, (hn i hi).1, (hn i hi).2, q _ H1 (Same.refl _) rfl⟩
  ·intro ys H' s' p q hq
   have e := j_ p
   subst e
   refine ⟨q, _, rfl, SqL.of az, ?_⟩
   rw [qD]
   exact k _ (s'.trans (aq hq))
abbrev jr : Stmt := top 35
theorem qw : FnScope ["thing"] ["thing"] (aF jr) := ⟨rfl, rfl, rfl, by decide +kernel, rfl, by decide +kernel, by decide +kernel⟩
theorem yP (F : FunM K mg "is_table" jr ["thing"]) (T : Blt mg) (jV : Def P w K mg base "is_row" ["thing"] 2 Ck) : Def P w K mg base "is_table" ["thing"] 3 rn := by
 have S := qw
 refine Def.of F S (fun vs H Q E h => ?_) (fun f cdv A outer s H vs Q E hr h => ?_)
 ·obtain ⟨a, r, m, n, rfl, _⟩ := h
  rfl
 ·obtain ⟨a, U, m, n, rfl, ⟨vs, ha, hp⟩, g, k⟩ := h
  have hl : vs.length = m := by rw [hp.length, g.rows]
  have m1 := g.m1
  have m4 := g.m4
  have n1 := g.n1
  have n4 := g.n4
  refine ⟨_, (au (bj (PW.pt (dO (bG (bK (aJ (ji K) (by rfl) T.isinstance_ bx (aa (pv 0) (aa (cU (v := .ty "list") rfl T.list_ d9 rfl) pa_nil aj) aj) (he := aj)))) (du (bG (gQ eZ eZ pe_int (aJ (bZ K) (by rfl) T.len_ bC (aa (pv 0) pa_nil aj) (he := aj)) (peI T.MOST_CARDS rfl))))))
    (aB (aN pe_bl)) aP)
   (au (bj (bG (bK (aJ (mJ K) (by rfl) T.all_ g8 (aa (bN rfl (N' := ["row"]) (src := [none]) rfl (piL K (pv 0)) (fun _ _ _ _ _ => (aW (i := 0) (show (["row"] : List Str).Nodup from by decide +kernel) rfl (Or.inl rfl))) (fun _ _ _ _ _ => bJ) (fun _ _ _ _ _ => (aK jV (hr.mono (by decide)) rfl (aa (pv 0) pa_nil aj) (he := aj)))) pa_nil bf) (he := bf))))
    (aB (aN pe_bl)) aP)
   (aB (aN (aJ (mJ K) (by rfl) T.all_ g8 (aa (bN rfl (N' := ["row", "thing"]) (src := [none, some 0]) rfl (piL K (pv 0)) (fun _ _ _ _ _ => (aW (i := 0) (show (["row", "thing"] : List Str).Nodup from by decide +kernel) rfl (Or.inl rfl))) (fun _ _ _ _ _ => bJ) (fun _ _ _ _ _ => (cA bR (aJ (bZ K) (by rfl) T.len_ bC (aa (pv 0) pa_nil aj) (he := aj)) (aJ (bZ K) (by rfl) T.len_ bC (aa (aV (ixL K) (pv 1) pe_int (fun _ _ => rfl)) pa_nil aH) (he := aH)) (aQ _)))) pa_nil bf) (he := bf)))))), ?_⟩
  refine ⟨_, rfl, _, _, _, _, rfl, TyOf.lst ha, rfl, _, rfl, ?_⟩
  refine bW ?_
  refine ⟨_, rfl, a, _, rfl, .inl (SqL.of ha), _, _, rfl, rfl, _, rfl, ?_⟩
  refine ifP (decide_eq_true (by rw [hl]; omega)) ?_
  refine ⟨_, _, rfl, rfl, _, rfl, ?_⟩
  refine vY (by rw [hl]; omega) ?_
  refine ⟨_, rfl, a, rfl, ⟨_, SqL.of ha⟩, bQ (xs := vs) (fun _ y _ => y = .bl true) (fun _ _ _ _ _ h => h) (SqL.of ha) (by rw [hl]; exact Nat.le_of_lt (aR (by omega))) ?_ ?_⟩
  ·intro x hx H1 s1 Q' q
   obtain ⟨r, hr', b, rfl, hb⟩ := hp.mem2 hx
   exact ⟨_, rfl, b, r, rfl, s1 _ _ hb, by rw [g.cols r hr']; exact n1, by rw [g.cols r hr']; exact n4, g.num r hr', fun H2 s2 => q _ H2 s2 rfl⟩
  ·intro ys H' s' p q hq
   have e := j_ p
   subst e
   refine ⟨q, _, rfl, SqL.of az, ?_⟩
   rw [qD]
   refine ⟨_, rfl, ?_⟩
   refine bW ?_
   have s2 := s'.trans (aq (o := .lst ((List.replicate vs.length true).map V.bl)) hq)
   have ha2 := s2 _ _ ha
   refine ⟨_, rfl, a, rfl, ⟨_, SqL.of ha2⟩, bQ (xs := vs) (fun _ y _ => y = .bl true) (fun _ _ _ _ _ h => h) (SqL.of ha2) (by rw [hl]; exact Nat.le_of_lt (aR (by omega))) ?_ ?_⟩
   ·intro x hx H1 s1 Q' q'
    obtain ⟨r, hr', b, rfl, hb⟩ := hp.mem2 hx
    have h0 : 0 < vs.length := by omega
    obtain ⟨r0, er0, b0, eb0, hb0⟩ := hp.get2 (List.getElem?_eq_getElem h0)
    have s3 := s2.trans s1
    refine ⟨_, rfl, b, _, rfl, .inl (SqL.of (s3 _ _ hb)), _, rfl, a, vs, 0, _, rfl, rfl, SqL.of (s3 _ _ ha), qK h0, b0, _, (by rw [eb0]), .inl (SqL.of (s3 _ _ hb0)), rfl, ?_⟩
    refine q' _ H1 (Same.refl _) (congrArg V.bl (decide_eq_true ?_))
    rw [List.length_map, List.length_map, g.cols r hr', g.cols r0 (List.mem_of_getElem? er0)]
   ·intro ys H3 s3 p q2 hq2
    have e := j_ p
    subst e
    refine ⟨q2, _, rfl, SqL.of az, ?_⟩
    rw [qD]
    exact k _ ((s2.trans s3).trans (aq hq2))
abbrev gC : Stmt := top 38
theorem lM : FnScope ["thing"] ["thing"] (aF gC) := ⟨rfl, rfl, rfl, by decide +kernel, rfl, by decide +kernel, by decide +kernel⟩
theorem ur (F : FunM K mg "check_table" gC ["thing"]) (T : Blt mg) (fP : Def P w K mg base "is_table" ["thing"] 3 rn) : Def P w K mg base "check_table" ["thing"] 4 iV := by
 have S := lM
 refine Def.of F S (fun vs H Q E h => ?_) (fun f cdv A outer s H vs Q E hr h => ?_)
 ·obtain ⟨a, r, m, n, rfl, _⟩ := h
  rfl
 ·obtain ⟨a, U, m, n, rfl, hU, g, k⟩ := h
  refine ⟨_, (aB (bj (bG (bK (aK fP (hr.mono (by decide)) rfl (aa (pv 0) pa_nil aj) (he := aj))))
    (aB nH) aP)), ?_⟩
  refine ⟨_, rfl, a, U, m, n, rfl, hU, g, fun H' s' => ⟨_, rfl, ?_⟩⟩
  refine bW ?_
  exact k H' s'
abbrev iJ : Stmt := top 81
theorem tK : FnScope ["_law_script", "_law_k"] ["_law_script", "_law_k"] (aF iJ) := ⟨rfl, rfl, rfl, by decide +kernel, rfl, by decide +kernel, by decide +kernel⟩
theorem rF (F : FunM K mg "_law_cell_at" iJ ["_law_script", "_law_k"]) (T : Blt mg) : Def P w K mg base "_law_cell_at" ["_law_script", "_law_k"] 1 (Ag K) := by
 have S := tK
 refine Def.of F S (fun vs H Q E h => ?_) (fun f cdv A outer s H vs Q E hr h => ?_)
 ·obtain ⟨a, ns, k, rfl, _⟩ := h
  rfl
 ·obtain ⟨a, ns, k, rfl, hS, hk, q⟩ := h
  refine ⟨_, (au (bj (aX dX (pv 1) (aJ (bZ K) (by rfl) T.len_ bC (aa (pv 0) pa_nil aj) (he := aj)) (aQ _))
    (aB (aN (aV (ixL K) (pv 0) (pv 1) (fun _ _ => rfl)))) aP)
   (aB (aN pe_int))), ?_⟩
  refine ⟨_, rfl, _, rfl, _, _, rfl, .inl hS, _, _, rfl, rfl, _, rfl, ?_⟩
  refine K9 (fun hlt => ?_) (fun hge => ?_)
  ·have hlt' : k < (ns.length : Int) := by simpa using hlt
   have hn : k.toNat < ns.length := by omega
   have e : ns.getD k.toNat 0 = ns[k.toNat] := by simp [List.getD_eq_getElem?_getD, hn]
   refine ⟨_, rfl, _, rfl, _, _, _, _, rfl, rfl, hS, ?_, q⟩
   unfold atI ixN
   rw [if_pos hk, if_pos (by simpa using hlt')]
   simp [hn, List.getD_eq_getElem?_getD]
  ·have hge' : ¬ k < (ns.length : Int) := by simpa using hge
   have e : ns.getD k.toNat 0 = 0 := by
    rw [List.getD_eq_getElem?_getD, List.getElem?_eq_none (by omega)]
    rfl
   rw [e] at q
   exact q
abbrev JL : Stmt := top 82
def jX : D -> Bool
 | .int _ => true
 | _ => false
def nA : D -> Bool
 | .int i => decide (-100 <= i) && decide (i <= 100)
 | _ => false
def pK : D -> Nat
 | .lst ds => ds.length
 | .tup ds => ds.length
 | _ => 0
def fJ : D -> Bool
 | .lst ds => decide (1 <= ds.length) && decide (ds.length <= 4) && ds.all nA
 | _ => false
def bF : D -> Bool
 | .lst ds => decide (1 <= ds.length) && decide (ds.length <= 4) && ds.all fJ && ds.all (fun d => decide (pK d = pK (ds.headD .non)))
 | _ => false
theorem jM {H : Hp} (p : D -> Bool) : ∀ {ds : List D} {xs ys : List V}, Lays H ds xs -> Paired (fun x y => ∀ d, Lay H d x -> y = .bl (p d)) xs ys -> ys = (ds.map p).map V.bl
 | [], _, _, h, q => by unfold Lays at h; subst h; cases q; rfl
 | d :: ds, _, _, h, q => by
  unfold Lays at h
  obtain ⟨v, r, rfl, h2, h3⟩ := h
  cases q with
  | cons q1 q2 =>
   rw [jM p h3 q2, q1 d h2]
   rfl
theorem all_map (p : D -> Bool) (ds : List D) : (ds.map p).all id = ds.all p := by
 rw [List.all_map]
 rfl
def km : Sp := fun vs H Q _ => ∃ (d : D) (v : V), vs = [v] /\ Lay H d v /\ Q (.bl (jX d)) H
def su : Sp := fun vs H Q _ => ∃ i : Int, vs = [.int i] /\ Q (.bl (nA (.int i))) H
def zz : Sp := fun vs H Q _ => ∃ (d : D) (v : V), vs = [v] /\ Lay H d v /\ ∀ H', Same H H' -> Q (.bl (fJ d)) H'
def oJ : Sp := fun vs H Q _ => ∃ (d : D) (v : V), vs = [v] /\ Lay H d v /\ ∀ H', Same H H' -> Q (.bl (bF d)) H'
theorem ud (F : FunM K mg "is_whole" jy ["thing"]) (T : Blt mg) : Def P w K mg base "is_whole" ["thing"] 1 km := by
 have S := qx
 refine Def.of F S (fun vs H Q E h => ?_) (fun f cdv A outer s H vs Q E hr h => ?_)
 ·obtain ⟨d, v, rfl, _⟩ := h
  rfl
 ·obtain ⟨d, v, rfl, l, k⟩ := h
  have ty := l.ty (K := K)
  refine ⟨_, (aB (aN (gr (aJ (ji K) (by rfl) T.isinstance_ bx (aa (pv 0) (aa (cU (v := .ty "int") rfl T.int_ Dv rfl) pa_nil aj) aj) (he := aj)) (gA (sr (aJ (ji K) (by rfl) T.isinstance_ bx (aa (pv 0) (aa (cU (v := .ty "bool") rfl T.bool_ zR rfl) pa_nil aj) aj) (he := aj))))))), ?_⟩
  cases d with
  | int i =>
   refine ⟨_, rfl, _, _, _, _, rfl, ty, rfl, _, rfl, ?_⟩
   refine bH ?_
   exact ⟨_, rfl, _, _, _, _, rfl, ty, rfl, _, rfl, k⟩
  | bl i =>
   refine ⟨_, rfl, _, _, _, _, rfl, ty, rfl, _, rfl, ?_⟩
   refine bH ?_
   exact ⟨_, rfl, _, _, _, _, rfl, ty, rfl, _, rfl, k⟩
  | non => refine ⟨_, rfl, _, _, _, _, rfl, ty, rfl, _, rfl, ?_⟩; exact bW k
  | str x => refine ⟨_, rfl, _, _, _, _, rfl, ty, rfl, _, rfl, ?_⟩; exact bW k
  | tup x => refine ⟨_, rfl, _, _, _, _, rfl, ty, rfl, _, rfl, ?_⟩; exact bW k
  | lst x => refine ⟨_, rfl, _, _, _, _, rfl, ty, rfl, _, rfl, ?_⟩; exact bW k
theorem rR (F : FunM K mg "is_within" iY ["number"]) (T : Blt mg) : Def P w K mg base "is_within" ["number"] 1 su := by
 have S := oA
 refine Def.of F S (fun vs H Q E h => ?_) (fun f cdv A outer s H vs Q E hr h => ?_)
 ·obtain ⟨i, rfl, _⟩ := h
  rfl
 ·obtain ⟨i, rfl, k⟩ := h
  refine ⟨_, (aB (aN (yw eZ eZ (peI T.LEAST_NUMBER rfl) (pv 0) (peI T.MOST_NUMBER rfl)))), ?_⟩
  refine ⟨_, rfl, _, _, rfl, rfl, _, rfl, ?_⟩
  have k : Q (.bl (decide (-100 <= i) && decide (i <= 100))) H := k
  by_cases h1 : -100 <= i
  ·refine ifP (decide_eq_true h1) ?_
   rw [decide_eq_true h1, Bool.true_and] at k
   exact ⟨_, _, rfl, rfl, k⟩
  ·refine ifN (by rw [decide_eq_false h1]; exact Bool.false_ne_true) ?_
   rw [decide_eq_false h1, Bool.false_and] at k
   exact k
theorem v7 (F : FunM K mg "is_row" l_ ["thing"]) (T : Blt mg) (cz : Def P w K mg base "is_whole" ["thing"] 1 km) (iI : Def P w K mg base "is_within" ["number"] 1 su) : Def P w K mg base "is_row" ["thing"] 2 zz := by
 have S := vG
 have bV := cz
 have gk := iI
 refine Def.of F S (fun vs H Q E h => ?_) (fun f cdv A outer s H vs Q E hr h => ?_)
 ·obtain ⟨d, v, rfl, _⟩ := h
  rfl
 ·obtain ⟨d, v, rfl, l, k⟩ := h
  have ty := l.ty (K := K)
  refine ⟨_, (au (bj (PW.pt (dO (bG (bK (aJ (ji K) (by rfl) T.isinstance_ bx (aa (pv 0) (aa (cU (v := .ty "list") rfl T.list_ d9 rfl) pa_nil aj) aj) (he := aj)))) (du (bG (gQ eZ eZ pe_int (aJ (bZ K) (by rfl) T.len_ bC (aa (pv 0) pa_nil aj) (he := aj)) (peI T.MOST_CARDS rfl))))))
    (aB (aN pe_bl)) aP)
   (aB (aN (aJ (mJ K) (by rfl) T.all_ g8 (aa (bN rfl (N' := ["number"]) (src := [none]) rfl (piL K (pv 0)) (fun _ _ _ _ _ => (aW (i := 0) (show (["number"] : List Str).Nodup from by decide +kernel) rfl (Or.inl rfl))) (fun _ _ _ _ _ => bJ) (fun _ _ _ _ _ => (gr (aK bV (hr.mono (by decide)) rfl (aa (pv 0) pa_nil aj) (he := aj)) (gA (aK gk (hr.mono (by decide)) rfl (aa (pv 0) pa_nil aj) (he := aj)))))) pa_nil bf) (he := bf))))), ?_⟩
  cases d with
  | lst ds =>
   have l' := l
   unfold Lay at l'
   obtain ⟨a, xs, rfl, ha, hx⟩ := l'
   have hl := hx.len
   refine ⟨_, rfl, _, _, _, _, rfl, ty, rfl, _, rfl, ?_⟩
   refine bW ?_
   refine ⟨_, rfl, a, _, rfl, .inl (SqL.of ha), _, _, rfl, rfl, _, rfl, ?_⟩
   have kk : ∀ H', Same H H' -> Q (.bl (decide (1 <= ds.length) && decide (ds.length <= 4) && ds.all nA)) H' := k
   by_cases h1 : 1 <= ds.length
   ·refine ifP (decide_eq_true (by rw [hl]; omega)) ?_
    refine ⟨_, _, rfl, rfl, _, rfl, ?_⟩
    rw [decide_eq_true h1, Bool.true_and] at kk
    by_cases h4 : ds.length <= 4
    ·refine vY (by rw [hl]; omega) ?_
     rw [decide_eq_true h4, Bool.true_and] at kk
     refine ⟨_, rfl, a, rfl, ⟨_, SqL.of ha⟩, bQ (xs := xs) (fun x y _ => ∀ d, Lay H d x -> y = .bl (nA d)) (fun _ _ _ _ _ h => h) (SqL.of ha) (by rw [hl]; exact Nat.le_of_lt (aR (by omega))) ?_ ?_⟩
     ·intro x hx' H1 s1 Q' q
      obtain ⟨e, he, le⟩ := hx.mem hx'
      have uq : ∀ e', Lay H e' x -> e' = e := fun e' l' => l'.uniq le
      refine ⟨_, rfl, e, _, rfl, le.mono s1, _, rfl, ?_⟩
      cases e with
      | int i =>
       unfold Lay at le
       subst le
       refine bH ?_
       exact ⟨_, rfl, i, rfl, q _ H1 (Same.refl _) fun e' l' => by rw [uq e' l']⟩
      | bl i => exact bW (q _ H1 (Same.refl _) fun e' l' => by rw [uq e' l']; rfl)
      | non => exact bW (q _ H1 (Same.refl _) fun e' l' => by rw [uq e' l']; rfl)
      | str i => exact bW (q _ H1 (Same.refl _) fun e' l' => by rw [uq e' l']; rfl)
      | tup i => exact bW (q _ H1 (Same.refl _) fun e' l' => by rw [uq e' l']; rfl)
      | lst i => exact bW (q _ H1 (Same.refl _) fun e' l' => by rw [uq e' l']; rfl)
     ·intro ys H' s' p q hq
      have e := jM nA hx p
      subst e
      refine ⟨q, _, rfl, SqL.of az, ?_⟩
      rw [all_map]
      exact kk _ (s'.trans (aq hq))
    ·refine ifP (by rw [decide_eq_false (by rw [hl]; omega)]; rfl) ?_
     rw [decide_eq_false h4, Bool.false_and] at kk
     exact kk _ (Same.refl _)
   ·refine ifN (by rw [decide_eq_false (by rw [hl]; omega)]; exact Bool.false_ne_true) ?_
    rw [decide_eq_false h1, Bool.false_and, Bool.false_and] at kk
    exact ⟨_, rfl, bH (kk _ (Same.refl _))⟩
  | int i => refine ⟨_, rfl, _, _, _, _, rfl, ty, rfl, _, rfl, ?_⟩; exact bH (k _ (Same.refl _))
  | bl i => refine ⟨_, rfl, _, _, _, _, rfl, ty, rfl, _, rfl, ?_⟩; exact bH (k _ (Same.refl _))
  | non => refine ⟨_, rfl, _, _, _, _, rfl, ty, rfl, _, rfl, ?_⟩; exact bH (k _ (Same.refl _))
  | str i => refine ⟨_, rfl, _, _, _, _, rfl, ty, rfl, _, rfl, ?_⟩; exact bH (k _ (Same.refl _))
  | tup i => refine ⟨_, rfl, _, _, _, _, rfl, ty, rfl, _, rfl, ?_⟩; exact bH (k _ (Same.refl _))
theorem BJ {d : D} (h : fJ d = true) : ∃ es, d = .lst es := by
 cases d with
 | lst es => exact ⟨es, rfl⟩
 | _ => cases h
theorem uC (F : FunM K mg "is_table" jr ["thing"]) (T : Blt mg) (kW : Def P w K mg base "is_row" ["thing"] 2 zz) : Def P w K mg base "is_table" ["thing"] 3 oJ := by
 have S := qw
 have jV := kW
 refine Def.of F S (fun vs H Q E h => ?_) (fun f cdv A outer s H vs Q E hr h => ?_)
 ·obtain ⟨d, v, rfl, _⟩ := h
  rfl
 ·obtain ⟨d, v, rfl, l, k⟩ := h
  have ty := l.ty (K := K)
  refine ⟨_, (au (bj (PW.pt (dO (bG (bK (aJ (ji K) (by rfl) T.isinstance_ bx (aa (pv 0) (aa (cU (v := .ty "list") rfl T.list_ d9 rfl) pa_nil aj) aj) (he := aj)))) (du (bG (gQ eZ eZ pe_int (aJ (bZ K) (by rfl) T.len_ bC (aa (pv 0) pa_nil aj) (he := aj)) (peI T.MOST_CARDS rfl))))))
    (aB (aN pe_bl)) aP)
   (au (bj (bG (bK (aJ (mJ K) (by rfl) T.all_ g8 (aa (bN rfl (N' := ["row"]) (src := [none]) rfl (piL K (pv 0)) (fun _ _ _ _ _ => (aW (i := 0) (show (["row"] : List Str).Nodup from by decide +kernel) rfl (Or.inl rfl))) (fun _ _ _ _ _ => bJ) (fun _ _ _ _ _ => (aK jV (hr.mono (by decide)) rfl (aa (pv 0) pa_nil aj) (he := aj)))) pa_nil bf) (he := bf))))
    (aB (aN pe_bl)) aP)
   (aB (aN (aJ (mJ K) (by rfl) T.all_ g8 (aa (bN rfl (N' := ["row", "thing"]) (src := [none, some 0]) rfl (piL K (pv 0)) (fun _ _ _ _ _ => (aW (i := 0) (show (["row", "thing"] : List Str).Nodup from by decide +kernel) rfl (Or.inl rfl))) (fun _ _ _ _ _ => bJ) (fun _ _ _ _ _ => (cA bR (aJ (bZ K) (by rfl) T.len_ bC (aa (pv 0) pa_nil aj) (he := aj)) (aJ (bZ K) (by rfl) T.len_ bC (aa (aV (ixL K) (pv 1) pe_int (fun _ _ => rfl)) pa_nil aH) (he := aH)) (aQ _)))) pa_nil bf) (he := bf)))))), ?_⟩
  cases d with
  | lst ds =>
   have l' := l
   unfold Lay at l'
   obtain ⟨a, xs, rfl, ha, hx⟩ := l'
   have hl := hx.len
   refine ⟨_, rfl, _, _, _, _, rfl, ty, rfl, _, rfl, ?_⟩
   refine bW ?_
   refine ⟨_, rfl, a, _, rfl, .inl (SqL.of ha), _, _, rfl, rfl, _, rfl, ?_⟩
   have kk : ∀ H', Same H H' -> Q (.bl (decide (1 <= ds.length) && decide (ds.length <= 4) && ds.all fJ && ds.all (fun d => decide (pK d = pK (ds.headD .non))))) H' := k
   by_cases h1 : 1 <= ds.length
   ·refine ifP (decide_eq_true (by rw [hl]; omega)) ?_
    refine ⟨_, _, rfl, rfl, _, rfl, ?_⟩
    rw [decide_eq_true h1, Bool.true_and] at kk
    by_cases h4 : ds.length <= 4
    ·refine vY (by rw [hl]; omega) ?_
     rw [decide_eq_true h4, Bool.true_and] at kk
     have hz : xs.length <= sizeLine := by rw [hl]; exact Nat.le_of_lt (aR (by omega))
     refine ⟨_, rfl, a, rfl, ⟨_, SqL.of ha⟩, bQ (xs := xs) (fun x y _ => ∀ d, Lay H d x -> y = .bl (fJ d)) (fun _ _ _ _ _ h => h) (SqL.of ha) hz ?_ ?_⟩
     ·intro x hx' H1 s1 Q' q
      obtain ⟨e, he, le⟩ := hx.mem hx'
      exact ⟨_, rfl, e, _, rfl, le.mono s1, fun H2 s2 => q _ H2 s2 fun e' l' => by rw [l'.uniq le]⟩
     ·intro ys H' s' p q hq
      have e := jM fJ hx p
      subst e
      refine ⟨q, _, rfl, SqL.of az, ?_⟩
      rw [all_map]
      have s2 := s'.trans (aq (o := .lst ((ds.map fJ).map V.bl)) hq)
      generalize upd H' q (.lst ((ds.map fJ).map V.bl)) = H2 at s2 ⊢
      cases hA : ds.all fJ with
      | false =>
       rw [hA, Bool.false_and] at kk
       exact ⟨_, rfl, bH (kk _ s2)⟩
      | true =>
       rw [hA, Bool.true_and] at kk
       refine ⟨_, rfl, bW ?_⟩
       have ha2 := s2 _ _ ha
       have rows : ∀ d ∈ ds, ∃ es, d = .lst es := fun d hd => BJ (List.all_eq_true.mp hA d hd)
       obtain ⟨d0, hd0⟩ : ∃ d0, ds[0]? = some d0 := ⟨_, List.getElem?_eq_getElem (by omega)⟩
       have hh : ds.headD .non = d0 := by
        cases ds with
        | nil => cases hd0
        | cons x r => simpa using hd0
       rw [hh] at kk
       obtain ⟨x0, ex0, l0⟩ := hx.get hd0
       obtain ⟨es0, rfl⟩ := rows d0 (List.mem_of_getElem? hd0)
       unfold Lay at l0
       obtain ⟨b0, zs0, rfl, hb0, hz0⟩ := l0
       refine ⟨_, rfl, a, rfl, ⟨_, SqL.of ha2⟩, bQ (xs := xs) (fun x y _ => ∀ d, Lay H d x -> y = .bl (decide (pK d = pK (.lst es0)))) (fun _ _ _ _ _ h => h) (SqL.of ha2) hz ?_ ?_⟩
       ·intro x hx' H3 s3 Q' q'
        obtain ⟨e, he, le⟩ := hx.mem hx'
        have uq : ∀ e', Lay H e' x -> e' = e := fun e' l' => l'.uniq le
        obtain ⟨es, rfl⟩ := rows e he
        unfold Lay at le
        obtain ⟨b, zs, rfl, hb, hzs⟩ := le
        have s23 := s2.trans s3
        refine ⟨_, rfl, b, _, rfl, .inl (SqL.of (s23 _ _ hb)), _, rfl, a, xs, 0, _, rfl, rfl, SqL.of (s23 _ _ ha), d_ (j := 0) ex0, b0, _, rfl, .inl (SqL.of (s23 _ _ hb0)), rfl, ?_⟩
        refine q' _ H3 (Same.refl _) fun e' l' => ?_
        rw [uq e' l']
        refine congrArg V.bl (decide_eq_decide.mpr ?_)
        rw [hzs.len, hz0.len]
        constructor
        ·intro z
         exact Int.ofNat.inj (V.int.inj z)
        ·intro z
         exact congrArg V.int (congrArg Int.ofNat z)
       ·intro ys H3 s3 p q2 hq2
        have e := jM (fun d => decide (pK d = pK (.lst es0))) hx p
        subst e
        refine ⟨q2, _, rfl, SqL.of az, ?_⟩
        rw [all_map]
        exact kk _ ((s2.trans s3).trans (aq hq2))
    ·refine ifP (by rw [decide_eq_false (by rw [hl]; omega)]; rfl) ?_
     rw [decide_eq_false h4, Bool.false_and, Bool.false_and] at kk
     exact kk _ (Same.refl _)
   ·refine ifN (by rw [decide_eq_false (by rw [hl]; omega)]; exact Bool.false_ne_true) ?_
    rw [decide_eq_false h1, Bool.false_and, Bool.false_and, Bool.false_and] at kk
    exact ⟨_, rfl, bH (kk _ (Same.refl _))⟩
  | int i => refine ⟨_, rfl, _, _, _, _, rfl, ty, rfl, _, rfl, ?_⟩; exact bH (k _ (Same.refl _))
  | bl i => refine ⟨_, rfl, _, _, _, _, rfl, ty, rfl, _, rfl, ?_⟩; exact bH (k _ (Same.refl _))
  | non => refine ⟨_, rfl, _, _, _, _, rfl, ty, rfl, _, rfl, ?_⟩; exact bH (k _ (Same.refl _))
  | str i => refine ⟨_, rfl, _, _, _, _, rfl, ty, rfl, _, rfl, ?_⟩; exact bH (k _ (Same.refl _))
  | tup i => refine ⟨_, rfl, _, _, _, _, rfl, ty, rfl, _, rfl, ?_⟩; exact bH (k _ (Same.refl _))
def cM (CT : Addr) : Sp := fun vs H Q E => ∃ (d : D) (v : V), vs = [v] /\ Lay H d v /\ (bF d = true -> ∀ H', Same H H' -> Q .non H') /\ (bF d = false -> ∀ H', Same H H' -> E (.ref CT) none H')
theorem qg {CT : Addr} (F : FunM K mg "check_table" gC ["thing"]) (T : Blt mg) (X_BadTable : Exc K mg "BadTable" CT) (dj : Def P w K mg base "is_table" ["thing"] 3 oJ) : DefX P w K mg base "check_table" ["thing"] 4 (cM CT) := by
 have S := lM
 refine DefX.of F S (fun vs H Q E h => ?_) (fun f cdv A outer s H vs Q E hr h => ?_)
 ·obtain ⟨d, v, rfl, _⟩ := h
  rfl
 ·obtain ⟨d, v, rfl, l, k1, k2⟩ := h
  refine ⟨_, aB (bj (bG (bK (aK dj (hr.mono (by decide)) rfl (aa (pv 0) pa_nil aj) (he := aj)))) (aB (iR X_BadTable (aa pe_str pa_nil ao) rfl)) aP), ?_⟩
  refine ⟨_, rfl, d, _, rfl, l, fun H' s' => ?_⟩
  cases h : bF d with
  | true => exact ⟨_, rfl, bW (k1 h H' s')⟩
  | false => exact ⟨_, rfl, bH ⟨by show 1 <= sizeLine; decide, k2 h H' s'⟩⟩
structure Gd (T : List (List Int)) (m n : Nat) : Prop where
 m1 : 1 <= m
 m4 : m <= 4
 n1 : 1 <= n
 n4 : n <= 4
 rows : T.length = m
 cols : ∀ r ∈ T, r.length = n
 num : ∀ r ∈ T, ∀ x ∈ r, -200 <= x /\ x <= 200
theorem lY {T : List (List Int)} {m n : Nat} (g : Good T m n) : Gd T m n := ⟨g.m1, g.m4, g.n1, g.n4, g.rows, g.cols, fun r hr x hx => by have := g.num r hr x hx; omega⟩
theorem Gd.row {T : List (List Int)} {m n : Nat} (g : Gd T m n) {i : Nat} (hi : i < m) : T.getD i [] ∈ T /\ (T.getD i []).length = n := by
 have h : i < T.length := by rw [g.rows]; exact hi
 have e : T.getD i [] = T[i] := by rw [List.getD_eq_getElem?_getD, List.getElem?_eq_getElem h]; rfl
 rw [e]
 exact ⟨List.getElem_mem h, g.cols _ (List.getElem_mem h)⟩
theorem Gd.sz {T : List (List Int)} {m n : Nat} (g : Gd T m n) {r : List Int} (hr : r ∈ T) : ∀ x ∈ r, Sz 9 x := fun x hx => sz9 (g.num r hr x hx)
def sZ : Sp := fun vs H Q _ => ∃ a b : Int, vs = [.int a, .int b] /\ Q (.int (Int.gcd a b : Int)) H
def pW : Sp := fun vs H Q _ => ∃ a b : Int, vs = [.int a, .int b] /\ 0 < b /\ Sz 4000 b /\ ∀ p, H p = none -> Q (.ref p) (upd H p (.tup [.int (Fr.mk a b).1, .int (Fr.mk a b).2]))
def pU (K : PySem.W.Frag) : Sp := fun vs H Q _ => ∃ (p q : Addr) (a b c d : Int), vs = [.ref p, .ref q] /\ SqT K H p [.int a, .int b] /\ SqT K H q [.int c, .int d] /\ 0 < b /\ 0 < d /\ Sz 1000 a /\ Sz 1000 b /\ Sz 1000 c /\ Sz 1000 d /\
 ∀ r, H r = none -> Q (.ref r) (upd H r (.tup [.int (Fr.mk (a * d + c * b) (b * d)).1, .int (Fr.mk (a * d + c * b) (b * d)).2]))
def xn (K : PySem.W.Frag) : Sp := fun vs H Q _ => ∃ (p q : Addr) (a b c d : Int), vs = [.ref p, .ref q] /\ SqT K H p [.int a, .int b] /\ SqT K H q [.int c, .int d] /\ 0 < b /\ 0 < d /\ Sz 1000 a /\ Sz 1000 b /\ Sz 1000 c /\ Sz 1000 d /\
 ∀ r, H r = none -> Q (.ref r) (upd H r (.tup [.int (Fr.mk (a * c) (b * d)).1, .int (Fr.mk (a * c) (b * d)).2]))
def jE (K : PySem.W.Frag) : Sp := fun vs H Q _ => ∃ (p q : Addr) (a b c d : Int), vs = [.ref p, .ref q] /\ SqT K H p [.int a, .int b] /\ SqT K H q [.int c, .int d] /\ Sz 1000 a /\ Sz 1000 b /\ Sz 1000 c /\ Sz 1000 d /\ Q (.bl (decide (a * d < c * b))) H
theorem up {k : Nat} {x : Int} (h : Sz k x) (hk : k <= 4000 := by decide) : Sz 4000 x := h.mono hk
theorem fU {x y : Nat} : decide (V.int (x : Int) = V.int (y : Int)) = decide (x = y) := by
 refine decide_eq_decide.mpr ⟨fun h => ?_, fun h => by rw [h]⟩
 injection h with h
 omega
theorem FP (x y a b : Int) : eqD (.tup [.int x, .int y]) (.tup [.int a, .int b]) = decide ((x, y) = (a, b)) := by
 rw [Bool.eq_iff_iff]
 simp [eqD, dg]
abbrev fK : Stmt := top 3
theorem n6 : FnScope ["a", "b", "left", "right", "rest"] ["a", "b"] (aF fK) := ⟨rfl, rfl, rfl, by decide +kernel, rfl, by decide +kernel, by decide +kernel⟩
theorem n_ (F : FunM K mg "greatest_divisor" fK ["a", "b"]) (T : Blt mg) : Def P w K mg base "greatest_divisor" ["a", "b"] 1 sZ := by
 have S := n6
 refine Def.of F S (fun vs H Q E h => ?_) (fun f cdv A outer s H vs Q E hr h => ?_)
 ·obtain ⟨a, b, rfl, _⟩ := h
  rfl
 ·obtain ⟨a, b, rfl, k⟩ := h
  refine ⟨_, (au (aU (i := 2) S.nd rfl (Or.inl rfl) (aJ xP (by rfl) T.abs_ Dp (aa (pv 0) pa_nil aj) (he := aj)))
   (au (aU (i := 3) S.nd rfl (Or.inl rfl) (aJ xP (by rfl) T.abs_ Dp (aa (pv 1) pa_nil aj) (he := aj)))
   (au (xX PassesOwn.never (aX tM (pv 3) pe_int (aQ _))
    (au (aU (i := 4) S.nd rfl (Or.inl rfl) (bu dH (pv 2) (pv 3)))
   (au (aU (i := 2) S.nd rfl (Or.inl rfl) (pv 3))
   (aB (aU (i := 3) S.nd rfl (Or.inl rfl) (pv 4))))))
   (aB (aN (pv 2)))))), ?_⟩
  refine ⟨_, rfl, _, rfl, _, rfl, _, rfl, ?_⟩
  refine ⟨fun m σ H' => ∃ (l r : Int) (o : Option V), σ = [some (.int a), some (.int b), some (.int l), some (.int r), o] /\ H' = H /\ 0 <= l /\ 0 <= r /\ Int.gcd l r = Int.gcd a b /\ r.toNat = m,
   ⟨_, _, _, _, rfl, rfl, by split <;> omega, by split <;> omega, ?_, rfl⟩, ?_⟩
  ·have e1 : (if a < 0 then -a else a) = (a.natAbs : Int) := by split <;> omega
   have e2 : (if b < 0 then -b else b) = (b.natAbs : Int) := by split <;> omega
   rw [e1, e2]
   simp [Int.gcd]
  ·rintro m σ H' ⟨l, r, o, rfl, rfl, hl, hr0, hg, hm⟩
   refine ⟨_, rfl, rfl, _, rfl, ?_⟩
   by_cases hz : r = 0
   ·subst hz
    refine ifN (by simp) ?_
    refine ⟨_, rfl, ?_⟩
    have e : (Int.gcd a b : Int) = l := by
     rw [<- hg, Int.gcd_zero_right]
     omega
    rw [e] at k
    exact k
   ·refine ifP (by simp [hz]) ?_
    have hp : 0 < r := by omega
    refine ⟨fun σ' H'' => ∃ o', σ' = [some (.int a), some (.int b), some (.int r), some (.int (l % r)), o'] /\ H'' = H', fun σ' H'' h => ?_, ?_⟩
    ·obtain ⟨o', rfl, rfl⟩ := h
     have h1 := Int.emod_nonneg l hz
     have h2 := Int.emod_lt_of_pos l hp
     exact ⟨_, by omega, r, l % r, o', rfl, rfl, hr0, h1, (Fr.gcd_step l r).trans hg, rfl⟩
    ·refine ⟨_, rfl, _, rfl, _, _, rfl, rfl, hp, _, rfl, _, rfl, _, rfl, rfl⟩
abbrev xJ : Stmt := top 4
theorem G7 : FnScope ["a", "b", "divisor"] ["a", "b"] (aF xJ) := ⟨rfl, rfl, rfl, by decide +kernel, rfl, by decide +kernel, by decide +kernel⟩
theorem Hm (F : FunM K mg "made" xJ ["a", "b"]) (T : Blt mg) (bO : Def P w K mg base "greatest_divisor" ["a", "b"] 1 sZ) : Def P w K mg base "made" ["a", "b"] 2 pW := by
 have S := G7
 refine Def.of F S (fun vs H Q E h => ?_) (fun f cdv A outer s H vs Q E hr h => ?_)
 ·obtain ⟨a, b, rfl, _⟩ := h
  rfl
 ·obtain ⟨a, b, rfl, hb, hb2, k⟩ := h
  have g1 := Fr.gcd_pos (a := a) hb
  have g2 := Fr.gcd_le (a := a) hb
  have g3 : Sz 8000 (Int.gcd a b : Int) := by
   have h8 := hb2.mono (show 4000 <= 8000 by decide)
   unfold Sz at h8 ⊢
   exact Nat.lt_of_le_of_lt (by omega) h8
  refine ⟨_, (au (aU (i := 2) S.nd rfl (Or.inl rfl) (aK bO (hr.mono (by decide)) rfl (aa (pv 0) (aa (pv 1) pa_nil aj) aj) (he := aj)))
   (aB (aN (cQ (aa (bu wB (pv 0) (pv 2)) (aa (bu wB (pv 1) (pv 2)) pa_nil bM) bM))))), ?_⟩
  refine ⟨_, rfl, _, rfl, _, _, rfl, ?_⟩
  exact ⟨_, rfl, _, rfl, _, _, rfl, rfl, yO g1 g3, _, rfl, _, rfl, _, _, rfl, rfl, yO g1 g3, (by show 2 <= sizeLine; decide), k⟩
abbrev yj : Stmt := top 6
theorem HX : FnScope ["one", "other"] ["one", "other"] (aF yj) := ⟨rfl, rfl, rfl, by decide +kernel, rfl, by decide +kernel, by decide +kernel⟩
theorem G9 (F : FunM K mg "plus" yj ["one", "other"]) (T : Blt mg) (iw : Def P w K mg base "made" ["a", "b"] 2 pW) : Def P w K mg base "plus" ["one", "other"] 3 (pU K) := by
 have S := HX
 refine Def.of F S (fun vs H Q E h => ?_) (fun f cdv A outer s H vs Q E hr h => ?_)
 ·obtain ⟨p, q, a, b, c, d, rfl, _⟩ := h
  rfl
 ·obtain ⟨p, q, a, b, c, d, rfl, h1, h2, hb, hd, za, zb, zc, zd, k⟩ := h
  have hbd0 : 0 < b * d := Int.mul_pos hb hd
  refine ⟨_, (aB (aN (aK iw (hr.mono (by decide)) rfl (aa (bu lH (bu dF (aV (ixT K) (pv 0) pe_int (fun _ _ => rfl)) (aV (ixT K) (pv 1) pe_int (fun _ _ => rfl))) (bu dF (aV (ixT K) (pv 1) pe_int (fun _ _ => rfl)) (aV (ixT K) (pv 0) pe_int (fun _ _ => rfl)))) (aa (bu dF (aV (ixT K) (pv 0) pe_int (fun _ _ => rfl)) (aV (ixT K) (pv 1) pe_int (fun _ _ => rfl))) pa_nil bM) bM) (he := bM)))), ?_⟩
  refine ⟨_, rfl, _, _, _, _, rfl, rfl, h1, rfl, ?_⟩
  refine ⟨_, rfl, _, _, _, _, rfl, rfl, h2, rfl, _, _, rfl, rfl, ⟨up za, up zd⟩, ?_⟩
  refine ⟨_, rfl, _, _, _, _, rfl, rfl, h2, rfl, ?_⟩
  refine ⟨_, rfl, _, _, _, _, rfl, rfl, h1, rfl, _, _, rfl, rfl, ⟨up zc, up zb⟩, _, _, rfl, rfl, ?_⟩
  refine ⟨_, rfl, _, _, _, _, rfl, rfl, h1, rfl, ?_⟩
  refine ⟨_, rfl, _, _, _, _, rfl, rfl, h2, rfl, _, _, rfl, rfl, ⟨up zb, up zd⟩, ?_⟩
  exact ⟨_, _, rfl, hbd0, (zb.mul zd).mono (by decide), k⟩
abbrev uG : Stmt := top 7
theorem Fz : FnScope ["one", "other"] ["one", "other"] (aF uG) := ⟨rfl, rfl, rfl, by decide +kernel, rfl, by decide +kernel, by decide +kernel⟩
theorem Ew (F : FunM K mg "times" uG ["one", "other"]) (T : Blt mg) (iw : Def P w K mg base "made" ["a", "b"] 2 pW) : Def P w K mg base "times" ["one", "other"] 3 (xn K) := by
 have S := Fz
 refine Def.of F S (fun vs H Q E h => ?_) (fun f cdv A outer s H vs Q E hr h => ?_)
 ·obtain ⟨p, q, a, b, c, d, rfl, _⟩ := h
  rfl
 ·obtain ⟨p, q, a, b, c, d, rfl, h1, h2, hb, hd, za, zb, zc, zd, k⟩ := h
  have hbd0 : 0 < b * d := Int.mul_pos hb hd
  refine ⟨_, (aB (aN (aK iw (hr.mono (by decide)) rfl (aa (bu dF (aV (ixT K) (pv 0) pe_int (fun _ _ => rfl)) (aV (ixT K) (pv 1) pe_int (fun _ _ => rfl))) (aa (bu dF (aV (ixT K) (pv 0) pe_int (fun _ _ => rfl)) (aV (ixT K) (pv 1) pe_int (fun _ _ => rfl))) pa_nil bM) bM) (he := bM)))), ?_⟩
  refine ⟨_, rfl, _, _, _, _, rfl, rfl, h1, rfl, ?_⟩
  refine ⟨_, rfl, _, _, _, _, rfl, rfl, h2, rfl, _, _, rfl, rfl, ⟨up za, up zc⟩, ?_⟩
  refine ⟨_, rfl, _, _, _, _, rfl, rfl, h1, rfl, ?_⟩
  refine ⟨_, rfl, _, _, _, _, rfl, rfl, h2, rfl, _, _, rfl, rfl, ⟨up zb, up zd⟩, ?_⟩
  exact ⟨_, _, rfl, hbd0, (zb.mul zd).mono (by decide), k⟩
abbrev tR : Stmt := top 8
theorem Es : FnScope ["one", "other"] ["one", "other"] (aF tR) := ⟨rfl, rfl, rfl, by decide +kernel, rfl, by decide +kernel, by decide +kernel⟩
theorem FT (F : FunM K mg "below" tR ["one", "other"]) (T : Blt mg) : Def P w K mg base "below" ["one", "other"] 1 (jE K) := by
 have S := Es
 refine Def.of F S (fun vs H Q E h => ?_) (fun f cdv A outer s H vs Q E hr h => ?_)
 ·obtain ⟨p, q, a, b, c, d, rfl, _⟩ := h
  rfl
 ·obtain ⟨p, q, a, b, c, d, rfl, h1, h2, za, zb, zc, zd, k⟩ := h
  refine ⟨_, (aB (aN (cA dX (bu dF (aV (ixT K) (pv 0) pe_int (fun _ _ => rfl)) (aV (ixT K) (pv 1) pe_int (fun _ _ => rfl))) (bu dF (aV (ixT K) (pv 1) pe_int (fun _ _ => rfl)) (aV (ixT K) (pv 0) pe_int (fun _ _ => rfl))) (aQ _)))), ?_⟩
  refine ⟨_, rfl, _, _, _, _, rfl, rfl, h1, rfl, ?_⟩
  refine ⟨_, rfl, _, _, _, _, rfl, rfl, h2, rfl, _, _, rfl, rfl, ⟨up za, up zd⟩, ?_⟩
  refine ⟨_, rfl, _, _, _, _, rfl, rfl, h2, rfl, ?_⟩
  exact ⟨_, rfl, _, _, _, _, rfl, rfl, h1, rfl, _, _, rfl, rfl, ⟨up zc, up zb⟩, _, _, rfl, rfl, k⟩
def zB : Sp := fun vs H Q _ => ∃ (p : Addr) (q : Int × Int), vs = [.ref p] /\ H p = some (.tup [.int q.1, .int q.2]) /\ Pq q /\ Q (.bl true) H
def wY : Sp := fun vs H Q _ => ∃ (p : Addr) (q : Int × Int), vs = [.ref p] /\ H p = some (.tup [.int q.1, .int q.2]) /\ Pq q /\ Sz 1000 q.1 /\ Sz 1000 q.2 /\ ∀ H', Same H H' -> Q (.bl (decide (0 <= q.1))) H'
def El : Sp := fun vs H Q _ => ∃ (a : Addr) (qs : List (Int × Int)) (n : Nat), vs = [.ref a, .int n] /\ IsFrs H a qs /\ GQ qs /\ ∀ H', Same H H' -> Q (.bl (gj qs n)) H'
abbrev gF : Stmt := top 5
theorem lZ : FnScope ["thing"] ["thing"] (aF gF) := ⟨rfl, rfl, rfl, by decide +kernel, rfl, by decide +kernel, by decide +kernel⟩
theorem uv (F : FunM K mg "is_fraction" gF ["thing"]) (T : Blt mg) (bV : Def P w K mg base "is_whole" ["thing"] 1 nM) (bO : Def P w K mg base "greatest_divisor" ["a", "b"] 1 sZ) : Def P w K mg base "is_fraction" ["thing"] 2 zB := by
 have S := lZ
 refine Def.of F S (fun vs H Q E h => ?_) (fun f cdv A outer s H vs Q E hr h => ?_)
 ·obtain ⟨p, q, rfl, _⟩ := h
  rfl
 ·obtain ⟨p, q, rfl, hp, hq, k⟩ := h
  obtain ⟨x, y⟩ := q
  have hy : 0 < y := hq.pos
  have hg : Int.gcd x y = 1 := hq.cop
  refine ⟨_, (au (bj (PW.pt (dO (bG (bK (aJ (ji K) (by rfl) T.isinstance_ bx (aa (pv 0) (aa (cU (v := .ty "tuple") rfl T.tuple_ xV rfl) pa_nil aj) aj) (he := aj)))) (du (aX tM (aJ (bZ K) (by rfl) T.len_ bC (aa (pv 0) pa_nil aj) (he := aj)) pe_int (aQ _)))))
    (aB (aN pe_bl)) aP)
   (au (bj (PW.pt (dO (bG (bK (aK bV (hr.mono (by decide)) rfl (aa (aV (ixT K) (pv 0) pe_int (fun _ _ => rfl)) pa_nil aH) (he := aH)))) (du (bG (bK (aK bV (hr.mono (by decide)) rfl (aa (aV (ixT K) (pv 0) pe_int (fun _ _ => rfl)) pa_nil aH) (he := aH)))))))
    (aB (aN pe_bl)) aP)
   (aB (aN (gr (cA Bw (aV (ixT K) (pv 0) pe_int (fun _ _ => rfl)) pe_int (aQ _)) (gA (cA bR (aK bO (hr.mono (by decide)) rfl (aa (aV (ixT K) (pv 0) pe_int (fun _ _ => rfl)) (aa (aV (ixT K) (pv 0) pe_int (fun _ _ => rfl)) pa_nil aH) aH) (he := aH)) pe_int (aQ _)))))))), ?_⟩
  refine ⟨_, rfl, _, _, _, _, rfl, TyOf.tup hp, rfl, _, rfl, ?_⟩
  refine bW ?_
  refine ⟨_, rfl, p, _, rfl, .inr (SqT.of hp), rfl, _, rfl, ?_⟩
  refine bW ?_
  refine ⟨_, rfl, _, _, _, _, rfl, rfl, SqT.of hp, rfl, _, rfl, _, rfl, ?_⟩
  refine bW ?_
  refine ⟨_, rfl, _, _, _, _, rfl, rfl, SqT.of hp, rfl, _, rfl, _, rfl, ?_⟩
  refine bW ?_
  refine ⟨_, rfl, _, _, _, _, rfl, rfl, SqT.of hp, rfl, _, _, rfl, rfl, _, rfl, ?_⟩
  refine ifP (decide_eq_true hy) ?_
  refine ⟨_, rfl, _, _, _, _, rfl, rfl, SqT.of hp, rfl, _, rfl, _, _, _, _, rfl, rfl, SqT.of hp, rfl, _, _, rfl, rfl, ?_⟩
  exact zU (by rw [hg]; rfl) k
abbrev jq : Stmt := top 36
theorem qj : FnScope ["thing"] ["thing"] (aF jq) := ⟨rfl, rfl, rfl, by decide +kernel, rfl, by decide +kernel, by decide +kernel⟩
theorem yZ (F : FunM K mg "is_share" jq ["thing"]) (T : Blt mg) (dZ : Def P w K mg base "is_fraction" ["thing"] 2 zB) (cT : Def P w K mg base "below" ["one", "other"] 1 (jE K)) : Def P w K mg base "is_share" ["thing"] 3 wY := by
 have S := qj
 refine Def.of F S (fun vs H Q E h => ?_) (fun f cdv A outer s H vs Q E hr h => ?_)
 ·obtain ⟨p, q, rfl, _⟩ := h
  rfl
 ·obtain ⟨p, q, rfl, hp, hq, z1, z2, k⟩ := h
  have y0 := hq.pos
  refine ⟨_, (aB (aN (gr (aK dZ (hr.mono (by decide)) rfl (aa (pv 0) pa_nil aj) (he := aj)) (gA (sr (aK cT (hr.mono (by decide)) rfl (aa (pv 0) (aa (cQ (aa pe_int (aa pe_int pa_nil ao) ao)) pa_nil a_) aj) (he := aj))))))), ?_⟩
  refine ⟨_, rfl, p, q, rfl, hp, hq, _, rfl, ?_⟩
  refine bH ?_
  refine ⟨_, rfl, (by show 2 <= sizeLine; decide), fun r hr' => ⟨p, r, _, _, _, _, rfl, SqT.of (aq hr' _ _ hp), SqT.of az, z1, z2, (show Sz 1000 0 from by unfold Sz; exact Nat.pow_pos (by decide)), (show Sz 1000 1 from (show Sz 1 1 from by unfold Sz; decide).mono (by decide)), ?_⟩⟩
  refine ⟨_, rfl, ?_⟩
  have e : (!decide (q.1 * 1 < 0 * q.2)) = decide (0 <= q.1) := by
   rw [Int.mul_one, Int.zero_mul]
   by_cases h : q.1 < 0
   ·simp [h, show ¬ 0 <= q.1 by omega]
   ·simp [h, show 0 <= q.1 by omega]
  rw [e]
  exact k _ (aq hr')
theorem o8 {α : Type} (f : α -> Bool) {R : V -> α -> Prop} : ∀ {vs ys : List V} {qs : List α}, Paired (fun x y => ∀ q, R x q -> y = V.bl (f q)) vs ys -> Paired R vs qs -> ys = (qs.map f).map V.bl
 | _, _, _, .nil, .nil => rfl
 | _, _, _, .cons h t, .cons q u => by rw [h _ q, o8 f t u]; rfl
abbrev iH : Stmt := top 37
theorem nZ : FnScope ["thing", "count", "total", "share"] ["thing", "count"] (aF iH) := ⟨rfl, rfl, rfl, by decide +kernel, rfl, by decide +kernel, by decide +kernel⟩
theorem vK (F : FunM K mg "is_mixture" iH ["thing", "count"]) (T : Blt mg) (iG : Def P w K mg base "is_share" ["thing"] 3 wY) (gU : Def P w K mg base "plus" ["one", "other"] 3 (pU K)) : Def P w K mg base "is_mixture" ["thing", "count"] 4 El := by
 have S := nZ
 refine Def.of F S (fun vs H Q E h => ?_) (fun f cdv A outer s H vs Q E hr h => ?_)
 ·obtain ⟨a, qs, n, rfl, _⟩ := h
  rfl
 ·obtain ⟨a, qs, n, rfl, hW, g, k⟩ := h
  obtain ⟨vs, ha, pr⟩ := id hW
  have hl : vs.length = qs.length := pr.length
  have n20 := g.len
  refine ⟨_, (au (bj (PW.pt (dO (bG (bK (aJ (ji K) (by rfl) T.isinstance_ bx (aa (pv 0) (aa (cU (v := .ty "list") rfl T.list_ d9 rfl) pa_nil aj) aj) (he := aj)))) (du (aX tM (aJ (bZ K) (by rfl) T.len_ bC (aa (pv 0) pa_nil aj) (he := aj)) (pv 1) (aQ _)))))
    (aB (aN pe_bl)) aP)
   (au (bj (bG (bK (aJ (mJ K) (by rfl) T.all_ g8 (aa (bN rfl (N' := ["share"]) (src := [none]) rfl (piL K (pv 0)) (fun _ _ _ _ _ => (aW (i := 0) (show (["share"] : List Str).Nodup from by decide +kernel) rfl (Or.inl rfl))) (fun _ _ _ _ _ => bJ) (fun _ _ _ _ _ => (aK iG (hr.mono (by decide)) rfl (aa (pv 0) pa_nil aj) (he := aj)))) pa_nil bf) (he := bf))))
    (aB (aN pe_bl)) aP)
   (au (aU (i := 2) S.nd rfl (Or.inl rfl) (cQ (aa pe_int (aa pe_int pa_nil ao) ao)))
   (au (cX PassesOwn.never rfl (piL K (pv 0)) (aW (i := 3) S.nd rfl (Or.inl rfl))
    (aB (aU (i := 2) S.nd rfl (Or.inl rfl) (aK gU (hr.mono (by decide)) rfl (aa (pv 2) (aa (pv 3) pa_nil aj) aj) (he := aj)))))
   (aB (aN (cA (t_ K hr.units) (pv 2) (cQ (aa pe_int (aa pe_int pa_nil ao) ao)) (aQ _)))))))), ?_⟩
  refine ⟨_, rfl, _, _, _, _, rfl, TyOf.lst ha, rfl, _, rfl, ?_⟩
  refine bW ?_
  refine ⟨_, rfl, a, _, rfl, .inl (SqL.of ha), _, rfl, rfl, _, rfl, ?_⟩
  by_cases hn : qs.length = n
  rotate_left
  ·refine ifP ?_ ?_
   ·rw [fU, hl, decide_eq_false hn]; rfl
   ·have e : gj qs n = false := by unfold gj; rw [decide_eq_false hn]; rfl
    rw [e] at k
    exact k H (Same.refl _)
  refine ifN (by rw [fU, hl, decide_eq_true hn]; decide) ?_
  refine ⟨_, rfl, a, rfl, ⟨_, SqL.of ha⟩, bQ (xs := vs) (fun x y _ => ∀ q, IsFr H x q -> y = .bl (decide (0 <= q.1))) (fun _ _ _ _ _ h => h) (SqL.of ha) (by rw [hl]; exact Nat.le_of_lt (aR (by omega))) ?_ ?_⟩
  ·intro x hx H1 s1 Q' q
   obtain ⟨r, hr', hf⟩ := pr.mem2 hx
   obtain ⟨b, rfl, hb⟩ := id hf
   exact ⟨_, rfl, b, r, rfl, s1 _ _ hb, g.pr r hr', (g.s1 r hr').mono (by decide), (g.s2 r hr').mono (by decide), fun H2 s2 => q _ H2 s2 fun q' h' => by rw [hf.inj h']⟩
  ·intro ys H' s' p q hq
   have e := o8 (fun q => decide (0 <= q.1)) p pr
   subst e
   refine ⟨q, _, rfl, SqL.of az, ?_⟩
   rw [List.all_map]
   have s2 := s'.trans (aq (o := .lst ((qs.map fun q => decide (0 <= q.1)).map V.bl)) hq)
   generalize upd H' q (.lst ((qs.map fun q => decide (0 <= q.1)).map V.bl)) = H1 at s2 ⊢
   refine ⟨_, rfl, ?_⟩
   cases hall : qs.all (id ∘ fun q => decide (0 <= q.1)) with
   | false =>
    refine bH ?_
    have e : gj qs n = false := by
     unfold gj
     rw [show (qs.all fun q => decide (0 <= q.1)) = false from hall, Bool.and_false, Bool.false_and]
    rw [e] at k
    exact k H1 s2
   | true =>
    refine bW ?_
    have ha1 := s2 _ _ ha
    refine ⟨(by show 2 <= sizeLine; decide), fun t ht => ?_⟩
    refine ⟨_, rfl, a, rfl, ⟨_, SqL.of (aq ht _ _ ha1)⟩, dz (K := K) (a := a) (xs := vs) (fun i σ H' => ∃ t o, σ = [some (.ref a), some (.int n), some (.ref t), o] /\ H' t = some (.tup [.int (Fr.mk (acc ((ones qs).take i)).1 (acc ((ones qs).take i)).2).1, .int (Fr.mk (acc ((ones qs).take i)).1 (acc ((ones qs).take i)).2).2]) /\ Same H1 H')
     ⟨t, _, rfl, by rw [az, List.take_zero]; rfl, aq ht⟩ ?_ ?_ ?_⟩
    ·rintro i σ H' _ ⟨_, _, _, _, s3⟩
     exact SqL.of (s3 _ _ ha1)
    ·rintro i x σ H' hi ⟨t', o, rfl, hT, s3⟩
     obtain ⟨y, hy, b, rfl, hb⟩ := pr.get2 hi
     have my := List.mem_of_getElem? hy
     have gt := (Ia g).take i
     have lt : ((ones qs).take i).length <= 8 := by
      rw [List.length_take]
      unfold ones
      rw [List.length_map]
      omega
     have p0 := jA gt
     have e1 : (ones qs)[i]? = some (1, y) := by unfold ones; rw [List.getElem?_map, hy]; rfl
     have py := g.pr y my
     refine ⟨_, rfl, _, rfl, t', b, _, _, _, _, rfl, SqT.of hT, SqT.of (s3 _ _ (s2 _ _ hb)), Fr.mk_pos p0, py.pos, ((wO gt lt).fst p0).mono (by decide), ((yG gt lt).snd p0).mono (by decide), (g.s1 y my).mono (by decide), (g.s2 y my).mono (by decide), fun r hr' => ?_⟩
     refine ⟨r, _, rfl, ?_, s3.trans (aq hr')⟩
     rw [az, xM e1, HD p0 py]
    ·rintro σ H' ⟨t', o, rfl, hT, s3⟩
     have el : (ones qs).take vs.length = ones qs := List.take_of_length_le (by unfold ones; rw [List.length_map, hl]; exact Nat.le_refl _)
     rw [el] at hT
     refine ⟨_, rfl, (by show 2 <= sizeLine; decide), fun r hr' => ?_⟩
     refine ⟨_, _, mK (aq hr' _ _ hT), mK az, rfl, (by show 1 <= 40; decide), ?_⟩
     rw [FP]
     have e : gj qs n = decide (Fr.mk (acc (ones qs)).1 (acc (ones qs)).2 = (1, 1)) := by
      unfold gj
      rw [decide_eq_true hn, show (qs.all fun q => decide (0 <= q.1)) = true from hall]
      rfl
     rw [e] at k
     exact k _ ((s2.trans s3).trans (aq hr'))
def fQ : D -> Bool
 | .tup [.int a, .int b] => decide (0 < b) && decide ((Int.gcd a b : Int) = 1)
 | _ => false
def dW : D -> Bool
 | .tup [.int a, .int b] => decide (0 < b) && decide ((Int.gcd a b : Int) = 1) && !decide (a < 0)
 | _ => false
def pA : D -> Prop
 | .tup [.int a, .int b] => Sz 1000 a /\ Sz 1000 b
 | _ => True
def v5 : Sp := fun vs H Q _ => ∃ (d : D) (v : V), vs = [v] /\ Lay H d v /\ Q (.bl (fQ d)) H
def vf : Sp := fun vs H Q _ => ∃ (d : D) (v : V), vs = [v] /\ Lay H d v /\ pA d /\ ∀ H', Same H H' -> Q (.bl (dW d)) H'
theorem CJ {ds : List D} (h : ds.length ≠ 2) : fQ (.tup ds) = false := by
 match ds, h with
 | [], _ => rfl
 | [x], _ => cases x <;> rfl
 | [x, y], h => exact absurd rfl h
 | x :: y :: z :: r, _ => cases x <;> cases y <;> rfl
theorem HS {x y : D} (h : jX x = false) : fQ (.tup [x, y]) = false := by
 cases x with
 | int i => cases h
 | _ => rfl
theorem HH {x y : D} (h : jX y = false) : fQ (.tup [x, y]) = false := by
 cases y with
 | int i => cases h
 | _ => cases x <;> rfl
theorem mQ {d : D} (h : jX d = true) : ∃ i, d = .int i := by
 cases d with
 | int i => exact ⟨i, rfl⟩
 | _ => cases h
theorem qd (F : FunM K mg "is_fraction" gF ["thing"]) (T : Blt mg) (cz : Def P w K mg base "is_whole" ["thing"] 1 km) (bO : Def P w K mg base "greatest_divisor" ["a", "b"] 1 sZ) : Def P w K mg base "is_fraction" ["thing"] 2 v5 := by
 have S := lZ
 have bV := cz
 refine Def.of F S (fun vs H Q E h => ?_) (fun f cdv A outer s H vs Q E hr h => ?_)
 ·obtain ⟨d, v, rfl, _⟩ := h
  rfl
 ·obtain ⟨d, v, rfl, l, k⟩ := h
  have ty := l.ty (K := K)
  refine ⟨_, (au (bj (PW.pt (dO (bG (bK (aJ (ji K) (by rfl) T.isinstance_ bx (aa (pv 0) (aa (cU (v := .ty "tuple") rfl T.tuple_ xV rfl) pa_nil aj) aj) (he := aj)))) (du (aX tM (aJ (bZ K) (by rfl) T.len_ bC (aa (pv 0) pa_nil aj) (he := aj)) pe_int (aQ _)))))
    (aB (aN pe_bl)) aP)
   (au (bj (PW.pt (dO (bG (bK (aK bV (hr.mono (by decide)) rfl (aa (aV (ixT K) (pv 0) pe_int (fun _ _ => rfl)) pa_nil aH) (he := aH)))) (du (bG (bK (aK bV (hr.mono (by decide)) rfl (aa (aV (ixT K) (pv 0) pe_int (fun _ _ => rfl)) pa_nil aH) (he := aH)))))))
    (aB (aN pe_bl)) aP)
   (aB (aN (gr (cA Bw (aV (ixT K) (pv 0) pe_int (fun _ _ => rfl)) pe_int (aQ _)) (gA (cA bR (aK bO (hr.mono (by decide)) rfl (aa (aV (ixT K) (pv 0) pe_int (fun _ _ => rfl)) (aa (aV (ixT K) (pv 0) pe_int (fun _ _ => rfl)) pa_nil aH) aH) (he := aH)) pe_int (aQ _)))))))), ?_⟩
  cases d with
  | tup ds =>
   have l' := l
   unfold Lay at l'
   obtain ⟨p, xs, rfl, hp, hx⟩ := l'
   have hl := hx.len
   refine ⟨_, rfl, _, _, _, _, rfl, ty, rfl, _, rfl, ?_⟩
   refine bW ?_
   refine ⟨_, rfl, p, _, rfl, .inr (SqT.of hp), rfl, _, rfl, ?_⟩
   by_cases h2 : ds.length = 2
   rotate_left
   ·refine ifP (by
     rw [show decide (V.int (xs.length : Int) = V.int 2) = false from decide_eq_false (by rw [hl]; intro z; injection z with z; omega)]
     rfl) ?_
    rw [CJ h2] at k
    exact k
   refine ifN (by
     rw [show decide (V.int (xs.length : Int) = V.int 2) = true from decide_eq_true (by rw [hl, h2]; rfl)]
     decide) ?_
   match ds, h2 with
   | [x, y], _ =>
    unfold Lays at hx
    obtain ⟨v1, r1, rfl, l1, hx⟩ := hx
    unfold Lays at hx
    obtain ⟨v2, r2, rfl, l2, hx⟩ := hx
    unfold Lays at hx
    subst hx
    refine ⟨_, rfl, _, _, _, _, rfl, rfl, SqT.of hp, rfl, x, _, rfl, l1, ?_⟩
    cases ix : jX x with
    | false =>
     rw [HS ix] at k
     exact ⟨_, rfl, bH k⟩
    | true =>
     refine ⟨_, rfl, bW ?_⟩
     refine ⟨_, rfl, _, _, _, _, rfl, rfl, SqT.of hp, rfl, y, _, rfl, l2, ?_⟩
     cases iy : jX y with
     | false =>
      rw [HH iy] at k
      exact ⟨_, rfl, bH k⟩
     | true =>
      refine ⟨_, rfl, bW ?_⟩
      obtain ⟨a, rfl⟩ := mQ ix
      obtain ⟨b, rfl⟩ := mQ iy
      unfold Lay at l1 l2
      subst l1
      subst l2
      have k : Q (.bl (decide (0 < b) && decide ((Int.gcd a b : Int) = 1))) H := k
      refine ⟨_, rfl, _, _, _, _, rfl, rfl, SqT.of hp, rfl, _, _, rfl, rfl, _, rfl, ?_⟩
      by_cases hb : 0 < b
      ·refine ifP (decide_eq_true hb) ?_
       rw [decide_eq_true hb, Bool.true_and] at k
       refine ⟨_, rfl, _, _, _, _, rfl, rfl, SqT.of hp, rfl, _, rfl, _, _, _, _, rfl, rfl, SqT.of hp, rfl, _, _, rfl, rfl, ?_⟩
       rw [show decide (V.int (Int.gcd a b : Int) = V.int 1) = decide ((Int.gcd a b : Int) = 1) from decide_eq_decide.mpr ⟨fun z => V.int.inj z, fun z => by rw [z]⟩]
       exact k
      ·refine ifN (by rw [decide_eq_false hb]; exact Bool.false_ne_true) ?_
       rw [decide_eq_false hb, Bool.false_and] at k
       exact k
  | int i => refine ⟨_, rfl, _, _, _, _, rfl, ty, rfl, _, rfl, ?_⟩; exact bH k
  | bl i => refine ⟨_, rfl, _, _, _, _, rfl, ty, rfl, _, rfl, ?_⟩; exact bH k
  | non => refine ⟨_, rfl, _, _, _, _, rfl, ty, rfl, _, rfl, ?_⟩; exact bH k
  | str i => refine ⟨_, rfl, _, _, _, _, rfl, ty, rfl, _, rfl, ?_⟩; exact bH k
  | lst i => refine ⟨_, rfl, _, _, _, _, rfl, ty, rfl, _, rfl, ?_⟩; exact bH k
theorem Fy {d : D} (h : fQ d = true) : ∃ a b, d = .tup [.int a, .int b] := by
 unfold fQ at h
 split at h
 ·exact ⟨_, _, rfl⟩
 ·cases h
theorem Bk {d : D} (h : fQ d = false) : dW d = false := by
 unfold fQ at h
 unfold dW
 split at h
 ·rw [h]; rfl
 ·rfl
theorem uI (F : FunM K mg "is_share" jq ["thing"]) (T : Blt mg) (gM : Def P w K mg base "is_fraction" ["thing"] 2 v5) (cT : Def P w K mg base "below" ["one", "other"] 1 (jE K)) : Def P w K mg base "is_share" ["thing"] 3 vf := by
 have S := qj
 have dZ := gM
 refine Def.of F S (fun vs H Q E h => ?_) (fun f cdv A outer s H vs Q E hr h => ?_)
 ·obtain ⟨d, v, rfl, _⟩ := h
  rfl
 ·obtain ⟨d, v, rfl, l, sm, k⟩ := h
  refine ⟨_, (aB (aN (gr (aK dZ (hr.mono (by decide)) rfl (aa (pv 0) pa_nil aj) (he := aj)) (gA (sr (aK cT (hr.mono (by decide)) rfl (aa (pv 0) (aa (cQ (aa pe_int (aa pe_int pa_nil ao) ao)) pa_nil a_) aj) (he := aj))))))), ?_⟩
  refine ⟨_, rfl, d, _, rfl, l, _, rfl, ?_⟩
  cases hf : fQ d with
  | false =>
   rw [Bk hf] at k
   exact bW (k H (Same.refl _))
  | true =>
   refine bH ?_
   obtain ⟨a, b, rfl⟩ := Fy hf
   have l' := l
   unfold Lay at l'
   obtain ⟨p, xs, rfl, hp, hx⟩ := l'
   unfold Lays at hx
   obtain ⟨v1, r1, rfl, l1, hx⟩ := hx
   unfold Lays at hx
   obtain ⟨v2, r2, rfl, l2, hx⟩ := hx
   unfold Lays at hx
   subst hx
   unfold Lay at l1 l2
   subst l1
   subst l2
   obtain ⟨z1, z2⟩ := (show Sz 1000 a /\ Sz 1000 b from sm)
   refine ⟨_, rfl, (by show 2 <= sizeLine; decide), fun r hr' => ⟨p, r, _, _, _, _, rfl, SqT.of (aq hr' _ _ hp), SqT.of az, z1, z2, (show Sz 1000 0 from by unfold Sz; exact Nat.pow_pos (by decide)), (show Sz 1000 1 from (show Sz 1 1 from by unfold Sz; decide).mono (by decide)), ?_⟩⟩
   refine ⟨_, rfl, ?_⟩
   have hf' : (decide (0 < b) && decide ((Int.gcd a b : Int) = 1)) = true := hf
   have e : (!decide (a * 1 < 0 * b)) = dW (.tup [.int a, .int b]) := by
    show _ = (decide (0 < b) && decide ((Int.gcd a b : Int) = 1) && !decide (a < 0))
    rw [hf', Bool.true_and, Int.mul_one, Int.zero_mul]
   rw [e]
   exact k _ (aq hr')
def early (n : Nat) : D -> Prop
 | .lst ds => ds.length ≠ n \/ (ds.length <= 4 /\ ds.all dW = false /\ ∀ d ∈ ds, pA d)
 | _ => True
def zE : Sp := fun vs H Q _ => ∃ (d : D) (v : V) (n : Nat), vs = [v, .int n] /\ Lay H d v /\ early n d /\ ∀ H', Same H H' -> Q (.bl false) H'
theorem rE (F : FunM K mg "is_mixture" iH ["thing", "count"]) (T : Blt mg) (jn : Def P w K mg base "is_share" ["thing"] 3 vf) (gU : Def P w K mg base "plus" ["one", "other"] 3 (pU K)) : Def P w K mg base "is_mixture" ["thing", "count"] 4 zE := by
 have S := nZ
 have iG := jn
 refine Def.of F S (fun vs H Q E h => ?_) (fun f cdv A outer s H vs Q E hr h => ?_)
 ·obtain ⟨d, v, n, rfl, _⟩ := h
  rfl
 ·obtain ⟨d, v, n, rfl, l, er, k⟩ := h
  have ty := l.ty (K := K)
  refine ⟨_, (au (bj (PW.pt (dO (bG (bK (aJ (ji K) (by rfl) T.isinstance_ bx (aa (pv 0) (aa (cU (v := .ty "list") rfl T.list_ d9 rfl) pa_nil aj) aj) (he := aj)))) (du (aX tM (aJ (bZ K) (by rfl) T.len_ bC (aa (pv 0) pa_nil aj) (he := aj)) (pv 1) (aQ _)))))
    (aB (aN pe_bl)) aP)
   (au (bj (bG (bK (aJ (mJ K) (by rfl) T.all_ g8 (aa (bN rfl (N' := ["share"]) (src := [none]) rfl (piL K (pv 0)) (fun _ _ _ _ _ => (aW (i := 0) (show (["share"] : List Str).Nodup from by decide +kernel) rfl (Or.inl rfl))) (fun _ _ _ _ _ => bJ) (fun _ _ _ _ _ => (aK iG (hr.mono (by decide)) rfl (aa (pv 0) pa_nil aj) (he := aj)))) pa_nil bf) (he := bf))))
    (aB (aN pe_bl)) aP)
   (au (aU (i := 2) S.nd rfl (Or.inl rfl) (cQ (aa pe_int (aa pe_int pa_nil ao) ao)))
   (au (cX PassesOwn.never rfl (piL K (pv 0)) (aW (i := 3) S.nd rfl (Or.inl rfl))
    (aB (aU (i := 2) S.nd rfl (Or.inl rfl) (aK gU (hr.mono (by decide)) rfl (aa (pv 2) (aa (pv 3) pa_nil aj) aj) (he := aj)))))
   (aB (aN (cA (t_ K hr.units) (pv 2) (cQ (aa pe_int (aa pe_int pa_nil ao) ao)) (aQ _)))))))), ?_⟩
  cases d with
  | lst ds =>
   have l' := l
   unfold Lay at l'
   obtain ⟨a, xs, rfl, ha, hx⟩ := l'
   have hl := hx.len
   refine ⟨_, rfl, _, _, _, _, rfl, ty, rfl, _, rfl, ?_⟩
   refine bW ?_
   refine ⟨_, rfl, a, _, rfl, .inl (SqL.of ha), _, rfl, rfl, _, rfl, ?_⟩
   by_cases hn : ds.length = n
   rotate_left
   ·refine ifP (by rw [fU, hl, decide_eq_false hn]; rfl) ?_
    exact k H (Same.refl _)
   refine ifN (by rw [fU, hl, decide_eq_true hn]; decide) ?_
   rcases (show ds.length ≠ n \/ (ds.length <= 4 /\ ds.all dW = false /\ ∀ d ∈ ds, pA d) from er) with er | ⟨h4, hA, sm⟩
   ·exact absurd hn er
   refine ⟨_, rfl, a, rfl, ⟨_, SqL.of ha⟩, bQ (xs := xs) (fun x y _ => ∀ d, Lay H d x -> y = .bl (dW d)) (fun _ _ _ _ _ h => h) (SqL.of ha) (by rw [hl]; exact Nat.le_of_lt (aR (by omega))) ?_ ?_⟩
   ·intro x hx' H1 s1 Q' q
    obtain ⟨e, he, le⟩ := hx.mem hx'
    exact ⟨_, rfl, e, _, rfl, le.mono s1, sm e he, fun H2 s2 => q _ H2 s2 fun e' l' => by rw [l'.uniq le]⟩
   ·intro ys H' s' p q hq
    have e := jM dW hx p
    subst e
    refine ⟨q, _, rfl, SqL.of az, ?_⟩
    rw [all_map, hA]
    exact ⟨_, rfl, bH (k _ (s'.trans (aq hq)))⟩
  | int i => refine ⟨_, rfl, _, _, _, _, rfl, ty, rfl, _, rfl, ?_⟩; exact bH (k _ (Same.refl _))
  | bl i => refine ⟨_, rfl, _, _, _, _, rfl, ty, rfl, _, rfl, ?_⟩; exact bH (k _ (Same.refl _))
  | non => refine ⟨_, rfl, _, _, _, _, rfl, ty, rfl, _, rfl, ?_⟩; exact bH (k _ (Same.refl _))
  | str i => refine ⟨_, rfl, _, _, _, _, rfl, ty, rfl, _, rfl, ?_⟩; exact bH (k _ (Same.refl _))
  | tup i => refine ⟨_, rfl, _, _, _, _, rfl, ty, rfl, _, rfl, ?_⟩; exact bH (k _ (Same.refl _))
def qO (CM : Addr) : Sp := fun vs H Q E => ∃ (v : V) (n : Nat), vs = [v, .int n] /\ ((∃ d, Lay H d v /\ early n d /\ ∀ H', Same H H' -> E (.ref CM) none H') \/
 ∃ (a : Addr) (qs : List (Int × Int)), v = .ref a /\ IsFrs H a qs /\ GQ qs /\ (gj qs n = true -> ∀ H', Same H H' -> Q .non H') /\ (gj qs n = false -> ∀ H', Same H H' -> E (.ref CM) none H'))
abbrev gZ : Stmt := top 39
theorem qC : FnScope ["thing", "count"] ["thing", "count"] (aF gZ) := ⟨rfl, rfl, rfl, by decide +kernel, rfl, by decide +kernel, by decide +kernel⟩
theorem n8 {CM : Addr} (F : FunM K mg "check_mixture" gZ ["thing", "count"]) (T : Blt mg) (X_BadMixture : Exc K mg "BadMixture" CM) (jN : Def P w K mg base "is_mixture" ["thing", "count"] 4 El) (iu : Def P w K mg base "is_mixture" ["thing", "count"] 4 zE) : DefX P w K mg base "check_mixture" ["thing", "count"] 5 (qO CM) := by
 have S := qC
 refine DefX.of F S (fun vs H Q E h => ?_) (fun f cdv A outer s H vs Q E hr h => ?_)
 ·obtain ⟨v, n, rfl, _⟩ := h
  rfl
 ·obtain ⟨v, n, rfl, ⟨d, l, er, k⟩ | ⟨a, qs, rfl, hq, gq, k1, k2⟩⟩ := h
  ·refine ⟨_, aB (bj (bG (bK (aK iu (hr.mono (by decide)) rfl (aa (pv 0) (aa (pv 1) pa_nil aj) aj) (he := aj)))) (aB (iR X_BadMixture (aa pe_str pa_nil ao) rfl)) aP), ?_⟩
   exact ⟨_, rfl, _, rfl, d, _, n, rfl, l, er, fun H' s' => ⟨_, rfl, bH ⟨by show 1 <= sizeLine; decide, k H' s'⟩⟩⟩
  ·refine ⟨_, aB (bj (bG (bK (aK jN (hr.mono (by decide)) rfl (aa (pv 0) (aa (pv 1) pa_nil aj) aj) (he := aj)))) (aB (iR X_BadMixture (aa pe_str pa_nil ao) rfl)) aP), ?_⟩
   refine ⟨_, rfl, _, rfl, a, qs, n, rfl, hq, gq, fun H' s' => ?_⟩
   cases h : gj qs n with
   | true => exact ⟨_, rfl, bW (k1 h H' s')⟩
   | false => exact ⟨_, rfl, bH ⟨by show 1 <= sizeLine; decide, k2 h H' s'⟩⟩
def nj (r t : List Int) : List Int := r.flatMap fun x => t.map fun y => x + y
def tog (U W : List (List Int)) : List (List Int) := U.flatMap fun r => W.map fun t => nj r t
def tZ : Sp := fun vs H Q _ => ∃ (a b : Addr) (r t : List Int), vs = [.ref a, .ref b] /\ H a = some (.lst (r.map V.int)) /\ H b = some (.lst (t.map V.int)) /\ r.length <= 4 /\ t.length <= 4 /\ ∀ p H', New H H' p (.lst ((nj r t).map V.int)) -> Q (.ref p) H'
abbrev yf : Stmt := top 49
theorem Hd : FnScope ["one", "other", "found", "first"] ["one", "other"] (aF yf) := ⟨rfl, rfl, rfl, by decide +kernel, rfl, by decide +kernel, by decide +kernel⟩
theorem Hi (F : FunM K mg "sums" yf ["one", "other"]) (T : Blt mg) : Def P w K mg base "sums" ["one", "other"] 1 tZ := by
 have S := Hd
 refine Def.of F S (fun vs H Q E h => ?_) (fun f cdv A outer s H vs Q E hr h => ?_)
 ·obtain ⟨a, b, r, t, rfl, _⟩ := h
  rfl
 ·obtain ⟨a, b, r, t, rfl, ha, hb, r4, t4, k⟩ := h
  refine ⟨_, (au (aU (i := 2) S.nd rfl (Or.inl rfl) (bL pa_nil))
   (au (cX PassesOwn.never rfl (piL K (pv 0)) (aW (i := 3) S.nd rfl (Or.inr rfl))
    (aB (bw (jY PySem.F.plainAttrs_list PySem.F.slot_list_extend PySem.F.type_list_extend o9 (pv 2) (aa (bN rfl (N' := ["second", "first"]) (src := [none, some 3]) rfl (piL K (pv 1)) (fun _ _ _ _ _ => (aW (i := 0) (show (["second", "first"] : List Str).Nodup from by decide +kernel) rfl (Or.inl rfl))) (fun _ _ _ _ _ => bJ) (fun _ _ _ _ _ => (bu lH (pv 1) (pv 0)))) pa_nil bf)))))
   (aB (aN (pv 2))))), ?_⟩
  refine ⟨Nat.zero_le _, fun l hl => ?_⟩
  refine ⟨_, rfl, a, rfl, ⟨_, SqL.of (aq hl _ _ ha)⟩, dz (K := K) (a := a) (xs := r.map V.int) (fun i σ H' => ∃ o3, σ = [some (.ref a), some (.ref b), some (.ref l), o3] /\ Same H H' /\ H' l = some (.lst ((nj (r.take i) t).map V.int)))
   ⟨_, rfl, aq hl, az⟩ ?_ ?_ ?_⟩
  ·rintro i σ H4 _ ⟨_, _, s4, _⟩
   exact SqL.of (s4 _ _ ha)
  ·rintro i y σ H4 hi ⟨o3, rfl, s4, hL⟩
   have hir : i < r.length := by
    have := (List.getElem?_eq_some_iff.mp hi).1
    rwa [List.length_map] at this
   obtain ⟨x, ex, rfl⟩ : ∃ x, r[i]? = some x /\ y = V.int x := by
    rw [List.getElem?_map, List.getElem?_eq_getElem hir] at hi
    exact ⟨_, List.getElem?_eq_getElem hir, (Option.some.inj hi).symm⟩
   refine ⟨_, rfl, .inl ⟨rfl, _, SqL.of hL⟩, _, rfl, b, rfl, ⟨_, SqL.of (s4 _ _ hb)⟩, ph (fun z => x + z) (SqL.of (s4 _ _ hb)) (by omega) ?_ ?_⟩
   ·intro z hz H5 s5 Q' q
    exact ⟨_, rfl, _, rfl, _, _, rfl, rfl, q H5 (Same.refl _)⟩
   ·intro H5 s5 q hq
    have hL5 := s5 _ _ hL
    refine ⟨l, q, _, _, rfl, rfl, aq hq _ _ hL5, az, ?_, ?_⟩
    ·rw [List.length_map, List.length_map, List.length_map]
     unfold nj
     rw [q9 _ t.length (fun _ _ => by rw [List.length_map]), List.length_take]
     have h3 : min i r.length * t.length <= 4 * 4 := Nat.mul_le_mul (by omega) t4
     exact Nat.le_of_lt (aR (by omega))
    ·refine ⟨_, rfl, eE ((s4.trans s5).trans (aq hq)) hl, ?_⟩
     rw [az, List.take_add_one, ex]
     unfold nj
     rw [List.flatMap_append, List.map_append]
     simp
  ·rintro σ H4 ⟨o3, rfl, s4, hL⟩
   rw [List.length_map, List.take_of_length_le (Nat.le_refl _)] at hL
   exact ⟨_, rfl, k l H4 ⟨hl, hL, s4⟩⟩
theorem Ad (U W : List (List Int)) : (tog U W).length = U.length * W.length := by
 unfold tog
 exact q9 _ W.length fun _ _ => by rw [List.length_map]
def CQ : Sp := fun vs H Q _ => ∃ (a b : Addr) (U W : List (List Int)) (m n m' n' : Nat), vs = [.ref a, .ref b] /\ IsTab H a U /\ Good U m n /\ IsTab H b W /\ Good W m' n' /\ Good (tog U W) (m * m') (n * n') /\ ∀ p H', Same H H' -> OwnTab H H' p (tog U W) -> Q (.ref p) H'
abbrev ju : Stmt := top 50
theorem qm : FnScope ["one", "other", "found", "row"] ["one", "other"] (aF ju) := ⟨rfl, rfl, rfl, by decide +kernel, rfl, by decide +kernel, by decide +kernel⟩
theorem yR (F : FunM K mg "together" ju ["one", "other"]) (T : Blt mg) (bB : Def P w K mg base "check_table" ["thing"] 4 iV) (lQ : Def P w K mg base "sums" ["one", "other"] 1 tZ) (fP : Def P w K mg base "is_table" ["thing"] 3 rn) : Def P w K mg base "together" ["one", "other"] 5 CQ := by
 have S := qm
 refine Def.of F S (fun vs H Q E h => ?_) (fun f cdv A outer s H vs Q E hr h => ?_)
 ·obtain ⟨a, b, U, W, m, n, m', n', rfl, _⟩ := h
  rfl
 ·obtain ⟨a, b, U, W, m, n, m', n', rfl, hU, g, hW, g', gT, k⟩ := h
  have m4 := g.m4
  have n4 := g.n4
  have m4' := g'.m4
  have n4' := g'.n4
  refine ⟨_, (au (bw (aK bB (hr.mono (by decide)) rfl (aa (pv 0) pa_nil aj) (he := aj)))
   (au (bw (aK bB (hr.mono (by decide)) rfl (aa (pv 1) pa_nil aj) (he := aj)))
   (au (aU (i := 2) S.nd rfl (Or.inl rfl) (bL pa_nil))
   (au (cX PassesOwn.never rfl (piL K (pv 0)) (aW (i := 3) S.nd rfl (Or.inr rfl))
    (aB (bw (jY PySem.F.plainAttrs_list PySem.F.slot_list_extend PySem.F.type_list_extend o9 (pv 2) (aa (bN rfl (N' := ["beside", "row"]) (src := [none, some 3]) rfl (piL K (pv 1)) (fun _ _ _ _ _ => (aW (i := 0) (show (["beside", "row"] : List Str).Nodup from by decide +kernel) rfl (Or.inl rfl))) (fun _ _ _ _ _ => bJ) (fun _ _ _ _ _ => (aK lQ (hr.mono (by decide)) rfl (aa (pv 1) (aa (pv 0) pa_nil aj) aj) (he := aj)))) pa_nil bf)))))
   (au (bj (bG (bK (aK fP (hr.mono (by decide)) rfl (aa (pv 2) pa_nil aj) (he := aj))))
    (aB nH) aP)
   (aB (aN (pv 2)))))))), ?_⟩
  refine ⟨_, rfl, a, U, m, n, rfl, hU, g, fun H1 s1 => ?_⟩
  refine ⟨_, rfl, b, W, m', n', rfl, hW.mono s1, g', fun H2 s2 => ?_⟩
  refine ⟨Nat.zero_le _, fun l hl => ?_⟩
  have s12 := s1.trans s2
  obtain ⟨vs, ha, hp⟩ := hU.mono s12
  have vl : vs.length = m := by rw [hp.length, g.rows]
  refine ⟨_, rfl, a, rfl, ⟨_, SqL.of (aq hl _ _ ha)⟩, dz (K := K) (a := a) (xs := vs) (fun i σ H' => ∃ o3 xs, σ = [some (.ref a), some (.ref b), some (.ref l), o3] /\ Same H2 H' /\ H' l = some (.lst xs) /\ Paired (RowX H l H') xs (tog (U.take i) W))
   ⟨_, [], rfl, aq hl, az, .nil⟩ ?_ ?_ ?_⟩
  ·rintro i σ H4 _ ⟨_, _, _, s4, _⟩
   exact SqL.of (s4 _ _ ha)
  ·rintro i y σ H4 hi ⟨o3, xs, rfl, s4, hL, hP⟩
   obtain ⟨r, er, c, rfl, hc⟩ := hp.get2 hi
   have rm := List.mem_of_getElem? er
   have hW4 := (hW.mono s12).mono s4
   obtain ⟨ws, hb4, _⟩ := id hW4
   refine ⟨_, rfl, .inl ⟨rfl, _, SqL.of hL⟩, _, rfl, b, rfl, ⟨_, SqL.of hb4⟩, nJ (fun t => nj r t) hW4 (by rw [g'.rows]; omega) ?_ ?_⟩
   ·intro t ht d hd H5 s5 Q' q
    refine ⟨_, rfl, _, rfl, c, d, r, t, rfl, (s4.trans s5) _ _ hc, s5 _ _ hd, by rw [g.cols r rm]; exact n4, by rw [g'.cols t ht]; exact n4', fun p H6 nw => q _ H6 nw.same ⟨p, rfl, s5.free nw.new, nw.is⟩⟩
   ·intro ys H5 s5 pr q hq
    have hL5 := s5 _ _ hL
    have nql : q ≠ l := fun e => by rw [e, hL5] at hq; cases hq
    have xl : xs.length <= 16 := by
     rw [hP.length, Ad, List.length_take, g'.rows]
     have h3 : min i U.length * m' <= 4 * 4 := Nat.mul_le_mul (by rw [g.rows]; omega) m4'
     omega
    have yl : ys.length <= 4 := by rw [pr.length, List.length_map, g'.rows]; exact m4'
    refine ⟨l, q, xs, ys, rfl, rfl, aq hq _ _ hL5, az, Nat.le_of_lt (aR (by omega)), ?_⟩
    refine ⟨_, _, rfl, eE ((s4.trans s5).trans (aq hq)) hl, az, ?_⟩
    have e1 : tog (U.take (i + 1)) W = tog (U.take i) W ++ W.map fun t => nj r t := by
     unfold tog
     rw [List.take_add_one, er, List.flatMap_append]
     simp
    rw [e1]
    refine (hP.imp2 fun _ _ z => ((z.mono s5).mono (aq hq)).at).app2 (pr.imp2 fun _ _ z => ?_)
    obtain ⟨d, e, nd, hd⟩ := z
    have ndl : d ≠ l := fun z => by rw [z, hL] at nd; cases nd
    exact ⟨d, e, ndl, (s12.trans s4).free nd, by rw [aO ndl]; exact aq hq _ _ hd⟩
  ·rintro σ H4 ⟨o3, xs, rfl, s4, hL, hP⟩
   rw [vl, <- g.rows, List.take_of_length_le (Nat.le_refl _)] at hP
   have own : OwnTab H H4 l (tog U W) := ⟨xs, s12.free hl, hL, hP.imp2 fun _ _ z => z.own⟩
   refine ⟨_, rfl, l, _, m * m', n * n', rfl, own.tab, gT, fun H5 s5 => ⟨_, rfl, ?_⟩⟩
   refine bW ?_
   exact ⟨_, rfl, k l H5 ((s12.trans s4).trans s5) (own.mono s5)⟩
def sV : Sp := fun vs H Q _ => ∃ (a b : Addr) (r : List Int) (qs : List (Int × Int)), vs = [.ref a, .ref b] /\ IsFrs H a (r.map fun x => (x, 1)) /\ IsFrs H b qs /\ GQ qs /\ (∀ x ∈ r, Sz 9 x) /\ ∀ p H', New H H' p (.tup [.int (iT r qs).1, .int (iT r qs).2]) -> Q (.ref p) H'
theorem FW {r : List Int} {i : Nat} {f : Int × Int} (h : (r.map fun x => (x, (1 : Int)))[i]? = some f) : ∃ u, r[i]? = some u /\ f = (u, 1) := by
 rw [List.getElem?_map] at h
 cases e : r[i]? with
 | none => rw [e] at h; cases h
 | some x => rw [e] at h; exact ⟨x, rfl, by cases h; rfl⟩
theorem sz1 : Sz 1000 1 := (show Sz 1 1 from by unfold Sz; decide).mono (by decide)
abbrev pB : Stmt := top 10
theorem A_ : FnScope ["values", "mixture", "total", "value", "share"] ["values", "mixture"] (aF pB) := ⟨rfl, rfl, rfl, by decide +kernel, rfl, by decide +kernel, by decide +kernel⟩
theorem Bd (F : FunM K mg "weighed" pB ["values", "mixture"]) (T : Blt mg) (gU : Def P w K mg base "plus" ["one", "other"] 3 (pU K)) (uE : Def P w K mg base "times" ["one", "other"] 3 (xn K)) : Def P w K mg base "weighed" ["values", "mixture"] 4 sV := by
 have S := A_
 refine Def.of F S (fun vs H Q E h => ?_) (fun f cdv A outer s H vs Q E hr h => ?_)
 ·obtain ⟨a, b, r, qs, rfl, _⟩ := h
  rfl
 ·obtain ⟨a, b, r, qs, rfl, hU, hW, g, hb, k⟩ := h
  obtain ⟨xs, ha, pa⟩ := id hU
  obtain ⟨ys, hbb, pb⟩ := id hW
  have gz := jW hb g
  have zl := wu r g
  refine ⟨_, (au (aU (i := 2) S.nd rfl (Or.inl rfl) (cQ (aa pe_int (aa pe_int pa_nil ao) ao)))
   (au (cX PassesOwn.never rfl (Ba K rfl T.zip_ (aa (pv 0) (aa (pv 1) pa_nil aj) aj)) (pgT K (n := 2) (fH (aW (i := 3) S.nd rfl (Or.inl rfl)) (fH (aW (i := 4) S.nd rfl (Or.inl rfl)) pP)))
    (aB (aU (i := 2) S.nd rfl (Or.inl rfl) (aK gU (hr.mono (by decide)) rfl (aa (pv 2) (aa (aK uE (hr.mono (by decide)) rfl (aa (pv 3) (aa (pv 4) pa_nil aj) aj) (he := aj)) pa_nil aZ) aj) (he := aj)))))
   (aB (aN (pv 2))))), ?_⟩
  refine ⟨(by show 2 <= sizeLine; decide), fun t ht => ?_⟩
  have s1 : Same H (upd H t (.tup [.int 0, .int 1])) := aq ht
  refine ⟨_, rfl, _, rfl, a, b, rfl, ⟨_, SqL.of (s1 _ _ ha)⟩, ⟨_, SqL.of (s1 _ _ hbb)⟩, zZ (K := K) (a := a) (b := b) (xs := xs) (ys := ys) (fun i σ H' => ∃ t o1 o2, σ = [some (.ref a), some (.ref b), some (.ref t), o1, o2] /\ New H H' t (.tup [.int (Fr.mk (acc ((r.zip qs).take i)).1 (acc ((r.zip qs).take i)).2).1, .int (Fr.mk (acc ((r.zip qs).take i)).1 (acc ((r.zip qs).take i)).2).2]))
    ⟨t, _, _, rfl, ht, by rw [az, List.take_zero]; rfl, s1⟩ ?_ ?_ ?_⟩
  ·rintro i σ H' ⟨_, _, _, _, nw⟩
   exact ⟨SqL.of (nw.same _ _ ha), SqL.of (nw.same _ _ hbb)⟩
  ·rintro i x y p σ H' hx hy hp ⟨t', o1, o2, rfl, nw⟩
   obtain ⟨f1, e1, c1, rfl, h1⟩ := pa.get2 hx
   obtain ⟨u, hu, rfl⟩ := FW e1
   obtain ⟨f2, e2, c2, rfl, h2⟩ := pb.get2 hy
   have sp := nw.same.trans (aq (o := .tup [.ref c1, .ref c2]) hp)
   have mq := List.mem_of_getElem? e2
   have pq := g.pr _ mq
   have ez : (r.zip qs)[i]? = some (u, f2) := List.getElem?_zip_eq_some.mpr ⟨hu, e2⟩
   have gt := gz.take i
   have lt : ((r.zip qs).take i).length <= 8 := by rw [List.length_take]; omega
   have p0 := jA gt
   have szu := hb u (List.mem_of_getElem? hu)
   have d0 : 0 < 1 * f2.2 := by have := pq.pos; omega
   have sn : Sz 69 (u * f2.1) := szu.mul (g.s1 _ mq)
   have sd : Sz 61 (1 * f2.2) := (show Sz 1 1 from by unfold Sz; decide).mul (g.s2 _ mq)
   refine ⟨p, _, rfl, SqT.of az, rfl, _, _, rfl, _, _, rfl, rfl, ?_⟩
   refine ⟨_, rfl, _, rfl, _, rfl, c1, c2, _, _, _, _, rfl, SqT.of (sp _ _ h1), SqT.of (sp _ _ h2), (by show (0 : Int) < 1; decide), pq.pos, szu.mono (by decide), sz1, (g.s1 _ mq).mono (by decide), (g.s2 _ mq).mono (by decide), fun r1 hr' => ?_⟩
   have nr := nw.post (aq (o := .tup [.ref c1, .ref c2]) hp)
   refine ⟨t', r1, _, _, _, _, rfl, SqT.of (aq hr' _ _ nr.is), SqT.of az, Fr.mk_pos p0, Fr.mk_pos d0, ((wO gt lt).fst p0).mono (by decide), ((yG gt lt).snd p0).mono (by decide), (sn.fst d0).mono (by decide), (sd.snd d0).mono (by decide), fun r2 hr2 => ?_⟩
   have sq := sp.trans (aq (o := .tup [.int (Fr.mk (u * f2.1) (1 * f2.2)).1, .int (Fr.mk (u * f2.1) (1 * f2.2)).2]) hr')
   refine ⟨r2, _, _, rfl, ?_⟩
   rw [Ji p0 pq, xM ez]
   exact New.of sq hr2
  ·rintro σ H' ⟨t', o1, o2, rfl, nw⟩
   have l1 : (r.zip qs).take (min xs.length ys.length) = r.zip qs := List.take_of_length_le (by rw [List.length_zip, pa.length, pb.length, List.length_map]; exact Nat.le_refl _)
   rw [l1] at nw
   exact ⟨_, rfl, k t' H' nw⟩
theorem pR {H : Hp} (f : Int -> Int × Int) : ∀ {r : List Int} {ys : List V}, Paired (fun x y => ∀ i, x = V.int i -> IsFr H y (f i)) (r.map V.int) ys -> Paired (IsFr H) ys (r.map f)
 | [], _, h => by cases h; exact .nil
 | i :: r, _, h => by
  cases h with
  | cons h t => exact .cons (h i rfl) (pR f t)
theorem z_ {H H' : Hp} (f : List Int -> Int × Int) : ∀ {vs ys : List V} {T : List (List Int)}, Paired (fun x y => ∀ r, IsRow H x r -> IsFr H' y (f r)) vs ys -> Paired (IsRow H) vs T -> Paired (IsFr H') ys (T.map f)
 | _, _, _, .nil, .nil => .nil
 | _, _, _, .cons h t, .cons q u => .cons (h _ q) (z_ f t u)
theorem By {a : Addr} {T : List (List Int)} {te : TE} {σc : St} {H : Hp} {Fin : List V -> Hp -> Prop} (f : List Int -> Int × Int) (hT : IsTab H a T) (hz : T.length <= 1000)
  (hs : ∀ r ∈ T, ∀ b, H b = some (.lst (r.map V.int)) -> ∀ H1, Same H H1 -> ∀ Q : VK, (∀ y H2, Same H1 H2 -> IsFr H2 y (f r) -> Q y H2) -> te (σc.set 0 (some (.ref b))) H1 Q)
  (hd : ∀ ys H', Same H H' -> Paired (IsFr H') ys (T.map f) -> Fin ys H') : d7 (Itl K a) (ik 0) mO te σc H Fin := by
 obtain ⟨vs, ha, hp⟩ := hT
 refine bQ (xs := vs) (fun x y H' => ∀ r, IsRow H x r -> IsFr H' y (f r)) (fun _ _ _ _ s h r q => (h r q).mono s) (SqL.of ha) (by rw [hp.length]; exact Nat.le_of_lt (aR hz)) ?_ ?_
 ·intro x hx H1 s1 Q q
  obtain ⟨r, hr, hrow⟩ := hp.mem2 hx
  obtain ⟨b, rfl, hb⟩ := id hrow
  exact hs r hr b hb H1 s1 Q fun y H2 s2 ho => q _ H2 s2 fun r' h' => by rw [<- hrow.inj h']; exact ho
 ·intro ys H' s' pr
  exact hd ys H' s' (z_ f pr hp)
def tu : Sp := fun vs H Q _ => ∃ (a b : Addr) (r : List Int) (qs : List (Int × Int)), vs = [.ref a, .ref b] /\ H a = some (.lst (r.map V.int)) /\ r.length <= 1000 /\ IsFrs H b qs /\ GQ qs /\ (∀ x ∈ r, Sz 9 x) /\ ∀ p H', New H H' p (.tup [.int (iT r qs).1, .int (iT r qs).2]) -> Q (.ref p) H'
abbrev mj : Stmt := top 11
theorem yW : FnScope ["row", "mixture"] ["row", "mixture"] (aF mj) := ⟨rfl, rfl, rfl, by decide +kernel, rfl, by decide +kernel, by decide +kernel⟩
theorem y_ (F : FunM K mg "row_gets" mj ["row", "mixture"]) (T : Blt mg) (o6 : Def P w K mg base "weighed" ["values", "mixture"] 4 sV) : Def P w K mg base "row_gets" ["row", "mixture"] 5 tu := by
 have S := yW
 refine Def.of F S (fun vs H Q E h => ?_) (fun f cdv A outer s H vs Q E hr h => ?_)
 ·obtain ⟨a, b, r, qs, rfl, _⟩ := h
  rfl
 ·obtain ⟨a, b, r, qs, rfl, ha, hl, hW, g, hb, k⟩ := h
  refine ⟨_, (aB (aN (aK o6 (hr.mono (by decide)) rfl (aa (bN rfl (N' := ["number"]) (src := [none]) rfl (piL K (pv 0)) (fun _ _ _ _ _ => (aW (i := 0) (show (["number"] : List Str).Nodup from by decide +kernel) rfl (Or.inl rfl))) (fun _ _ _ _ _ => bJ) (fun _ _ _ _ _ => (cQ (aa (pv 0) (aa pe_int pa_nil ao) aj)))) (aa (pv 1) pa_nil aj) bf) (he := bf)))), ?_⟩
  refine ⟨_, rfl, a, rfl, ⟨_, SqL.of ha⟩, bQ (xs := r.map V.int) (fun x y H' => ∀ i, x = V.int i -> IsFr H' y (i, 1)) (fun _ _ _ _ s h i e => (h i e).mono s) (SqL.of ha) (by rw [List.length_map]; exact Nat.le_of_lt (aR hl)) ?_ ?_⟩
  ·intro x hx H1 s1 Q' q
   obtain ⟨i, hi, rfl⟩ := List.mem_map.mp hx
   refine ⟨_, rfl, (by show 2 <= sizeLine; decide), fun p hp => q _ _ (aq hp) fun j e => ?_⟩
   cases e
   exact ⟨p, rfl, az⟩
  ·intro ys H' s' pr p hp
   have pf := pR (fun i => (i, 1)) pr
   exact ⟨_, rfl, p, b, r, qs, rfl, ⟨ys, az, pf.imp2 fun _ _ z => z.mono (aq hp)⟩, (hW.mono s').mono (aq hp), g, hb, fun p' H2 nw => k p' H2 (nw.pre (s'.trans (aq hp)))⟩
def vD : Sp := fun vs H Q _ => ∃ (a c : Addr) (U : List (List Int)) (m n : Nat) (qs : List (Int × Int)), vs = [.ref a, .ref c] /\ IsTab H a U /\ Gd U m n /\ IsFrs H c qs /\ GQ qs /\ ∀ p H', Same H H' -> H p = none -> IsFrs H' p (U.map fun r => iT r qs) -> Q (.ref p) H'
abbrev oK : Stmt := top 12
theorem BK : FnScope ["rows", "mixture"] ["rows", "mixture"] (aF oK) := ⟨rfl, rfl, rfl, by decide +kernel, rfl, by decide +kernel, by decide +kernel⟩
theorem Bo (F : FunM K mg "all_get" oK ["rows", "mixture"]) (T : Blt mg) (m7 : Def P w K mg base "row_gets" ["row", "mixture"] 5 tu) : Def P w K mg base "all_get" ["rows", "mixture"] 6 vD := by
 have S := BK
 refine Def.of F S (fun vs H Q E h => ?_) (fun f cdv A outer s H vs Q E hr h => ?_)
 ·obtain ⟨a, c, U, m, n, qs, rfl, _⟩ := h
  rfl
 ·obtain ⟨a, c, U, m, n, qs, rfl, hU, g, hC, gc, k⟩ := h
  have m4 := g.m4
  have n4 := g.n4
  obtain ⟨vs, ha, hp⟩ := id hU
  refine ⟨_, (aB (aN (bN rfl (N' := ["row", "mixture"]) (src := [none, some 1]) rfl (piL K (pv 0)) (fun _ _ _ _ _ => (aW (i := 0) (show (["row", "mixture"] : List Str).Nodup from by decide +kernel) rfl (Or.inl rfl))) (fun _ _ _ _ _ => bJ) (fun _ _ _ _ _ => (aK m7 (hr.mono (by decide)) rfl (aa (pv 0) (aa (pv 1) pa_nil aj) aj) (he := aj)))))), ?_⟩
  refine ⟨_, rfl, a, rfl, ⟨_, SqL.of ha⟩, By (fun r => iT r qs) hU (by rw [g.rows]; omega) ?_ ?_⟩
  ·intro r hr' x hx H4 s4 Q' q
   exact ⟨_, rfl, _, rfl, x, c, r, qs, rfl, s4 _ _ hx, by rw [g.cols r hr']; omega, hC.mono s4, gc, g.sz hr', fun p H5 nw => q _ H5 nw.same ⟨p, rfl, nw.is⟩⟩
  ·intro ys H4 s4 pr p hp
   exact k p _ (s4.trans (aq hp)) (s4.free hp) ⟨ys, az, pr.imp2 fun _ _ z => z.mono (aq hp)⟩
def cols (T : List (List Int)) (n : Nat) : List (List Int) := (List.range n).map fun j => T.map fun r => r.getD j 0
def Cz : Sp := fun vs H Q _ => ∃ (a : Addr) (U : List (List Int)) (m n j : Nat), vs = [.ref a, .int j] /\ IsTab H a U /\ Gd U m n /\ j < n /\ ∀ p H', New H H' p (.lst ((U.map fun r => r.getD j 0).map V.int)) -> Q (.ref p) H'
def pY : Sp := fun vs H Q _ => ∃ (a : Addr) (U : List (List Int)) (m n : Nat), vs = [.ref a] /\ IsTab H a U /\ Gd U m n /\ ∀ p H', Same H H' -> OwnTab H H' p (cols U n) -> Q (.ref p) H'
theorem qH {U : List (List Int)} {n : Nat} {r : List Int} (h : r ∈ cols U n) : r.length = U.length := by
 unfold cols at h
 obtain ⟨j, _, rfl⟩ := List.mem_map.mp h
 rw [List.length_map]
theorem nQ (U : List (List Int)) (n : Nat) : (cols U n).length = n := by
 unfold cols
 rw [List.length_map, List.length_range]
theorem map_getD {α : Type} (f : List Int -> α) (U : List (List Int)) (d : α) {i : Nat} (h : i < U.length) : (U.map f).getD i d = f (U.getD i []) := by
 rw [List.getD_eq_getElem?_getD, List.getElem?_map, List.getElem?_eq_getElem h, List.getD_eq_getElem?_getD, List.getElem?_eq_getElem h]
 rfl
abbrev lz : Stmt := top 45
theorem yd : FnScope ["table", "column"] ["table", "column"] (aF lz) := ⟨rfl, rfl, rfl, by decide +kernel, rfl, by decide +kernel, by decide +kernel⟩
theorem xT (F : FunM K mg "column_of" lz ["table", "column"]) (T : Blt mg) : Def P w K mg base "column_of" ["table", "column"] 1 Cz := by
 have S := yd
 refine Def.of F S (fun vs H Q E h => ?_) (fun f cdv A outer s H vs Q E hr h => ?_)
 ·obtain ⟨a, U, m, n, j, rfl, _⟩ := h
  rfl
 ·obtain ⟨a, U, m, n, j, rfl, hU, g, hj, k⟩ := h
  have m4 := g.m4
  obtain ⟨vs, ha, hp⟩ := id hU
  refine ⟨_, (aB (aN (bN rfl (N' := ["row", "column"]) (src := [none, some 1]) rfl (piL K (pv 0)) (fun _ _ _ _ _ => (aW (i := 0) (show (["row", "column"] : List Str).Nodup from by decide +kernel) rfl (Or.inl rfl))) (fun _ _ _ _ _ => bJ) (fun _ _ _ _ _ => (aV (ixL K) (pv 0) (pv 1) (fun _ _ => rfl)))))), ?_⟩
  refine ⟨_, rfl, a, rfl, ⟨_, SqL.of ha⟩, oG (fun r => r.getD j 0) hU (by rw [g.rows]; omega) ?_ ?_⟩
  ·intro r hr' b hb H1 s1 Q' q
   exact ⟨_, rfl, _, rfl, b, _, _, _, rfl, rfl, SqL.of (s1 _ _ hb), pQ (by rw [g.cols r hr']; exact hj), q H1 (Same.refl _)⟩
  ·intro H' s' p hp'
   exact k p _ (New.of s' hp')
abbrev jJ : Stmt := top 46
theorem vR : FnScope ["table"] ["table"] (aF jJ) := ⟨rfl, rfl, rfl, by decide +kernel, rfl, by decide +kernel, by decide +kernel⟩
theorem vU (F : FunM K mg "columns_of" jJ ["table"]) (T : Blt mg) (kY : Def P w K mg base "column_of" ["table", "column"] 1 Cz) : Def P w K mg base "columns_of" ["table"] 2 pY := by
 have S := vR
 refine Def.of F S (fun vs H Q E h => ?_) (fun f cdv A outer s H vs Q E hr h => ?_)
 ·obtain ⟨a, U, m, n, rfl, _⟩ := h
  rfl
 ·obtain ⟨a, U, m, n, rfl, hU, g, k⟩ := h
  have n4 := g.n4
  obtain ⟨vs, b0, ha, h0, at0, hb0⟩ := hU.row (i := 0) (by rw [g.rows]; exact g.m1)
  have hl : ((U.getD 0 []).map V.int).length = n := by rw [List.length_map, (g.row g.m1).2]
  refine ⟨_, (aB (aN (bN rfl (N' := ["column", "table"]) (src := [none, some 0]) rfl (kj rfl T.range_ (aa (aJ (bZ K) (by rfl) T.len_ bC (aa (aV (ixL K) (pv 0) pe_int (fun _ _ => rfl)) pa_nil aH) (he := aH)) pa_nil aZ)) (fun _ _ _ _ _ => (aW (i := 0) (show (["column", "table"] : List Str).Nodup from by decide +kernel) rfl (Or.inl rfl))) (fun _ _ _ _ _ => bJ) (fun _ _ _ _ _ => (aK kY (hr.mono (by decide)) rfl (aa (pv 1) (aa (pv 0) pa_nil aj) aj) (he := aj)))))), ?_⟩
  refine ⟨_, rfl, a, vs, 0, _, rfl, rfl, SqL.of ha, at0, b0, _, rfl, .inl (SqL.of hb0), _, rfl, by omega, by omega, kO (n := ((U.getD 0 []).map V.int).length) (fun (i : Nat) y H' => OwnRow H H' y (U.map fun (r : List Int) => r.getD i 0)) (fun _ _ _ _ s h => h.mono s) (Nat.le_of_lt (aR (by omega))) ?_ ?_⟩
  ·intro i hi H1 s1 Q' q
   exact ⟨_, rfl, _, rfl, a, U, m, n, i, rfl, hU.mono s1, g, by omega, fun p H2 nw => q _ H2 nw.same ⟨p, rfl, s1.free nw.new, nw.is⟩⟩
  ·intro ys H' s' pr p hp'
   rw [hl] at pr
   exact k p _ (s'.trans (aq hp')) (OwnTab.lay s' hp' (vH _ pr))
theorem Ef {U : List (List Int)} {r : List Int} (h : r ∈ U) : ∃ i, i < U.length /\ U.getD i [] = r := by
 obtain ⟨i, hi, e⟩ := List.mem_iff_getElem.mp h
 exact ⟨i, hi, by rw [List.getD_eq_getElem?_getD, List.getElem?_eq_getElem hi]; exact e⟩
def trn (U : List (List Int)) (n : Nat) : List (List Int) := (cols U n).map fun c => c.map fun x => -x
theorem zK (U : List (List Int)) (n : Nat) : (trn U n).length = n := by
 unfold trn
 rw [List.length_map, nQ]
theorem Hg {U : List (List Int)} {n i : Nat} (h : i < n) : (trn U n).getD i [] = U.map fun r => -(r.getD i 0) := by
 unfold trn cols
 rw [List.map_map]
 refine Hz ?_
 rw [List.getElem?_map, List.getElem?_eq_getElem (by simpa using h)]
 simp
theorem G_ {U : List (List Int)} {m n i j : Nat} (g : Gd U m n) (hi : i < n) (hj : j < m) : ((trn U n).getD i []).getD j 0 = -((U.getD j []).getD i 0) := by
 rw [Hg hi, map_getD _ U 0 (by rw [g.rows]; exact hj)]
theorem yt {U : List (List Int)} {m n : Nat} (g : Gd U m n) : Gd (trn U n) n m := by
 refine ⟨g.n1, g.n4, g.m1, g.m4, zK U n, fun r hr => ?_, fun r hr x hx => ?_⟩
 ·obtain ⟨c, hc, rfl⟩ := List.mem_map.mp hr
  rw [List.length_map, qH hc, g.rows]
 ·obtain ⟨c, hc, rfl⟩ := List.mem_map.mp hr
  obtain ⟨y, hy, rfl⟩ := List.mem_map.mp hx
  unfold cols at hc
  obtain ⟨j, hj, rfl⟩ := List.mem_map.mp hc
  obtain ⟨r, hr', rfl⟩ := List.mem_map.mp hy
  have hj' : j < r.length := by rw [g.cols r hr']; exact List.mem_range.mp hj
  have := g.num r hr' (r.getD j 0) (by rw [List.getD_eq_getElem?_getD, List.getElem?_eq_getElem hj']; exact List.getElem_mem hj')
  omega
def zT : Sp := fun vs H Q _ => ∃ (a : Addr) (U : List (List Int)) (m n : Nat), vs = [.ref a] /\ IsTab H a U /\ Gd U m n /\ ∀ p H', Same H H' -> OwnTab H H' p (trn U n) -> Q (.ref p) H'
abbrev fV : Stmt := top 47
theorem oV : FnScope ["table", "found", "column"] ["table"] (aF fV) := ⟨rfl, rfl, rfl, by decide +kernel, rfl, by decide +kernel, by decide +kernel⟩
theorem o7 (F : FunM K mg "from_other_side" fV ["table"]) (T : Blt mg) (cD : Def P w K mg base "columns_of" ["table"] 2 pY) : Def P w K mg base "from_other_side" ["table"] 3 zT := by
 have S := oV
 refine Def.of F S (fun vs H Q E h => ?_) (fun f cdv A outer s H vs Q E hr h => ?_)
 ·obtain ⟨a, U, m, n, rfl, _⟩ := h
  rfl
 ·obtain ⟨a, U, m, n, rfl, hU, g, k⟩ := h
  have m4 := g.m4
  have n4 := g.n4
  refine ⟨_, (au (aU (i := 1) S.nd rfl (Or.inl rfl) (bL pa_nil))
   (au (cX PassesOwn.never rfl (piL K (aK cD (hr.mono (by decide)) rfl (aa (pv 0) pa_nil aj) (he := aj))) (aW (i := 2) S.nd rfl (Or.inl rfl))
    (aB (bw (jY PySem.F.plainAttrs_list PySem.F.slot_list_append PySem.F.type_list_append jf (pv 1) (aa (bN rfl (N' := ["number"]) (src := [none]) rfl (piL K (pv 2)) (fun _ _ _ _ _ => (aW (i := 0) (show (["number"] : List Str).Nodup from by decide +kernel) rfl (Or.inl rfl))) (fun _ _ _ _ _ => bJ) (fun _ _ _ _ _ => (tG oW (pv 0)))) pa_nil bf)))))
   (aB (aN (pv 1))))), ?_⟩
  have s1 : Same H H := Same.refl _
  refine ⟨Nat.zero_le _, fun l hl => ?_⟩
  have hl1 : H l = none := hl
  have sl := aq (o := .lst []) hl
  have hll : upd H l (.lst []) l = some (.lst []) := az
  generalize upd H l (.lst []) = H2 at sl hll ⊢
  refine ⟨_, rfl, a, U, m, n, rfl, hU.mono (s1.trans sl), g, fun p H3 s3 own => ?_⟩
  obtain ⟨ws, hpn, hp, hw⟩ := own
  have npl : p ≠ l := fun e => by rw [e, hll] at hpn; cases hpn
  have wl : ws.length = n := by rw [hw.length, nQ]
  have hL3 := s3 _ _ hll
  refine ⟨p, rfl, ⟨_, SqL.of hp⟩, dz (K := K) (a := p) (xs := ws) (fun i σ H' => ∃ o2 xs, σ = [some (.ref a), some (.ref l), o2] /\ Same H H' /\ SameX l H3 H' /\ H' l = some (.lst xs) /\ Paired (RowX H l H') xs ((trn U n).take i))
   ⟨_, [], rfl, sl.trans s3, SameX.refl, hL3, by simpa using Paired.nil⟩ ?_ ?_ ?_⟩
  ·rintro i σ H4 _ ⟨_, _, _, _, sx, _⟩
   exact SqL.of (sx _ _ npl hp)
  ·rintro i y σ H4 hi ⟨o2, xs, rfl, s4, sx, hL, hP⟩
   obtain ⟨c, ec, b, rfl, hbn, hb⟩ := hw.get2 hi
   have nbl : b ≠ l := fun e => by rw [e, hll] at hbn; cases hbn
   have hb4 := sx _ _ nbl hb
   have cl : c.length = m := by rw [qH (List.mem_of_getElem? ec), g.rows]
   have hin : i < n := by rw [<- wl]; exact (List.getElem?_eq_some_iff.mp hi).1
   refine ⟨_, rfl, .inl ⟨rfl, _, SqL.of hL⟩, _, rfl, b, rfl, ⟨_, SqL.of hb4⟩, ph (fun x => -x) (SqL.of hb4) (by omega) ?_ ?_⟩
   ·intro x hx H5 s5 Q' q
    exact ⟨_, rfl, _, rfl, q H5 (Same.refl _)⟩
   ·intro H5 s5 q hq
    have hL5 := s5 _ _ hL
    have nql : q ≠ l := fun e => by rw [e, hL5] at hq; cases hq
    have xl : xs.length <= 4 := by rw [hP.length, List.length_take]; omega
    refine ⟨l, xs, .ref q, rfl, rfl, aq hq _ _ hL5, aR (by omega), ?_⟩
    refine ⟨_, _, rfl, eE ((s4.trans s5).trans (aq hq)) hl1, ((sx.then s5).then (aq hq)).at, az, ?_⟩
    have et : (trn U n)[i]? = some (c.map fun x => -x) := by
     unfold trn
     rw [List.getElem?_map, ec]
     rfl
    rw [List.take_add_one, et]
    refine (hP.imp2 fun _ _ z => ((z.mono s5).mono (aq hq)).at).app2 (.cons ⟨q, rfl, nql, ((s1.trans s4).trans s5).free hq, ?_⟩ .nil)
    rw [aO nql, az]
  ·rintro σ H4 ⟨o2, xs, rfl, s4, sx, hL, hP⟩
   rw [wl, List.take_of_length_le (by rw [zK]; exact Nat.le_refl _)] at hP
   exact ⟨_, rfl, k l H4 (s1.trans s4) ⟨xs, s1.free hl1, hL, hP.imp2 fun _ _ z => z.own⟩⟩
structure Sqr (M : List (List Int)) (t : Nat) : Prop where
 rows : M.length = t
 cols : ∀ r ∈ M, r.length = t
 num : ∀ r ∈ M, ∀ x ∈ r, Sz 9 x
theorem GK {s : Nat} {f : Nat -> Int} : ∀ n, (∀ j, j < n -> Sz s (f j)) -> Sz (s + n) (Gm.sm n f)
 | 0, _ => by
  unfold Sz
  exact Nat.pow_pos (by decide)
 | n + 1, h => ((GK n fun j hj => h j (by omega)).add ((h n (by omega)).mono (by omega)) : Sz (s + n + 1) _)
theorem Gq (c : Nat) : Sz 1 (Gm.sg c) := by
 unfold Gm.sg Sz
 split <;> decide
theorem uL {M : List (List Int)} {t : Nat} (g : Sqr M (t + 1)) {c : Nat} (hc : c < t + 1) : Sqr ((M.drop 1).map fun r => Gm.cut r c) t := by
 refine ⟨by rw [List.length_map, List.length_drop, g.rows]; omega, fun r hr => ?_, fun r hr x hx => ?_⟩
 ·obtain ⟨r0, h0, rfl⟩ := List.mem_map.mp hr
  have := g.cols r0 (List.mem_of_mem_drop h0)
  unfold Gm.cut
  rw [List.length_append, List.length_take, List.length_drop, this]
  omega
 ·obtain ⟨r0, h0, rfl⟩ := List.mem_map.mp hr
  unfold Gm.cut at hx
  rcases List.mem_append.mp hx with h | h
  ·exact g.num r0 (List.mem_of_mem_drop h0) x (List.mem_of_mem_take h)
  ·exact g.num r0 (List.mem_of_mem_drop h0) x (List.mem_of_mem_drop h)
theorem zX {r : List Int} (h : ∀ x ∈ r, Sz 9 x) (j : Nat) : Sz 9 (r.getD j 0) := by
 rw [List.getD_eq_getElem?_getD]
 cases e : r[j]? with
 | none => show Sz 9 0; unfold Sz; decide
 | some x => exact h x (List.mem_of_getElem? e)
theorem jP : ∀ (t : Nat) (M : List (List Int)), t <= 4 -> Sqr M t -> Sz (14 * t + 2) (Gm.detN t M)
 | 0, M, _, _ => by
  show Sz 2 1
  unfold Sz; decide
 | t + 1, M, ht, g => by
  have h : ∀ c, c < t + 1 -> Sz (14 * t + 12) (Gm.sg c * (M.getD 0 []).getD c 0 * Gm.detN t ((M.drop 1).map fun r => Gm.cut r c)) := fun c hc => by
   have h0 : 0 < M.length := by rw [g.rows]; omega
   have hr : M.getD 0 [] ∈ M := by rw [List.getD_eq_getElem?_getD, List.getElem?_eq_getElem h0]; exact List.getElem_mem h0
   have := ((Gq c).mul (zX (g.num _ hr) c)).mul (jP t _ (by omega) (uL g hc))
   exact this.mono (by omega)
  exact (GK (t + 1) h).mono (by omega)
def tO (k : Nat) : Sp := fun vs H Q _ => ∃ (a : Addr) (M : List (List Int)) (t : Nat), t < k /\ vs = [.ref a] /\ IsTab H a M /\ Sqr M t /\ ∀ H', Same H H' -> Q (.int (Gm.detN t M)) H'
theorem Ib (c : Nat) : Gm.sg (c + 1) = - Gm.sg c := by
 unfold Gm.sg
 by_cases h : c % 2 = 0
 ·rw [if_neg (by omega), if_pos h]
 ·rw [if_pos (by omega), if_neg h]; rfl
theorem Ak {r : List Int} {c : Nat} (h : c < r.length) : dJ (r.map V.int) none (some (c : Int)) ++ dJ (r.map V.int) (some ((c : Int) + 1)) none = (Gm.cut r c).map V.int := by
 rw [wU (by omega) (by rw [List.length_map]; omega), mU (by omega) (by rw [List.length_map]; omega)]
 unfold Gm.cut
 rw [List.map_append, List.map_take, List.map_drop, Int.toNat_natCast, show ((c : Int) + 1).toNat = c + 1 by omega]
theorem Dn {x : Str} {st : Stmt} {ps : List Str} (F : FunM K mg x st ps) : Def P w K mg base x ps 0 (fun _ _ _ _ => False) := by
 obtain ⟨f, fd, F1, hm, hb⟩ := F.ex
 exact ⟨f, fd, ⟨fun _ _ _ _ h => h.elim, fun _ _ _ _ _ _ _ _ _ _ _ _ _ h => h.elim⟩, hm, F1.kp, hb⟩
abbrev gH : Stmt := top 14
theorem uH : FnScope ["square", "total", "sign", "column", "rest"] ["square"] (aF gH) := ⟨rfl, rfl, rfl, by decide +kernel, rfl, by decide +kernel, by decide +kernel⟩
theorem jU (F : FunM K mg "determinant" gH ["square"]) (T : Blt mg) (j k : Nat) (hk : k <= 4) (dq : Def P w K mg base "determinant" ["square"] j (tO k)) : Def P w K mg base "determinant" ["square"] (j + 1) (tO (k + 1)) := by
 have S := uH
 refine Def.of F S (fun vs H Q E h => ?_) (fun f cdv A outer s H vs Q E hr h => ?_)
 ·obtain ⟨a, M, t, _, rfl, _⟩ := h
  rfl
 ·obtain ⟨a, M, t, ht, rfl, hM, g, kk⟩ := h
  obtain ⟨vs, ha, hp⟩ := id hM
  have vl : vs.length = t := by rw [hp.length, g.rows]
  refine ⟨_, (au (bj (aX bR (aJ (bZ K) (by rfl) T.len_ bC (aa (pv 0) pa_nil aj) (he := aj)) pe_int (aQ _))
    (aB (aN pe_int)) aP)
   (au (aU (i := 1) S.nd rfl (Or.inl rfl) pe_int)
   (au (aU (i := 2) S.nd rfl (Or.inl rfl) pe_int)
   (au (cX PassesOwn.never rfl (kj rfl T.range_ (aa (aJ (bZ K) (by rfl) T.len_ bC (aa (pv 0) pa_nil aj) (he := aj)) pa_nil aZ)) (aW (i := 3) S.nd rfl (Or.inr rfl))
    (au (Aa (i := 4) rfl S.nd rfl rfl (N' := ["row", "column"]) (src := [none, some 3]) rfl (piL K (iU (slL K) (pv 0) (jC pe_int) jD)) (fun _ _ _ _ _ => (aW (i := 0) (show (["row", "column"] : List Str).Nodup from by decide +kernel) rfl (Or.inl rfl))) (fun _ _ _ _ _ => bJ) (fun _ _ _ _ _ => (bu fj (iU (slL K) (pv 0) jD (jC (pv 1))) (iU (slL K) (pv 0) (jC (bu lH (pv 1) pe_int)) jD))))
   (au (aU (i := 1) S.nd rfl (Or.inl rfl) (bu lH (pv 1) (bu dF (bu dF (pv 2) (aV (ixL K) (aV (ixL K) (pv 0) pe_int (fun _ _ => rfl)) (pv 3) (fun _ _ => rfl))) (aK dq (hr.mono (by omega)) rfl (aa (pv 4) pa_nil aj) (he := aj)))))
   (aB (aU (i := 2) S.nd rfl (Or.inl rfl) (tG oW (pv 2)))))))
   (aB (aN (pv 1))))))), ?_⟩
  refine ⟨_, rfl, a, vs, rfl, .inl (SqL.of ha), rfl, _, rfl, ?_⟩
  cases t with
  | zero =>
   refine ifP (by rw [vl]; rfl) ?_
   exact kk H (Same.refl _)
  | succ t =>
   refine ifN (by rw [vl]; simp; omega) ?_
   refine ⟨_, rfl, a, vs, rfl, .inl (SqL.of ha), _, rfl, by omega, by omega, uM (n := vs.length) (fun i σ H' => ∃ o3 o4, σ = [some (.ref a), some (.int (Gm.sm i fun c => Gm.sg c * (M.getD 0 []).getD c 0 * Gm.detN t ((M.drop 1).map fun r => Gm.cut r c))), some (.int (Gm.sg i)), o3, o4] /\ Same H H')
    ⟨_, _, rfl, Same.refl _⟩ ?_ ?_⟩
   ·rintro i σ H1 hi ⟨o3, o4, rfl, s1⟩
    rw [vl] at hi
    have ei : (0 : Int) + (i : Int) = (i : Int) := by omega
    rw [ei]
    have hp1 := hp.imp2 fun _ _ z => z.mono s1
    refine ⟨_, rfl, _, rfl, a, vs, rfl, SqL.of (s1 _ _ ha), fun q hq => ?_⟩
    have ed : dJ vs (some 1) none = vs.drop 1 := mU (k := 1) (by decide) (by rw [vl]; omega)
    rw [ed]
    have hR : IsTab (upd H1 q (.lst (vs.drop 1))) q (M.drop 1) := IsTab.drop1 hq hp1
    have s2 : Same H1 (upd H1 q (.lst (vs.drop 1))) := aq hq
    generalize upd H1 q (.lst (vs.drop 1)) = H2 at hR s2 ⊢
    obtain ⟨ws, hqw, _⟩ := id hR
    refine ⟨q, rfl, ⟨_, SqL.of hqw⟩, nJ (fun r => Gm.cut r i) hR (by rw [List.length_drop, g.rows]; omega) ?_ ?_⟩
    ·intro r hr' b hb H3 s3 Q' q'
     have rl : i < r.length := by rw [g.cols r (List.mem_of_mem_drop hr')]; exact hi
     refine ⟨_, rfl, _, rfl, _, rfl, b, _, rfl, SqL.of (s3 _ _ hb), fun q1 hq1 => ?_⟩
     refine ⟨_, rfl, _, rfl, _, _, rfl, rfl, _, rfl, b, _, rfl, SqL.of (aq hq1 _ _ (s3 _ _ hb)), fun q2 hq2 => ?_⟩
     have g1 := aq (o := .lst (dJ (r.map V.int) (some ((i : Int) + 1)) none)) hq2 _ _ (az (H := H3) (a := q1) (o := .lst (dJ (r.map V.int) none (some (i : Int)))))
     refine ⟨q1, q2, _, _, rfl, rfl, g1, az, ?_, fun q3 hq3 => ?_⟩
     ·rw [<- List.length_append, Ak rl, List.length_map]
      unfold Gm.cut
      rw [List.length_append, List.length_take, List.length_drop]
      have := g.cols r (List.mem_of_mem_drop hr')
      exact Nat.le_of_lt (aR (by omega))
     ·rw [Ak rl]
      have s5 := (aq (o := .lst (dJ (r.map V.int) none (some (i : Int)))) hq1).trans (aq (o := .lst (dJ (r.map V.int) (some ((i : Int) + 1)) none)) hq2)
      exact q' _ _ (s5.trans (aq hq3)) ⟨q3, rfl, (s3.trans s5).free hq3, az⟩
    ·intro ys H3 s3 pr p3 hp3
     have hN := (OwnTab.lay s3 hp3 pr).tab
     have s4 : Same H2 (upd H3 p3 (.lst ys)) := s3.trans (aq hp3)
     generalize upd H3 p3 (.lst ys) = H4 at hN s4 ⊢
     have s14 := (s1.trans s2).trans s4
     have h0M : 0 < M.length := by rw [g.rows]; omega
     obtain ⟨vs', b0, ha0, h0, at0, hb0⟩ := (hM.mono s14).row (i := 0) h0M
     have hr0 : M.getD 0 [] ∈ M := by rw [List.getD_eq_getElem?_getD, List.getElem?_eq_getElem h0M]; exact List.getElem_mem h0M
     have c0 : i < (M.getD 0 []).length := by rw [g.cols _ hr0]; exact hi
     have z1 := (Gq i)
     have z2 := zX (g.num _ hr0) i
     have gm := uL g hi
     have z3 := jP t _ (by omega) gm
     have z4 := z1.mul z2
     refine ⟨_, rfl, _, rfl, _, rfl, a, _, 0, _, rfl, rfl, SqL.of ha0, at0, _, rfl, b0, _, _, _, rfl, rfl, SqL.of hb0, pQ c0, _, _, rfl, rfl, ⟨up z1, z2.mono (by decide)⟩, ?_⟩
     refine ⟨_, rfl, p3, _, t, by omega, rfl, hN, gm, fun H5 s5 => ?_⟩
     refine ⟨_, _, rfl, rfl, ⟨z4.mono (by decide), z3.mono (by omega)⟩, _, _, rfl, rfl, ?_⟩
     refine ⟨_, rfl, _, rfl, some (.int (i : Int)), some (.ref p3), ?_, s14.trans s5⟩
     rw [Ib]
     rfl
   ·rintro σ H1 ⟨o3, o4, rfl, s1⟩
    rw [vl]
    exact ⟨_, rfl, kk H1 s1⟩
def Ai : Sp := tO 5
theorem uw (F : FunM K mg "determinant" gH ["square"]) (T : Blt mg) : Def P w K mg base "determinant" ["square"] 5 Ai := by
 have d0 : Def P w K mg base "determinant" ["square"] 0 (tO 0) := by
  obtain ⟨f, fd, F1, hm, hk, hb⟩ := (Dn (P := P) (w := w) (base := base) F).ex
  exact ⟨f, fd, F1.imp fun _ _ _ _ ⟨_, _, _, h, _⟩ => absurd h (Nat.not_lt_zero _), hm, hk, hb⟩
 exact jU F T 4 4 (by decide) (jU F T 3 3 (by decide) (jU F T 2 2 (by decide) (jU F T 1 1 (by decide) (jU F T 0 0 (by decide) d0))))
def xx : Sp := fun vs H Q _ => ∃ (a b : Addr) (M : List (List Int)) (t c : Nat) (xs : List Int), vs = [.ref a, .int c, .ref b] /\ IsTab H a M /\ Sqr M t /\ t <= 4 /\ c < t /\ H b = some (.lst (xs.map V.int)) /\ xs.length = t /\ ∀ p H', Same H H' -> OwnTab H H' p (Gm.withC M c xs) -> Q (.ref p) H'
theorem Hx {r : List Int} {c : Nat} {x : Int} (h : c < r.length) : (Gm.putC r c x).length = r.length := by
 unfold Gm.putC
 rw [List.length_append, List.length_append, List.length_take, List.length_drop, List.length_singleton]
 omega
abbrev jo : Stmt := top 15
theorem uJ : FnScope ["square", "column", "numbers"] ["square", "column", "numbers"] (aF jo) := ⟨rfl, rfl, rfl, by decide +kernel, rfl, by decide +kernel, by decide +kernel⟩
theorem tY (F : FunM K mg "with_column" jo ["square", "column", "numbers"]) (T : Blt mg) : Def P w K mg base "with_column" ["square", "column", "numbers"] 1 xx := by
 have S := uJ
 refine Def.of F S (fun vs H Q E h => ?_) (fun f cdv A outer s H vs Q E hr h => ?_)
 ·obtain ⟨a, b, M, t, c, xs, rfl, _⟩ := h
  rfl
 ·obtain ⟨a, b, M, t, c, xs, rfl, hM, g, t4, hc, hb, xl, kk⟩ := h
  obtain ⟨vs, ha, hp⟩ := id hM
  have vl : vs.length = t := by rw [hp.length, g.rows]
  refine ⟨_, (aB (aN (bN rfl (N' := ["row", "number", "column"]) (src := [none, none, some 1]) rfl (Ba K rfl T.zip_ (aa (pv 0) (aa (pv 2) pa_nil aj) aj)) (fun _ _ _ _ _ => (pgT K (n := 2) (fH (aW (i := 0) (show (["row", "number", "column"] : List Str).Nodup from by decide +kernel) rfl (Or.inl rfl)) (fH (aW (i := 1) (show (["row", "number", "column"] : List Str).Nodup from by decide +kernel) rfl (Or.inl rfl)) pP)))) (fun _ _ _ _ _ => bJ) (fun _ _ _ _ _ => (bu fj (bu fj (iU (slL K) (pv 0) jD (jC (pv 2))) (bL (aa (pv 1) pa_nil aj))) (iU (slL K) (pv 0) (jC (bu lH (pv 2) pe_int)) jD)))))), ?_⟩
  refine ⟨_, rfl, _, rfl, a, b, rfl, ⟨_, SqL.of ha⟩, ⟨_, SqL.of hb⟩, Eu (xs := vs) (ys := xs.map V.int) (fun i zs H' => Same H H' /\ Paired (OwnRow H H') zs ((Gm.withC M c xs).take i)) ⟨Same.refl _, by simpa using Paired.nil⟩ ?_ (by rw [vl]; exact Nat.le_of_lt (aR (by omega))) ?_ ?_⟩
  ·rintro i zs H' ⟨s1, pr⟩
   refine ⟨SqL.of (s1 _ _ ha), SqL.of (s1 _ _ hb), ?_⟩
   rw [pr.length, List.length_take]
   omega
  ·rintro i x y p' zs H' hx hy hp' ⟨s1, pr⟩
   obtain ⟨r, er, b1, rfl, hb1⟩ := hp.get2 hx
   rw [List.getElem?_map] at hy
   obtain ⟨y', ey, rfl⟩ : ∃ y', xs[i]? = some y' /\ y = V.int y' := by
    cases e : xs[i]? with
    | none => rw [e] at hy; cases hy
    | some z => rw [e] at hy; exact ⟨z, rfl, by cases hy; rfl⟩
   have rl : c < r.length := by rw [g.cols r (List.mem_of_getElem? er)]; exact hc
   have s2 := s1.trans (aq (o := .tup [.ref b1, .int y']) hp')
   refine ⟨p', _, rfl, SqT.of az, rfl, _, _, rfl, _, _, rfl, rfl, ?_⟩
   refine JK ?_
   have t2 : Same H' (upd H' p' (.tup [.ref b1, .int y'])) := aq hp'
   generalize upd H' p' (.tup [.ref b1, .int y']) = H2 at s2 t2 ⊢
   have k1 : dJ (r.map V.int) none (some (c : Int)) = (r.take c).map V.int := by
    rw [wU (by omega) (by rw [List.length_map]; omega), List.map_take, Int.toNat_natCast]
   have k2 : dJ (r.map V.int) (some ((c : Int) + 1)) none = (r.drop (c + 1)).map V.int := by
    rw [mU (by omega) (by rw [List.length_map]; omega), List.map_drop, show ((c : Int) + 1).toNat = c + 1 by omega]
   have rt := g.cols r (List.mem_of_getElem? er)
   refine ⟨_, rfl, _, rfl, _, rfl, b1, _, rfl, SqL.of (s2 _ _ hb1), fun q1 hq1 => ?_⟩
   rw [k1]
   have s3 := s2.trans (aq (o := .lst ((r.take c).map V.int)) hq1)
   have t3 := t2.trans (aq (o := .lst ((r.take c).map V.int)) hq1)
   have e1 : upd H2 q1 (.lst ((r.take c).map V.int)) q1 = some (.lst ((r.take c).map V.int)) := az
   generalize upd H2 q1 (.lst ((r.take c).map V.int)) = H3 at s3 t3 e1 ⊢
   refine ⟨_, rfl, (by show 1 <= sizeLine; decide), fun q2 hq2 => ?_⟩
   have s4 := s3.trans (aq (o := .lst [.int y']) hq2)
   have t4 := t3.trans (aq (o := .lst [.int y']) hq2)
   have e2 : upd H3 q2 (.lst [.int y']) q2 = some (.lst [.int y']) := az
   have e1' := aq (o := .lst [.int y']) hq2 _ _ e1
   generalize upd H3 q2 (.lst [.int y']) = H4 at s4 t4 e2 e1' ⊢
   refine ⟨q1, q2, _, _, rfl, rfl, e1', e2, (by rw [List.length_map, List.length_take, List.length_singleton]; exact Nat.le_of_lt (aR (by omega))), fun q3 hq3 => ?_⟩
   have s5 := s4.trans (aq (o := .lst ((r.take c).map V.int ++ [.int y'])) hq3)
   have t5 := t4.trans (aq (o := .lst ((r.take c).map V.int ++ [.int y'])) hq3)
   have e3 : upd H4 q3 (.lst ((r.take c).map V.int ++ [.int y'])) q3 = some (.lst ((r.take c).map V.int ++ [.int y'])) := az
   generalize upd H4 q3 (.lst ((r.take c).map V.int ++ [.int y'])) = H5 at s5 t5 e3 ⊢
   refine ⟨_, rfl, _, rfl, _, _, rfl, rfl, _, rfl, b1, _, rfl, SqL.of (s5 _ _ hb1), fun q4 hq4 => ?_⟩
   rw [k2]
   have s6 := s5.trans (aq (o := .lst ((r.drop (c + 1)).map V.int)) hq4)
   have t6 := t5.trans (aq (o := .lst ((r.drop (c + 1)).map V.int)) hq4)
   have e3' := aq (o := .lst ((r.drop (c + 1)).map V.int)) hq4 _ _ e3
   refine ⟨q3, q4, _, _, rfl, rfl, e3', az, (by rw [List.length_append, List.length_map, List.length_map, List.length_take, List.length_drop, List.length_singleton]; exact Nat.le_of_lt (aR (by omega))), fun q5 hq5 => ?_⟩
   have er' : (r.take c).map V.int ++ [V.int y'] ++ (r.drop (c + 1)).map V.int = (Gm.putC r c y').map V.int := by
    unfold Gm.putC
    rw [List.map_append, List.map_append]
    rfl
   rw [er']
   have s7 := s6.trans (aq (o := .lst ((Gm.putC r c y').map V.int)) hq5)
   refine ⟨s7, ?_⟩
   have et : (Gm.withC M c xs)[i]? = some (Gm.putC r c y') := by
    unfold Gm.withC
    rw [List.getElem?_zipWith, er, ey]
   rw [List.take_add_one, et]
   have t7 := t6.trans (aq (o := .lst ((Gm.putC r c y').map V.int)) hq5)
   exact (pr.imp2 fun _ _ z => z.mono t7).app2 (.cons ⟨q5, rfl, s6.free hq5, az⟩ .nil)
  ·rintro zs H' ⟨s1, pr⟩ q hq
   rw [List.take_of_length_le (by unfold Gm.withC; rw [List.length_zipWith, List.length_map, vl, g.rows]; omega)] at pr
   exact kk q _ (s1.trans (aq hq)) (OwnTab.lay s1 hq pr)
theorem je {M : List (List Int)} {t c : Nat} {xs : List Int} (g : Sqr M t) (hc : c < t) (xl : xs.length = t) (hx : ∀ x ∈ xs, Sz 9 x) : Sqr (Gm.withC M c xs) t := by
 unfold Gm.withC
 refine ⟨by rw [List.length_zipWith, g.rows, xl, Nat.min_self], fun r hr => ?_, fun r hr x hx' => ?_⟩
 ·obtain ⟨i, hi, rfl⟩ := List.mem_iff_getElem.mp hr
  rw [List.getElem_zipWith]
  have hm : M[i]'(by rw [List.length_zipWith] at hi; omega) ∈ M := List.getElem_mem _
  rw [Hx (by rw [g.cols _ hm]; exact hc), g.cols _ hm]
 ·obtain ⟨i, hi, rfl⟩ := List.mem_iff_getElem.mp hr
  rw [List.getElem_zipWith] at hx'
  have hm : M[i]'(by rw [List.length_zipWith] at hi; omega) ∈ M := List.getElem_mem _
  unfold Gm.putC at hx'
  rcases List.mem_append.mp hx' with h | h
  ·rcases List.mem_append.mp h with h | h
   ·exact g.num _ hm x (List.mem_of_mem_take h)
   ·rw [List.mem_singleton.mp h]
    exact hx _ (List.getElem_mem _)
  ·exact g.num _ hm x (List.mem_of_mem_drop h)
def qR (M : List (List Int)) (t : Nat) (xs : List Int) : List (Int × Int) := mks ((List.range t).map fun c => Gm.sgn (Gm.detN t M) * Gm.detN t (Gm.withC M c xs)) (Gm.sgn (Gm.detN t M) * Gm.detN t M)
def ql : Sp := fun vs H Q _ => ∃ (a b : Addr) (M : List (List Int)) (t : Nat) (xs : List Int), vs = [.ref a, .ref b] /\ IsTab H a M /\ Sqr M t /\ t <= 4 /\ H b = some (.lst (xs.map V.int)) /\ xs.length = t /\ (∀ x ∈ xs, Sz 9 x) /\
 (Gm.detN t M = 0 -> ∀ H', Same H H' -> Q .non H') /\ (Gm.detN t M ≠ 0 -> ∀ p H', Same H H' -> H p = none -> IsFrs H' p (qR M t xs) -> Q (.ref p) H')
abbrev nU : Stmt := top 16
theorem yS : FnScope ["square", "numbers", "whole", "sign", "parts"] ["square", "numbers"] (aF nU) := ⟨rfl, rfl, rfl, by decide +kernel, rfl, by decide +kernel, by decide +kernel⟩
theorem zf (F : FunM K mg "solution" nU ["square", "numbers"]) (T : Blt mg) (dq : Def P w K mg base "determinant" ["square"] 5 Ai) (jk : Def P w K mg base "with_column" ["square", "column", "numbers"] 1 xx) (iw : Def P w K mg base "made" ["a", "b"] 2 pW) : Def P w K mg base "solution" ["square", "numbers"] 6 ql := by
 have S := yS
 refine Def.of F S (fun vs H Q E h => ?_) (fun f cdv A outer s H vs Q E hr h => ?_)
 ·obtain ⟨a, b, M, t, xs, rfl, _⟩ := h
  rfl
 ·obtain ⟨a, b, M, t, xs, rfl, hM, g, t4, hb, xl, hx, kn, ks⟩ := h
  obtain ⟨vs, ha, hp⟩ := id hM
  have vl : vs.length = t := by rw [hp.length, g.rows]
  refine ⟨_, (au (aU (i := 2) S.nd rfl (Or.inr rfl) (aK dq (hr.mono (by decide)) rfl (aa (pv 0) pa_nil aj) (he := aj)))
   (au (bj (aX bR (pv 2) pe_int (aQ _))
    (aB (aN pe_non)) aP)
   (au (aU (i := 3) S.nd rfl (Or.inr rfl) (jH (aX Bw (pv 2) pe_int (aQ _)) pe_int (tG oW pe_int)))
   (au (Aa (i := 4) rfl S.nd rfl rfl (N' := ["column", "square", "numbers"]) (src := [none, some 0, some 1]) rfl (kj rfl T.range_ (aa (aJ (bZ K) (by rfl) T.len_ bC (aa (pv 0) pa_nil aj) (he := aj)) pa_nil aZ)) (fun _ _ _ _ _ => (aW (i := 0) (show (["column", "square", "numbers"] : List Str).Nodup from by decide +kernel) rfl (Or.inl rfl))) (fun _ _ _ _ _ => bJ) (fun _ _ _ _ _ => (aK dq (hr.mono (by decide)) rfl (aa (aK jk (hr.mono (by decide)) rfl (aa (pv 1) (aa (pv 0) (aa (pv 2) pa_nil aj) aj) aj) (he := aj)) pa_nil aZ) (he := aZ))))
   (aB (aN (bN rfl (N' := ["part", "sign", "whole"]) (src := [none, some 3, some 2]) rfl (piL K (pv 4)) (fun _ _ _ _ _ => (aW (i := 0) (show (["part", "sign", "whole"] : List Str).Nodup from by decide +kernel) rfl (Or.inl rfl))) (fun _ _ _ _ _ => bJ) (fun _ _ _ _ _ => (aK iw (hr.mono (by decide)) rfl (aa (bu dF (pv 1) (pv 0)) (aa (bu dF (pv 1) (pv 2)) pa_nil bM) bM) (he := bM)))))))))), ?_⟩
  refine ⟨_, rfl, a, M, t, by omega, rfl, hM, g, fun H1 s1 => ?_⟩
  refine ⟨_, rfl, rfl, _, rfl, ?_⟩
  by_cases hz : Gm.detN t M = 0
  ·refine ifP (decide_eq_true (by rw [hz])) ?_
   exact kn hz H1 s1
  refine ifN (by simpa using hz) ?_
  have zw := jP t M t4 g
  have w0 := Gm.sgn_pos hz
  have zs : Sz 1 (Gm.sgn (Gm.detN t M)) := by unfold Gm.sgn Sz; split <;> decide
  have zS := zs.mul zw
  refine ⟨_, rfl, _, _, rfl, rfl, _, rfl, ?_⟩
  by_cases hc : 0 < Gm.detN t M
  ·have hs : Gm.sgn (Gm.detN t M) = 1 := if_pos hc
   have w0' := w0
   have zs' := zs
   have zS' := zS
   rw [hs] at w0' zs' zS'
   refine ifP (decide_eq_true hc) ?_
   refine ⟨_, rfl, a, vs, rfl, .inl (SqL.of (s1 _ _ ha)), _, rfl, by omega, by omega, kO (n := vs.length) (fun (c : Nat) y _ => y = V.int (Gm.detN t (Gm.withC M c xs))) (fun _ _ _ _ _ h => h) (Nat.le_of_lt (aR (by omega))) ?_ ?_⟩
   ·intro c hc H2 s2 Q' q
    rw [vl] at hc
    have s12 := s1.trans s2
    refine ⟨_, rfl, _, rfl, _, rfl, a, b, M, t, c, xs, rfl, hM.mono s12, g, t4, hc, s12 _ _ hb, xl, fun p H3 s3 own => ?_⟩
    exact ⟨p, _, t, by omega, rfl, own.tab, je g hc xl hx, fun H4 s4 => q _ H4 (s3.trans s4) rfl⟩
   ·intro ys H2 s2 pr p hp2
    have e := nO (fun c => Gm.detN t (Gm.withC M c xs)) pr
    subst e
    rw [vl]
    have q2 : upd H2 p (.lst (((List.range t).map fun c => Gm.detN t (Gm.withC M c xs)).map V.int)) p = some (.lst (((List.range t).map fun c => Gm.detN t (Gm.withC M c xs)).map V.int)) := az
    have s3 : Same H (upd H2 p (.lst (((List.range t).map fun c => Gm.detN t (Gm.withC M c xs)).map V.int))) := (s1.trans s2).trans (aq hp2)
    generalize upd H2 p (.lst (((List.range t).map fun c => Gm.detN t (Gm.withC M c xs)).map V.int)) = H3 at q2 s3 ⊢
    refine ⟨_, rfl, p, rfl, ⟨_, SqL.of q2⟩, bQ (xs := ((List.range t).map fun c => Gm.detN t (Gm.withC M c xs)).map V.int) (fun x y H' => ∀ i, x = V.int i -> IsFr H' y (Fr.mk (Gm.sgn (Gm.detN t M) * i) (Gm.sgn (Gm.detN t M) * Gm.detN t M))) (fun _ _ _ _ s h i e => (h i e).mono s) (SqL.of q2) (by rw [List.length_map, List.length_map, List.length_range]; exact Nat.le_of_lt (aR (by omega))) ?_ ?_⟩
    ·intro x hx' H4 s4 Q' q
     obtain ⟨d, hd, rfl⟩ := List.mem_map.mp hx'
     obtain ⟨c, hc, rfl⟩ := List.mem_map.mp hd
     have zd := jP t _ t4 (je g (List.mem_range.mp hc) xl hx)
     refine ⟨_, rfl, _, rfl, _, _, rfl, rfl, ⟨up zs', zd.mono (by omega)⟩, _, rfl, _, rfl, _, _, rfl, rfl, ⟨up zs', zw.mono (by omega)⟩, _, _, rfl, w0', zS'.mono (by omega), fun r hr' => ?_⟩
     refine q _ _ (aq hr') fun i e => ?_
     cases e
     exact ⟨r, rfl, by rw [hs]; exact az⟩
    ·intro zsl H4 s4 pr2 r hr'
     have pf := pR (fun i => Fr.mk (Gm.sgn (Gm.detN t M) * i) (Gm.sgn (Gm.detN t M) * Gm.detN t M)) pr2
     refine ks hz r _ ((s3.trans s4).trans (aq hr')) ((s3.trans s4).free hr') ⟨zsl, az, ?_⟩
     have e : qR M t xs = ((List.range t).map fun c => Gm.detN t (Gm.withC M c xs)).map fun i => Fr.mk (Gm.sgn (Gm.detN t M) * i) (Gm.sgn (Gm.detN t M) * Gm.detN t M) := by
      unfold qR mks
      rw [List.map_map, List.map_map]
      rfl
     rw [e]
     exact pf.imp2 fun _ _ z => z.mono (aq hr')
  ·have hs : Gm.sgn (Gm.detN t M) = -1 := if_neg hc
   have w0' := w0
   have zs' := zs
   have zS' := zS
   rw [hs] at w0' zs' zS'
   refine ifN (by simpa using hc) ?_
   refine ⟨_, rfl, ?_⟩
   refine ⟨_, rfl, a, vs, rfl, .inl (SqL.of (s1 _ _ ha)), _, rfl, by omega, by omega, kO (n := vs.length) (fun (c : Nat) y _ => y = V.int (Gm.detN t (Gm.withC M c xs))) (fun _ _ _ _ _ h => h) (Nat.le_of_lt (aR (by omega))) ?_ ?_⟩
   ·intro c hc H2 s2 Q' q
    rw [vl] at hc
    have s12 := s1.trans s2
    refine ⟨_, rfl, _, rfl, _, rfl, a, b, M, t, c, xs, rfl, hM.mono s12, g, t4, hc, s12 _ _ hb, xl, fun p H3 s3 own => ?_⟩
    exact ⟨p, _, t, by omega, rfl, own.tab, je g hc xl hx, fun H4 s4 => q _ H4 (s3.trans s4) rfl⟩
   ·intro ys H2 s2 pr p hp2
    have e := nO (fun c => Gm.detN t (Gm.withC M c xs)) pr
    subst e
    rw [vl]
    have q2 : upd H2 p (.lst (((List.range t).map fun c => Gm.detN t (Gm.withC M c xs)).map V.int)) p = some (.lst (((List.range t).map fun c => Gm.detN t (Gm.withC M c xs)).map V.int)) := az
    have s3 : Same H (upd H2 p (.lst (((List.range t).map fun c => Gm.detN t (Gm.withC M c xs)).map V.int))) := (s1.trans s2).trans (aq hp2)
    generalize upd H2 p (.lst (((List.range t).map fun c => Gm.detN t (Gm.withC M c xs)).map V.int)) = H3 at q2 s3 ⊢
    refine ⟨_, rfl, p, rfl, ⟨_, SqL.of q2⟩, bQ (xs := ((List.range t).map fun c => Gm.detN t (Gm.withC M c xs)).map V.int) (fun x y H' => ∀ i, x = V.int i -> IsFr H' y (Fr.mk (Gm.sgn (Gm.detN t M) * i) (Gm.sgn (Gm.detN t M) * Gm.detN t M))) (fun _ _ _ _ s h i e => (h i e).mono s) (SqL.of q2) (by rw [List.length_map, List.length_map, List.length_range]; exact Nat.le_of_lt (aR (by omega))) ?_ ?_⟩
    ·intro x hx' H4 s4 Q' q
     obtain ⟨d, hd, rfl⟩ := List.mem_map.mp hx'
     obtain ⟨c, hc, rfl⟩ := List.mem_map.mp hd
     have zd := jP t _ t4 (je g (List.mem_range.mp hc) xl hx)
     refine ⟨_, rfl, _, rfl, _, _, rfl, rfl, ⟨up zs', zd.mono (by omega)⟩, _, rfl, _, rfl, _, _, rfl, rfl, ⟨up zs', zw.mono (by omega)⟩, _, _, rfl, w0', zS'.mono (by omega), fun r hr' => ?_⟩
     refine q _ _ (aq hr') fun i e => ?_
     cases e
     exact ⟨r, rfl, by rw [hs]; exact az⟩
    ·intro zsl H4 s4 pr2 r hr'
     have pf := pR (fun i => Fr.mk (Gm.sgn (Gm.detN t M) * i) (Gm.sgn (Gm.detN t M) * Gm.detN t M)) pr2
     refine ks hz r _ ((s3.trans s4).trans (aq hr')) ((s3.trans s4).free hr') ⟨zsl, az, ?_⟩
     have e : qR M t xs = ((List.range t).map fun c => Gm.detN t (Gm.withC M c xs)).map fun i => Fr.mk (Gm.sgn (Gm.detN t M) * i) (Gm.sgn (Gm.detN t M) * Gm.detN t M) := by
      unfold qR mks
      rw [List.map_map, List.map_map]
      rfl
     rw [e]
     exact pf.imp2 fun _ _ z => z.mono (aq hr')
def IsNats (H : Hp) (v : V) (l : List Nat) : Prop := ∃ b, v = .ref b /\ H b = some (.lst (l.map fun (i : Nat) => V.int i))
theorem IsNats.mono {H H' : Hp} {v : V} {l : List Nat} (s : Same H H') (h : IsNats H v l) : IsNats H' v l := let ⟨b, e, q⟩ := h; ⟨b, e, s _ _ q⟩
def OwnNats (H H' : Hp) (v : V) (l : List Nat) : Prop := ∃ b, v = .ref b /\ H b = none /\ H' b = some (.lst (l.map fun (i : Nat) => V.int i))
theorem OwnNats.mono {H H1 H2 : Hp} {v : V} {l : List Nat} (s : Same H1 H2) (h : OwnNats H H1 v l) : OwnNats H H2 v l := let ⟨b, e, n, q⟩ := h; ⟨b, e, n, s _ _ q⟩
theorem OwnNats.nats {H H' : Hp} {v : V} {l : List Nat} (h : OwnNats H H' v l) : IsNats H' v l := let ⟨b, e, _, q⟩ := h; ⟨b, e, q⟩
def rJ : Sp := fun vs H Q _ => ∃ n : Nat, vs = [.int n] /\ n <= 4 /\ ∀ p xs H', Same H H' -> H p = none -> H' p = some (.lst xs) -> Paired (OwnNats H H') xs (Gm.chM n) -> Q (.ref p) H'
theorem jz : ∀ n, (Gm.chM n).length = 2 ^ n
 | 0 => rfl
 | n + 1 => by
  show (Gm.chM n ++ (Gm.chM n).map fun c => c ++ [n]).length = _
  rw [List.length_append, List.length_map, jz n, Nat.pow_succ]; omega
theorem jF {n : Nat} (h : n <= 4) : 2 ^ n <= 16 := Nat.pow_le_pow_right (n := 2) (by decide) h
theorem Dr {n : Nat} {c : List Nat} (h : c ∈ Gm.chM n) : c.length <= n := by
 have := (Gm.mem_chM.mpr h).length_le
 rwa [List.length_range] at this
theorem xO {H H1 H' : Hp} (f : List Nat -> List Nat) : ∀ {vs ys : List V} {L : List (List Nat)}, Paired (fun x y => ∀ l, OwnNats H H1 x l -> OwnNats H H' y (f l)) vs ys -> Paired (OwnNats H H1) vs L -> Paired (OwnNats H H') ys (L.map f)
 | _, _, _, .nil, .nil => .nil
 | _, _, _, .cons h t, .cons q u => .cons (h _ q) (xO f t u)
theorem Hj {l r : List Nat} (h : (l.map fun (i : Nat) => V.int i) = r.map fun (i : Nat) => V.int i) : l = r := by
 have inj : ∀ (a b : List Nat), (a.map fun (i : Nat) => V.int i) = (b.map fun (i : Nat) => V.int i) -> a = b := by
  intro a
  induction a with
  | nil => intro b h; cases b with
   | nil => rfl
   | cons _ _ => simp at h
  | cons x a ih => intro b h; cases b with
   | nil => simp at h
   | cons y b =>
    simp only [List.map_cons, List.cons.injEq, V.int.injEq] at h
    rw [ih b h.2, show x = y by omega]
 exact inj l r h
theorem IsNats.inj {H : Hp} {v : V} {l r : List Nat} (h : IsNats H v l) (q : IsNats H v r) : l = r := by
 obtain ⟨a, rfl, e⟩ := h
 obtain ⟨b, eb, f⟩ := q
 cases eb
 rw [e] at f
 injection f with f
 injection f with f
 exact Hj f
abbrev oH : Stmt := top 17
theorem Bt : FnScope ["count", "found", "place"] ["count"] (aF oH) := ⟨rfl, rfl, rfl, by decide +kernel, rfl, by decide +kernel, by decide +kernel⟩
theorem Ax (F : FunM K mg "choices" oH ["count"]) (T : Blt mg) : Def P w K mg base "choices" ["count"] 1 rJ := by
 have S := Bt
 refine Def.of F S (fun vs H Q E h => ?_) (fun f cdv A outer s H vs Q E hr h => ?_)
 ·obtain ⟨n, rfl, _⟩ := h
  rfl
 ·obtain ⟨n, rfl, n4, k⟩ := h
  refine ⟨_, (au (aU (i := 1) S.nd rfl (Or.inl rfl) (bL (aa (bL pa_nil) pa_nil aC)))
   (au (cX PassesOwn.never rfl (kj rfl T.range_ (aa (pv 0) pa_nil aj)) (aW (i := 2) S.nd rfl (Or.inr rfl))
    (aB (aU (i := 1) S.nd rfl (Or.inl rfl) (bu fj (pv 1) (bN rfl (N' := ["chosen", "place"]) (src := [none, some 2]) rfl (piL K (pv 1)) (fun _ _ _ _ _ => (aW (i := 0) (show (["chosen", "place"] : List Str).Nodup from by decide +kernel) rfl (Or.inl rfl))) (fun _ _ _ _ _ => bJ) (fun _ _ _ _ _ => (bu fj (pv 0) (bL (aa (pv 1) pa_nil aj)))))))))
   (aB (aN (pv 1))))), ?_⟩
  refine ⟨Nat.zero_le _, fun l0 hl0 => ?_⟩
  refine ⟨(by show 1 <= sizeLine; decide), fun l1 hl1 => ?_⟩
  have s1 := (aq (o := .lst []) hl0).trans (aq (o := .lst [.ref l0]) hl1)
  have e0 : Paired (OwnNats H (upd (upd H l0 (.lst [])) l1 (.lst [.ref l0]))) [.ref l0] (Gm.chM 0) := .cons ⟨l0, rfl, hl0, aq hl1 _ _ az⟩ .nil
  have e1 : upd (upd H l0 (.lst [])) l1 (.lst [.ref l0]) l1 = some (.lst [.ref l0]) := az
  have hn1 : H l1 = none := (aq (o := .lst []) hl0).free hl1
  generalize upd (upd H l0 (.lst [])) l1 (.lst [.ref l0]) = H1 at s1 e0 e1 ⊢
  refine ⟨_, rfl, _, rfl, by omega, by omega, uM (n := n) (fun i σ H' => ∃ l o xs, σ = [some (.int n), some (.ref l), o] /\ Same H H' /\ H l = none /\ H' l = some (.lst xs) /\ Paired (OwnNats H H') xs (Gm.chM i)) ⟨l1, _, _, rfl, s1, hn1, e1, e0⟩ ?_ ?_⟩
  ·rintro i σ H2 hi ⟨l, o, xs, rfl, s2, hln, hl, pr⟩
   have ei : (0 : Int) + (i : Int) = (i : Int) := by omega
   rw [ei]
   have xl : xs.length <= 16 := by rw [pr.length, jz]; exact jF (by omega)
   refine ⟨_, rfl, _, rfl, l, rfl, ⟨_, SqL.of hl⟩, bQ (xs := xs) (fun x y H' => ∀ c, OwnNats H H2 x c -> OwnNats H H' y (c ++ [i])) (fun _ _ _ _ s h c q => (h c q).mono s) (SqL.of hl) (Nat.le_of_lt (aR (by omega))) ?_ ?_⟩
   ·intro x hx H3 s3 Q' q
    obtain ⟨c, hc, hn⟩ := pr.mem2 hx
    obtain ⟨b, rfl, hbn, hb⟩ := id hn
    refine ⟨_, rfl, _, rfl, (by show 1 <= sizeLine; decide), fun q2 hq2 => ?_⟩
    have cl := Dr hc
    refine ⟨b, q2, _, _, rfl, rfl, aq hq2 _ _ (s3 _ _ hb), az, (by rw [List.length_map, List.length_singleton]; exact Nat.le_of_lt (aR (by omega))), fun q3 hq3 => ?_⟩
    refine q _ _ ((aq hq2).trans (aq hq3)) fun c' h' => ?_
    rw [<- hn.nats.inj h'.nats]
    exact ⟨q3, rfl, ((s2.trans s3).trans (aq hq2)).free hq3, by rw [az, List.map_append]; rfl⟩
   ·intro ys H3 s3 prc p hp
    have pn := xO (fun c => c ++ [i]) prc pr
    have s4 : Same H2 (upd H3 p (.lst ys)) := s3.trans (aq hp)
    have pn' := pn.imp2 fun _ _ z => z.mono (aq (o := .lst ys) hp)
    have ep : upd H3 p (.lst ys) p = some (.lst ys) := az
    generalize upd H3 p (.lst ys) = H4 at s4 pn' ep ⊢
    refine ⟨l, p, xs, ys, rfl, rfl, s4 _ _ hl, ep, (by rw [pn'.length, List.length_map, <- pr.length]; exact Nat.le_of_lt (aR (by omega))), fun q hq => ?_⟩
    refine ⟨q, _, _, rfl, (s2.trans s4).trans (aq hq), (s2.trans s4).free hq, az, ?_⟩
    exact ((pr.imp2 fun _ _ z => (z.mono s4).mono (aq hq))).app2 (pn'.imp2 fun _ _ z => z.mono (aq hq))
  ·rintro σ H2 ⟨l, o, xs, rfl, s2, hln, hl, pr⟩
   exact ⟨_, rfl, k l xs H2 s2 hln hl pr⟩
def iW (qs : List (Int × Int)) (C : List Nat) (n : Nat) : List (Int × Int) := (qs.zip C).foldl (fun w x => w.set x.2 x.1) (List.replicate n (0, 1))
theorem k_ (n : Nat) : ∀ (l : List ((Int × Int) × Nat)) (w : List (Int × Int)), (l.foldl (fun w x => w.set x.2 x.1) w).length = w.length
 | [], w => rfl
 | x :: l, w => by
  rw [List.foldl_cons, k_ n l, List.length_set]
theorem Fj {α : Type} (w : List α) (c j : Nat) (x d : α) : (w.set c x).getD j d = if c = j /\ c < w.length then x else w.getD j d := by
 rw [List.getD_eq_getElem?_getD, List.getElem?_set, List.getD_eq_getElem?_getD]
 by_cases h : c = j
 ·subst h
  rw [if_pos rfl]
  by_cases q : c < w.length
  ·rw [if_pos q, if_pos ⟨rfl, q⟩]; rfl
  ·rw [if_neg q, if_neg fun z => q z.2, List.getElem?_eq_none (by omega)]
 ·rw [if_neg h, if_neg fun z => h z.1]
theorem rT (S : Int) (hS : 0 < S) (j : Nat) : ∀ (C : List Nat) (sh : List Int) (w : List (Int × Int)), C.Nodup -> sh.length = C.length -> (∀ c ∈ C, c < w.length) ->
  (((mks sh S).zip C).foldl (fun w x => w.set x.2 x.1) w).getD j (0, 1) = if j ∈ C then Fr.mk (Gm.yOf C sh j) S else w.getD j (0, 1)
 | [], sh, w, _, _, _ => by
  have : sh = [] \/ sh ≠ [] := Classical.em _
  simp
 | c :: C, [], w, _, h, _ => by simp at h
 | c :: C, p :: ps, w, hn, hl, hlt => by
  have hn' := List.nodup_cons.mp hn
  show (((mks ps S).zip C).foldl (fun w x => w.set x.2 x.1) (w.set c (Fr.mk p S))).getD j (0, 1) = _
  rw [rT S hS j C ps _ hn'.2 (by simpa using hl) (fun x hx => by rw [List.length_set]; exact hlt x (by simp [hx])), Gm.yOf_cons, Fj]
  by_cases h1 : j ∈ C
  ·have hne : j ≠ c := fun e => hn'.1 (by rw [<- e]; exact h1)
   rw [if_pos h1, if_pos (by simp [h1]), if_neg hne, Int.zero_add]
  ·rw [if_neg h1]
   by_cases h2 : j = c
   ·subst h2
    rw [if_pos ⟨rfl, hlt j (by simp)⟩, if_pos (by simp), if_pos rfl, Gm.yOf_out h1, Int.add_zero]
   ·rw [if_neg fun z => h2 z.1.symm, if_neg (by simp [h1, h2])]
def wsM (U : List (List Int)) (n : Nat) (R C : List Nat) : List Int := (List.range n).map (Gm.yOf C (Gm.shM U R C))
theorem ul (U : List (List Int)) (n : Nat) (R C : List Nat) : (wsM U n R C).length = n := by unfold wsM; rw [List.length_map, List.length_range]
theorem Em {n : Nat} {C : List Nat} {sh : List Int} {S : Int} (hS : 0 < S) (hn : C.Nodup) (hl : sh.length = C.length) (hlt : ∀ c ∈ C, c < n) : iW (mks sh S) C n = mks ((List.range n).map (Gm.yOf C sh)) S := by
 have l1 : (iW (mks sh S) C n).length = n := by unfold iW; rw [k_ n, List.length_replicate]
 have l2 : (mks ((List.range n).map (Gm.yOf C sh)) S).length = n := by rw [lV, List.length_map, List.length_range]
 apply List.ext_getElem (by rw [l1, l2])
 intro j h1 h2
 rw [l1] at h1
 have e := rT S hS j C sh (List.replicate n (0, 1)) hn hl (fun c hc => by rw [List.length_replicate]; exact hlt c hc)
 have e1 : (iW (mks sh S) C n).getD j (0, 1) = (iW (mks sh S) C n)[j]'(by rw [l1]; exact h1) := by
  rw [List.getD_eq_getElem?_getD, List.getElem?_eq_getElem (by rw [l1]; exact h1)]; rfl
 rw [<- e1]
 unfold iW
 rw [e]
 have e3 : (mks ((List.range n).map (Gm.yOf C sh)) S)[j]'h2 = Fr.mk (Gm.yOf C sh j) S := by simp [mks]
 rw [e3]
 by_cases h : j ∈ C
 ·rw [if_pos h]
 ·rw [if_neg h, Gm.yOf_out h, Fr.mk_zero hS]
  rw [List.getD_eq_getElem?_getD, List.getElem?_replicate, if_pos h1]
  rfl
theorem mY {α : Type} (x : α) : ∀ n, (List.replicate n [x]).flatten = List.replicate n x
 | 0 => rfl
 | n + 1 => by
  rw [List.replicate_succ, List.flatten_cons, mY x n, List.replicate_succ]; rfl
theorem rG {α β : Type} {F : α -> β -> Prop} {x : α} {y : β} (h : F x y) : ∀ n, Paired F (List.replicate n x) (List.replicate n y)
 | 0 => .nil
 | n + 1 => .cons h (rG h n)
def oX : Sp := fun vs H Q _ => ∃ (a b : Addr) (qs : List (Int × Int)) (C : List Nat) (n : Nat), vs = [.ref a, .ref b, .int n] /\ IsFrs H a qs /\ IsNats H (.ref b) C /\ qs.length = C.length /\ (∀ c ∈ C, c < n) /\ n <= 4 /\ ∀ p H', Same H H' -> H p = none -> IsFrs H' p (iW qs C n) -> Q (.ref p) H'
abbrev qI : Stmt := top 18
theorem Ed : FnScope ["shares", "places", "count", "mixture", "share", "place"] ["shares", "places", "count"] (aF qI) := ⟨rfl, rfl, rfl, by decide +kernel, rfl, by decide +kernel, by decide +kernel⟩
theorem Ej (F : FunM K mg "spread" qI ["shares", "places", "count"]) (T : Blt mg) : Def P w K mg base "spread" ["shares", "places", "count"] 1 oX := by
 have S := Ed
 refine Def.of F S (fun vs H Q E h => ?_) (fun f cdv A outer s H vs Q E hr h => ?_)
 ·obtain ⟨a, b, qs, C, n, rfl, _⟩ := h
  rfl
 ·obtain ⟨a, b, qs, C, n, rfl, hA, hB, hl, hlt, n4, k⟩ := h
  obtain ⟨xs, ha, pa⟩ := id hA
  obtain ⟨b', eb, hb⟩ := id hB
  cases eb
  refine ⟨_, (au (aU (i := 3) S.nd rfl (Or.inl rfl) (bu xH (bL (aa (cQ (aa pe_int (aa pe_int pa_nil ao) ao)) pa_nil a_)) (pv 2)))
   (au (cX PassesOwn.never rfl (Ba K rfl T.zip_ (aa (pv 0) (aa (pv 1) pa_nil aj) aj)) (pgT K (n := 2) (fH (aW (i := 4) S.nd rfl (Or.inl rfl)) (fH (aW (i := 5) S.nd rfl (Or.inl rfl)) pP)))
    (aB (IK (pv 4) (Jl (pv 3) (pv 5) set_list))))
   (aB (aN (pv 3))))), ?_⟩
  refine ⟨(by show 2 <= sizeLine; decide), fun t ht => ⟨(by show 1 <= sizeLine; decide), fun l hl' => ?_⟩⟩
  refine ⟨_, rfl, l, (n : Int), _, rfl, rfl, az, by omega, by omega, (by rw [List.length_singleton, Int.toNat_natCast]; exact Nat.le_of_lt (aR (by omega))), fun p hp => ?_⟩
  rw [Int.toNat_natCast, mY]
  have s1 := (aq (o := .tup [.int 0, .int 1]) ht).trans (aq (o := .lst [.ref t]) hl')
  have hpn : H p = none := s1.free hp
  have ft : IsFr (upd (upd H t (.tup [.int 0, .int 1])) l (.lst [.ref t])) (.ref t) (0, 1) := ⟨t, rfl, aq hl' _ _ az⟩
  generalize upd (upd H t (.tup [.int 0, .int 1])) l (.lst [.ref t]) = H1 at s1 ft hp ⊢
  have s2 := s1.trans (aq (o := .lst (List.replicate n (.ref t))) hp)
  have ft2 := ft.mono (aq (o := .lst (List.replicate n (.ref t))) hp)
  have ep : upd H1 p (.lst (List.replicate n (.ref t))) p = some (.lst (List.replicate n (.ref t))) := az
  generalize upd H1 p (.lst (List.replicate n (.ref t))) = H2 at s2 ft2 ep ⊢
  refine ⟨_, rfl, _, rfl, a, b, rfl, ⟨_, SqL.of (s2 _ _ ha)⟩, ⟨_, SqL.of (s2 _ _ hb)⟩, zZ (K := K) (a := a) (b := b) (xs := xs) (ys := C.map fun (i : Nat) => V.int i) (fun i σ H' => ∃ o4 o5 zs, σ = [some (.ref a), some (.ref b), some (.int n), some (.ref p), o4, o5] /\ Same H H' /\ H' p = some (.lst zs) /\ Paired (IsFr H') zs (((qs.zip C).take i).foldl (fun w x => w.set x.2 x.1) (List.replicate n (0, 1))))
    ⟨_, _, _, rfl, s2, ep, by rw [List.take_zero]; exact rG ft2 n⟩ ?_ ?_ ?_⟩
  ·rintro i σ H' ⟨_, _, _, _, s3, _⟩
   exact ⟨SqL.of (s3 _ _ ha), SqL.of (s3 _ _ hb)⟩
  ·rintro i x y q σ H' hx hy hq ⟨o4, o5, zs, rfl, s3, hz, pz⟩
   obtain ⟨f1, e1, c1, rfl, h1⟩ := pa.get2 hx
   rw [List.getElem?_map] at hy
   obtain ⟨c, ec, rfl⟩ : ∃ c, C[i]? = some c /\ y = V.int (c : Nat) := by
    cases e : C[i]? with
    | none => rw [e] at hy; cases hy
    | some z => rw [e] at hy; exact ⟨z, rfl, by cases hy; rfl⟩
   have ez : (qs.zip C)[i]? = some (f1, c) := List.getElem?_zip_eq_some.mpr ⟨e1, ec⟩
   have hc := hlt c (List.mem_of_getElem? ec)
   have zl : zs.length = n := by rw [pz.length, k_ n, List.length_replicate]
   have sq := aq (o := .tup [.ref c1, .int (c : Nat)]) hq
   refine ⟨q, _, rfl, SqT.of az, rfl, _, _, rfl, _, _, rfl, rfl, ?_⟩
   refine ⟨_, rfl, _, rfl, _, rfl, p, zs, (c : Int), c, rfl, rfl, sq _ _ hz, ?_, ?_⟩
   ·unfold ixN
    rw [if_pos (by omega), if_pos (by omega), Int.toNat_natCast]
   ·refine ⟨_, _, _, rfl, eE (s3.trans sq) hpn, az, ?_⟩
    rw [List.take_add_one, ez, List.foldl_append]
    refine Paired.set2 ?_ c (pz.imp2 fun _ _ z => (z.mono sq).at (sq _ _ hz))
    exact IsFr.at (sq _ _ hz) ⟨c1, rfl, sq _ _ (s3 _ _ h1)⟩
  ·rintro σ H' ⟨o4, o5, zs, rfl, s3, hz, pz⟩
   have l1 : (qs.zip C).take (min xs.length (C.map fun (i : Nat) => V.int i).length) = qs.zip C := List.take_of_length_le (by rw [List.length_zip, pa.length, List.length_map]; exact Nat.le_refl _)
   rw [l1] at pz
   exact ⟨_, rfl, k p H' s3 hpn ⟨zs, hz, pz⟩⟩
theorem DQ (l : List Nat) : (l.map fun (i : Nat) => V.int i) = (l.map fun (i : Nat) => (i : Int)).map V.int := by rw [List.map_map]; rfl
theorem Ek {l : List Nat} {t : Nat} (h : t < l.length) : atI (l.map fun (i : Nat) => V.int i) (t : Int) = some (.int (l.getD t 0 : Nat)) := by
 have e : (l.map fun (i : Nat) => V.int i)[t]? = some (V.int (l.getD t 0 : Nat)) := by
  rw [List.getElem?_map, List.getElem?_eq_getElem h, List.getD_eq_getElem?_getD, List.getElem?_eq_getElem h]; rfl
 exact d_ e
theorem lG {U : List (List Int)} {m n : Nat} {R C : List Nat} (g : Gd U m n) (g2 : Gm.Good2 m n R C) : Sqr (Gm.eqsM U R C) C.length := by
 unfold Gm.eqsM
 have l := g2.len
 have p := g2.pos
 refine ⟨by rw [List.length_cons, List.length_map, List.length_drop]; omega, fun r hr => ?_, fun r hr x hx => ?_⟩
 ·rcases List.mem_cons.mp hr with rfl | hr
  ·rw [List.length_replicate]
  ·obtain ⟨i, _, rfl⟩ := List.mem_map.mp hr
   rw [List.length_map]
 ·rcases List.mem_cons.mp hr with rfl | hr
  ·rw [(List.mem_replicate.mp hx).2]
   show (1 : Int).natAbs < 2 ^ 9
   decide
  ·obtain ⟨i, hi, rfl⟩ := List.mem_map.mp hr
   obtain ⟨j, hj, rfl⟩ := List.mem_map.mp hx
   have b : ∀ i j, i < m -> j < n -> -200 <= Gm.cell U i j /\ Gm.cell U i j <= 200 := fun i j hi hj => by
    have h1 := g.row hi
    refine g.num _ h1.1 _ ?_
    show (U.getD i []).getD j 0 ∈ U.getD i []
    rw [List.getD_eq_getElem?_getD (l := U.getD i []), List.getElem?_eq_getElem (by rw [h1.2]; exact hj)]
    exact List.getElem_mem _
   have hi' := List.mem_range.mp (g2.rs.subset (List.mem_of_mem_drop hi))
   have b1 := b i j hi' (g2.lt j hj)
   have b2 := b (R.headD 0) j g2.r0m (g2.lt j hj)
   show (Gm.cell U i j - Gm.cell U (R.headD 0) j).natAbs < 512
   omega
theorem Jx (U : List (List Int)) (R C : List Nat) : qR (Gm.eqsM U R C) C.length (Gm.numsM C.length) = mks (Gm.shM U R C) (Gm.smM U R C) := by
 unfold qR Gm.shM Gm.smM Gm.partsM
 rw [List.map_map]
 rfl
def xu : Sp := fun vs H Q _ => ∃ (a b c : Addr) (U : List (List Int)) (m n : Nat) (R C : List Nat), vs = [.ref a, .ref b, .ref c] /\ IsTab H a U /\ Gd U m n /\ IsNats H (.ref b) R /\ IsNats H (.ref c) C /\ Gm.Good2 m n R C /\
 (Gm.wholeM U R C = 0 -> ∀ H', Same H H' -> Q .non H') /\ (Gm.wholeM U R C ≠ 0 -> ∀ p H', Same H H' -> H p = none -> IsFrs H' p (mks (Gm.shM U R C) (Gm.smM U R C)) -> Q (.ref p) H')
abbrev um : Stmt := top 19
theorem Er : FnScope ["table", "rows", "columns", "first", "equations", "row"] ["table", "rows", "columns"] (aF um) := ⟨rfl, rfl, rfl, by decide +kernel, rfl, by decide +kernel, by decide +kernel⟩
theorem Gg (F : FunM K mg "level" um ["table", "rows", "columns"]) (T : Blt mg) (mZ : Def P w K mg base "solution" ["square", "numbers"] 6 ql) : Def P w K mg base "level" ["table", "rows", "columns"] 7 xu := by
 have S := Er
 refine Def.of F S (fun vs H Q E h => ?_) (fun f cdv A outer s H vs Q E hr h => ?_)
 ·obtain ⟨a, b, c, U, m, n, R, C, rfl, _⟩ := h
  rfl
 ·obtain ⟨a, b, c, U, m, n, R, C, rfl, hU, g, hB, hC, g2, kn, ks⟩ := h
  obtain ⟨b', eb, hb⟩ := id hB
  cases eb
  obtain ⟨c', ec, hc⟩ := id hC
  cases ec
  have c4 := g2.c4 g.n4
  have cp := g2.pos
  have rl := g2.len
  have r0 : R.getD 0 0 = R.headD 0 := by cases R <;> rfl
  have h0m := g2.r0m
  obtain ⟨vs, f0, ha, h0, at0, hf0⟩ := hU.row (i := R.headD 0) (by rw [g.rows]; exact h0m)
  have rt : atI (R.map fun (i : Nat) => V.int i) (0 : Int) = some (.int (R.headD 0 : Nat)) := by
   have := Ek (l := R) (t := 0) (by omega)
   rw [r0] at this
   exact this
  refine ⟨_, (au (aU (i := 3) S.nd rfl (Or.inr rfl) (aV (ixL K) (pv 0) (aV (ixL K) (pv 1) pe_int (fun _ _ => rfl)) (fun _ _ => rfl)))
   (au (aU (i := 4) S.nd rfl (Or.inl rfl) (bL (aa (bu xH (bL (aa pe_int pa_nil ao)) (aJ (bZ K) (by rfl) T.len_ bC (aa (pv 2) pa_nil aj) (he := aj))) pa_nil bM)))
   (au (cX PassesOwn.never rfl (piL K (iU (slL K) (pv 1) (jC pe_int) jD)) (aW (i := 5) S.nd rfl (Or.inr rfl))
    (aB (bw (jY PySem.F.plainAttrs_list PySem.F.slot_list_append PySem.F.type_list_append jf (pv 4) (aa (bN rfl (N' := ["column", "table", "row", "first"]) (src := [none, some 0, some 5, some 3]) rfl (piL K (pv 2)) (fun _ _ _ _ _ => (aW (i := 0) (show (["column", "table", "row", "first"] : List Str).Nodup from by decide +kernel) rfl (Or.inl rfl))) (fun _ _ _ _ _ => bJ) (fun _ _ _ _ _ => (bu wW (aV (ixL K) (aV (ixL K) (pv 1) (pv 2) (fun _ _ => rfl)) (pv 0) (fun _ _ => rfl)) (aV (ixL K) (pv 3) (pv 0) (fun _ _ => rfl))))) pa_nil bf)))))
   (aB (aN (aK mZ (hr.mono (by decide)) rfl (aa (pv 4) (aa (bu fj (bL (aa pe_int pa_nil ao)) (bu xH (bL (aa pe_int pa_nil ao)) (bu wW (aJ (bZ K) (by rfl) T.len_ bC (aa (pv 1) pa_nil aj) (he := aj)) pe_int))) pa_nil bM) aj) (he := aj))))))), ?_⟩
  refine ⟨_, rfl, _, rfl, b, _, 0, _, rfl, rfl, SqL.of hb, rt, a, vs, _, _, rfl, rfl, SqL.of ha, at0, ?_⟩
  refine ⟨(by show 1 <= sizeLine; decide), fun l0 hl0 => ?_⟩
  have s0 : Same H (upd H l0 (.lst [.int 1])) := aq hl0
  refine ⟨_, rfl, c, _, rfl, .inl (SqL.of (s0 _ _ hc)), l0, _, _, rfl, rfl, az, by omega, by rw [List.length_map]; omega, (by rw [List.length_singleton, List.length_map]; exact Nat.le_of_lt (aR (by omega))), fun l1 hl1 => ?_⟩
  have e1 : (List.replicate ((C.map fun (i : Nat) => V.int i).length : Int).toNat [V.int 1]).flatten = (List.replicate C.length (1 : Int)).map V.int := by
   rw [Int.toNat_natCast, mY, List.length_map, List.map_replicate]
  rw [e1]
  have s1 := s0.trans (aq (o := .lst ((List.replicate C.length (1 : Int)).map V.int)) hl1)
  have l1n : H l1 = none := s0.free hl1
  have q1 : upd (upd H l0 (.lst [.int 1])) l1 (.lst ((List.replicate C.length (1 : Int)).map V.int)) l1 = some (.lst ((List.replicate C.length (1 : Int)).map V.int)) := az
  generalize upd (upd H l0 (.lst [.int 1])) l1 (.lst ((List.replicate C.length (1 : Int)).map V.int)) = H1 at s1 q1 ⊢
  refine ⟨(by show 1 <= sizeLine; decide), fun e he => ?_⟩
  have he1 : H1 e = none := he
  have hen : H e = none := s1.free he
  have n1e : l1 ≠ e := bh q1 he
  have s2 := s1.trans (aq (o := .lst [.ref l1]) he)
  have q2 : upd H1 e (.lst [.ref l1]) e = some (.lst [.ref l1]) := az
  have q1' := aq (o := .lst [.ref l1]) he _ _ q1
  generalize upd H1 e (.lst [.ref l1]) = H2 at s2 q2 q1' ⊢
  refine ⟨_, rfl, _, rfl, b, _, rfl, SqL.of (s2 _ _ hb), fun q hq => ?_⟩
  have ed : dJ (R.map fun (i : Nat) => V.int i) (some 1) none = (R.drop 1).map fun (i : Nat) => V.int i := by
   rw [mU (k := 1) (by decide) (by rw [List.length_map]; omega)]
   exact List.map_drop.symm
  rw [ed]
  have s3 := s2.trans (aq (o := .lst ((R.drop 1).map fun (i : Nat) => V.int i)) hq)
  have q3 := aq (o := .lst ((R.drop 1).map fun (i : Nat) => V.int i)) hq _ _ q2
  have q1'' := aq (o := .lst ((R.drop 1).map fun (i : Nat) => V.int i)) hq _ _ q1'
  have qq : upd H2 q (.lst ((R.drop 1).map fun (i : Nat) => V.int i)) q = some (.lst ((R.drop 1).map fun (i : Nat) => V.int i)) := az
  have nqe : q ≠ e := fun z => by rw [z, q2] at hq; cases hq
  generalize upd H2 q (.lst ((R.drop 1).map fun (i : Nat) => V.int i)) = H3 at s3 q3 q1'' qq ⊢
  refine ⟨q, rfl, ⟨_, SqL.of qq⟩, dz (K := K) (a := q) (xs := (R.drop 1).map fun (i : Nat) => V.int i) (fun i σ H' => ∃ o5 zs, σ = [some (.ref a), some (.ref b), some (.ref c), some (.ref f0), some (.ref e), o5] /\ Same H H' /\ SameX e H3 H' /\ H' e = some (.lst zs) /\ Paired (RowX H e H') zs ((Gm.eqsM U R C).take (i + 1)))
   ⟨_, _, rfl, s3, SameX.refl, q3, .cons ⟨l1, rfl, n1e, l1n, q1''⟩ .nil⟩ ?_ ?_ ?_⟩
  ·rintro i σ H4 _ ⟨_, _, _, _, sx, _⟩
   exact SqL.of (sx _ _ nqe qq)
  ·rintro i y σ H4 hi ⟨o5, zs, rfl, s4, sx, hz, pz⟩
   rw [List.getElem?_map] at hi
   obtain ⟨ρ, eρ, rfl⟩ : ∃ ρ, (R.drop 1)[i]? = some ρ /\ y = V.int (ρ : Nat) := by
    cases e : (R.drop 1)[i]? with
    | none => rw [e] at hi; cases hi
    | some z => rw [e] at hi; exact ⟨z, rfl, by cases hi; rfl⟩
   have hρ : ρ < m := List.mem_range.mp (g2.rs.subset (List.mem_of_mem_drop (List.mem_of_getElem? eρ)))
   have hc4 := s4 _ _ hc
   rw [DQ] at hc4
   refine ⟨_, rfl, .inl ⟨rfl, _, SqL.of hz⟩, _, rfl, c, rfl, ⟨_, SqL.of hc4⟩, ph (fun x => Gm.cell U ρ x.toNat - Gm.cell U (R.headD 0) x.toNat) (SqL.of hc4) (by rw [List.length_map]; omega) ?_ ?_⟩
   ·intro x hx H5 s5 Q' q'
    obtain ⟨j, hj, rfl⟩ := List.mem_map.mp hx
    have hjn := g2.lt j hj
    have s45 := s4.trans s5
    obtain ⟨vs5, b5, ha5, h5, at5, hb5⟩ := (hU.mono s45).row (i := ρ) (by rw [g.rows]; exact hρ)
    refine ⟨_, rfl, _, rfl, a, _, _, _, rfl, rfl, SqL.of ha5, at5, _, rfl, b5, _, _, _, rfl, rfl, SqL.of hb5, pQ (by rw [(g.row hρ).2]; exact hjn), ?_⟩
    refine ⟨_, rfl, _, rfl, f0, _, _, _, rfl, rfl, SqL.of (s45 _ _ hf0), pQ (by rw [(g.row h0m).2]; exact hjn), _, _, rfl, rfl, ?_⟩
    have := q' H5 (Same.refl _)
    rw [Int.toNat_natCast] at this
    exact this
   ·intro H5 s5 p hp
    have hz5 := s5 _ _ hz
    have npe : p ≠ e := fun z => by rw [z, hz5] at hp; cases hp
    have zl : zs.length <= 4 := by
     have er : (Gm.eqsM U R C).length = C.length := (lG g g2).rows
     rw [pz.length, List.length_take, er]
     omega
    refine ⟨e, zs, .ref p, rfl, rfl, aq hp _ _ hz5, aR (by omega), ?_⟩
    refine ⟨_, _, rfl, eE ((s4.trans s5).trans (aq hp)) hen, ((sx.then s5).then (aq hp)).at, az, ?_⟩
    have et : (Gm.eqsM U R C)[i + 1]? = some (C.map fun j => Gm.cell U ρ j - Gm.cell U (R.headD 0) j) := by
     unfold Gm.eqsM
     rw [List.getElem?_cons_succ, List.getElem?_map, eρ]
     rfl
    rw [List.take_add_one, et]
    refine (pz.imp2 fun _ _ z => ((z.mono s5).mono (aq hp)).at).app2 (.cons ⟨p, rfl, npe, (s4.trans s5).free hp, ?_⟩ .nil)
    rw [aO npe, az]
    have el : (C.map fun (i : Nat) => (i : Int)).map (fun x => Gm.cell U ρ x.toNat - Gm.cell U (R.headD 0) x.toNat) = C.map fun j => Gm.cell U ρ j - Gm.cell U (R.headD 0) j := by
     rw [List.map_map]
     exact List.map_congr_left fun j _ => by simp only [Function.comp, Int.toNat_natCast]
    rw [el]
  ·rintro σ H4 ⟨o5, zs, rfl, s4, sx, hz, pz⟩
   have er : (Gm.eqsM U R C).length = C.length := (lG g g2).rows
   rw [List.length_map, List.length_drop, List.take_of_length_le (by rw [er]; omega)] at pz
   have hE : IsTab H4 e (Gm.eqsM U R C) := ⟨zs, hz, pz.imp2 fun _ _ z => z.own.row⟩
   refine ⟨_, rfl, (by show 1 <= sizeLine; decide), fun k1 hk1 => ?_⟩
   refine ⟨(by show 1 <= sizeLine; decide), fun k2 hk2 => ?_⟩
   have t1 := aq (o := .lst [.int 1]) hk1
   have t2 := aq (o := .lst [.int 0]) hk2
   refine ⟨_, rfl, b, _, rfl, .inl (SqL.of (t2 _ _ (t1 _ _ (s4 _ _ hb)))), _, _, rfl, rfl, k2, _, _, rfl, rfl, az, by omega, by rw [List.length_map]; omega, ?_, fun k3 hk3 => ?_⟩
   ·rw [List.length_singleton, List.length_map]
    exact Nat.le_of_lt (aR (by omega))
   have e2 : (List.replicate (((R.map fun (i : Nat) => V.int i).length : Int) - 1).toNat [V.int 0]).flatten = (List.replicate (C.length - 1) (0 : Int)).map V.int := by
    rw [mY, List.length_map, List.map_replicate, show ((R.length : Int) - 1).toNat = C.length - 1 by omega]
   rw [e2]
   have t3 := aq (o := .lst ((List.replicate (C.length - 1) (0 : Int)).map V.int)) hk3
   have w1 := t3 _ _ (t2 _ _ (az (H := H4) (a := k1) (o := .lst [.int 1])))
   refine ⟨k1, k3, _, _, rfl, rfl, w1, az, ?_, fun k4 hk4 => ?_⟩
   ·rw [List.length_singleton, List.length_map, List.length_replicate]
    exact Nat.le_of_lt (aR (by omega))
   have e3 : [V.int 1] ++ (List.replicate (C.length - 1) (0 : Int)).map V.int = (Gm.numsM C.length).map V.int := rfl
   rw [e3]
   have t4 := (t1.trans t2).trans (t3.trans (aq (o := .lst ((Gm.numsM C.length).map V.int)) hk4))
   have sT := s4.trans t4
   refine ⟨e, k4, Gm.eqsM U R C, C.length, Gm.numsM C.length, rfl, hE.mono t4, lG g g2, c4, az, ?_, ?_, fun hz' H5 s5 => kn hz' H5 (sT.trans s5), fun hz' p H5 s5 hpn hf => ks hz' p H5 (sT.trans s5) (sT.free hpn) (by rw [<- Jx]; exact hf)⟩
   ·unfold Gm.numsM
    rw [List.length_cons, List.length_replicate]; omega
   ·intro x hx
    unfold Gm.numsM at hx
    rcases List.mem_cons.mp hx with rfl | hx
    ·show (1 : Int).natAbs < 2 ^ 9
     decide
    ·rw [(List.mem_replicate.mp hx).2]
     show (0 : Int).natAbs < 2 ^ 9
     decide
abbrev eG := List (Int × Int) × (Int × Int)
def cG (U : List (List Int)) (n : Nat) (R C : List Nat) : eG := (mks (wsM U n R C) (Gm.smM U R C), Fr.mk (Gm.gain U n (Gm.yOf C (Gm.shM U R C)) (R.headD 0)) (Gm.smM U R C))
def IsCor (l : Addr) (H : Hp) (v : V) (q : eG) : Prop := ∃ t k u, v = .ref t /\ H t = some (.tup [.ref k, .ref u]) /\ k ≠ l /\ IsFrs H k q.1 /\ H u = some (.tup [.int q.2.1, .int q.2.2])
theorem IsCor.mono {l : Addr} {H H' : Hp} {v : V} {q : eG} (s : Same H H') (h : IsCor l H v q) : IsCor l H' v q := let ⟨t, k, u, e, a, b, c, d⟩ := h; ⟨t, k, u, e, s _ _ a, b, c.mono s, s _ _ d⟩
theorem IsCor.at {l : Addr} {H : Hp} {v : V} {q : eG} {xs : List V} {o : HO} (hl : H l = some (.lst xs)) (h : IsCor l H v q) : IsCor l (upd H l o) v q := by
 obtain ⟨t, k, u, e, a, b, ⟨vs, c1, c2⟩, d⟩ := h
 exact ⟨t, k, u, e, by rw [aO (pO a hl (by intro z; cases z))]; exact a, b, ⟨vs, by rw [aO b]; exact c1, c2.imp2 fun _ _ z => z.at hl⟩, by rw [aO (pO d hl (by intro z; cases z))]; exact d⟩
theorem Cm : ∀ (n : Nat) (r : List Int) (y : Nat -> Int), r.length = n -> Fr.dot r ((List.range n).map y) = Gm.sm n fun j => r.getD j 0 * y j := by
 have go : ∀ (n : Nat) (r : List Int) (y : Nat -> Int), r.length = n -> Fr.dot r ((List.range n).map y) = Gm.sm n fun j => r.getD j 0 * y j := by
  intro n
  induction n with
  | zero =>
   intro r y h
   have := List.eq_nil_of_length_eq_zero h
   subst this
   rfl
  | succ n ih =>
   intro r y h
   have hne : r ≠ [] := fun e => by rw [e] at h; simp at h
   have e : r = r.dropLast ++ [r.getLast hne] := (List.dropLast_concat_getLast hne).symm
   have dl : r.dropLast.length = n := by rw [List.length_dropLast]; omega
   rw [List.range_succ, List.map_append]
   show Fr.dot r ((List.range n).map y ++ [y n]) = Gm.sm n (fun j => r.getD j 0 * y j) + r.getD n 0 * y n
   have e2 : Gm.sm n (fun j => r.getD j 0 * y j) = Gm.sm n fun j => r.dropLast.getD j 0 * y j := Gm.sm_congr fun j hj => by
    congr 1
    conv => lhs; rw [e]
    rw [List.getD_eq_getElem?_getD, List.getElem?_append_left (by omega), List.getD_eq_getElem?_getD]
   have e3 : r.getD n 0 = r.getLast hne := by
    conv => lhs; rw [e]
    rw [List.getD_eq_getElem?_getD, List.getElem?_append_right (by omega), dl]
    simp
   rw [e2, e3, <- ih r.dropLast y dl]
   conv => lhs; rw [e]
   exact Fr.dot_snoc _ _ _ _ (by rw [dl, List.length_map, List.length_range])
 exact go
theorem jO {U : List (List Int)} {m n : Nat} (g : Gd U m n) {i : Nat} (hi : i < m) (y : Nat -> Int) : Fr.dot (U.getD i []) ((List.range n).map y) = Gm.gain U n y i := Cm n _ y (g.row hi).2
theorem yh {a c S : Int} (h : 0 < S) : decide ((Fr.mk a S).1 * (Fr.mk c S).2 < (Fr.mk c S).1 * (Fr.mk a S).2) = decide (a < c) := by
 rw [Fr.mk_lt h h]
 exact decide_eq_decide.mpr ⟨fun q => Int.lt_of_mul_lt_mul_right q (by omega), fun q => Int.mul_lt_mul_of_pos_right q h⟩
theorem v_ {U : List (List Int)} {m n : Nat} {R C : List Nat} (g : Gd U m n) (g2 : Gm.Good2 m n R C) : Sz 60 (Gm.smM U R C) := by
 have c4 := g2.c4 g.n4
 have zs : Sz 1 (Gm.sgn (Gm.wholeM U R C)) := by unfold Gm.sgn Sz; split <;> decide
 exact (zs.mul (jP C.length _ c4 (lG g g2))).mono (by omega)
theorem Di : ∀ {l : List Int}, (∀ x ∈ l, 0 <= x) -> ∀ x ∈ l, x <= l.sum
 | [], _, x, h => nomatch h
 | y :: l, h, x, hx => by
  have h1 := h y (by simp)
  have h2 : 0 <= l.sum := by
   exact le_sum_nn (l := l) fun z hz => h z (List.mem_cons_of_mem _ hz)
  rw [List.sum_cons]
  rcases List.mem_cons.mp hx with rfl | hx
  ·omega
  ·have := Di (fun z hz => h z (by simp [hz])) x hx
   omega
where le_sum_nn : ∀ {l : List Int}, (∀ x ∈ l, 0 <= x) -> 0 <= l.sum
 | [], _ => by simp
 | y :: l, h => by
  have h1 := h y (by simp)
  have h2 := le_sum_nn fun z hz => h z (List.mem_cons_of_mem _ hz)
  rw [List.sum_cons]
  omega
theorem Dc (y : Nat -> Int) : ∀ n, ((List.range n).map y).sum = Gm.sm n y
 | 0 => rfl
 | n + 1 => by
  rw [List.range_succ, List.map_append, List.sum_append, Dc y n]
  show _ = Gm.sm n y + y n
  simp
theorem sW {U : List (List Int)} {m n : Nat} {R C : List Nat} (g : Gd U m n) (g2 : Gm.Good2 m n R C) (hw : Gm.wholeM U R C ≠ 0) (hp : ∀ q ∈ Gm.shM U R C, 0 < q) :
  (∀ x ∈ wsM U n R C, 0 <= x) /\ (wsM U n R C).sum = Gm.smM U R C /\ GQ (mks (wsM U n R C) (Gm.smM U R C)) := by
 have hS := Gm.sgn_pos hw
 have h1 : ∀ x ∈ wsM U n R C, 0 <= x := fun x hx => by
  unfold wsM at hx
  obtain ⟨j, _, rfl⟩ := List.mem_map.mp hx
  exact Gm.yOf_nn fun q hq => Int.le_of_lt (hp q hq)
 have h2 : (wsM U n R C).sum = Gm.smM U R C := by
  unfold wsM
  rw [Dc, Gm.yOf_sum g2.lt (Gm.shM_len U R C), Gm.shM_sum U g2 g.n4]
 have zb := v_ g g2
 have n4 := g.n4
 refine ⟨h1, h2, Je hS (fun x hx => ?_) zb (by rw [ul]; omega)⟩
 have a1 := h1 x hx
 have a2 := Di h1 x hx
 rw [h2] at a2
 unfold Sz at zb ⊢
 exact Nat.lt_of_le_of_lt (by omega) zb
def vJ : Sp := fun vs H Q _ => ∃ (a b c : Addr) (U : List (List Int)) (m n : Nat) (R C : List Nat), vs = [.ref a, .ref b, .ref c] /\ IsTab H a U /\ Gd U m n /\ IsNats H (.ref b) R /\ IsNats H (.ref c) C /\ Gm.Good2 m n R C /\
 (¬ Gm.Corner U m n R C -> ∀ H', Same H H' -> Q .non H') /\ (Gm.Corner U m n R C -> ∀ p H', Same H H' -> (∀ l, H l ≠ none -> IsCor l H' (.ref p) (cG U n R C)) -> Q (.ref p) H')
theorem u5 {H : Hp} (f : Int × Int -> Bool) : ∀ {vs ys : List V} {qs : List (Int × Int)}, Paired (fun x y => ∀ q, IsFr H x q -> y = V.bl (f q)) vs ys -> Paired (IsFr H) vs qs -> ys = (qs.map f).map V.bl := o8 f
theorem sX {x S : Int} (h : 0 < S) : 0 < (Fr.mk x S).1 ↔ 0 < x := by
 have h1 := Fr.mk_ratio (a := x) h
 have h2 := Fr.mk_pos (a := x) h
 constructor
 ·intro q
  have := Int.mul_pos q h
  rw [h1] at this
  exact Classical.byContradiction fun c => by
   have := Int.mul_nonpos_of_nonpos_of_nonneg (show x <= 0 by omega) (Int.le_of_lt h2)
   omega
 ·intro q
  have := Int.mul_pos q h2
  rw [<- h1] at this
  exact Classical.byContradiction fun c => by
   have := Int.mul_nonpos_of_nonpos_of_nonneg (show (Fr.mk x S).1 <= 0 by omega) (Int.le_of_lt h)
   omega
theorem sz0 : Sz 1000 0 := by unfold Sz; exact Nat.pow_pos (by decide)
abbrev rC : Stmt := top 20
theorem DK : FnScope ["table", "rows", "columns", "shares", "mixture", "gains", "number"] ["table", "rows", "columns"] (aF rC) := ⟨rfl, rfl, rfl, by decide +kernel, rfl, by decide +kernel, by decide +kernel⟩
theorem Du (F : FunM K mg "corner" rC ["table", "rows", "columns"]) (T : Blt mg) (ut : Def P w K mg base "level" ["table", "rows", "columns"] 7 xu) (cT : Def P w K mg base "below" ["one", "other"] 1 (jE K)) (iK : Def P w K mg base "spread" ["shares", "places", "count"] 1 oX) (pG : Def P w K mg base "all_get" ["rows", "mixture"] 6 vD) : Def P w K mg base "corner" ["table", "rows", "columns"] 8 vJ := by
 have S := DK
 refine Def.of F S (fun vs H Q E h => ?_) (fun f cdv A outer s H vs Q E hr h => ?_)
 ·obtain ⟨a, b, c, U, m, n, R, C, rfl, _⟩ := h
  rfl
 ·obtain ⟨a, b, c, U, m, n, R, C, rfl, hU, g, hB, hC, g2, kn, ks⟩ := h
  have m4 := g.m4
  have n4 := g.n4
  have c4 := g2.c4 g.n4
  refine ⟨_, (au (aU (i := 3) S.nd rfl (Or.inl rfl) (aK ut (hr.mono (by decide)) rfl (aa (pv 0) (aa (pv 1) (aa (pv 2) pa_nil aj) aj) aj) (he := aj)))
   (au (bj (PW.pt (dO (aX Ip (pv 3) pe_non (aQ _)) (du (bG (bK (aJ (mJ K) (by rfl) T.all_ g8 (aa (bN rfl (N' := ["share"]) (src := [none]) rfl (piL K (pv 3)) (fun _ _ _ _ _ => (aW (i := 0) (show (["share"] : List Str).Nodup from by decide +kernel) rfl (Or.inl rfl))) (fun _ _ _ _ _ => bJ) (fun _ _ _ _ _ => (aK cT (hr.mono (by decide)) rfl (aa (cQ (aa pe_int (aa pe_int pa_nil ao) ao)) (aa (pv 0) pa_nil aj) a_) (he := a_)))) pa_nil bf) (he := bf)))))))
    (aB (aN pe_non)) aP)
   (au (aU (i := 4) S.nd rfl (Or.inl rfl) (aK iK (hr.mono (by decide)) rfl (aa (pv 3) (aa (pv 2) (aa (aJ (bZ K) (by rfl) T.len_ bC (aa (aV (ixL K) (pv 0) pe_int (fun _ _ => rfl)) pa_nil aH) (he := aH)) pa_nil aZ) aj) aj) (he := aj)))
   (au (aU (i := 5) S.nd rfl (Or.inl rfl) (aK pG (hr.mono (by decide)) rfl (aa (pv 0) (aa (pv 4) pa_nil aj) aj) (he := aj)))
   (au (aU (i := 6) S.nd rfl (Or.inr rfl) (aV (ixL K) (pv 5) (aV (ixL K) (pv 1) pe_int (fun _ _ => rfl)) (fun _ _ => rfl)))
   (au (bj (bK (aJ (Kz K) (by rfl) T.any_ Ig (aa (bN rfl (N' := ["gain", "number"]) (src := [none, some 6]) rfl (piL K (pv 5)) (fun _ _ _ _ _ => (aW (i := 0) (show (["gain", "number"] : List Str).Nodup from by decide +kernel) rfl (Or.inl rfl))) (fun _ _ _ _ _ => bJ) (fun _ _ _ _ _ => (aK cT (hr.mono (by decide)) rfl (aa (pv 1) (aa (pv 0) pa_nil aj) aj) (he := aj)))) pa_nil bf) (he := bf)))
    (aB (aN pe_non)) aP)
   (aB (aN (cQ (aa (pv 4) (aa (pv 6) pa_nil aj) aj)))))))))), ?_⟩
  refine ⟨_, rfl, _, rfl, _, rfl, a, b, c, U, m, n, R, C, rfl, hU, g, hB, hC, g2, fun hw H1 s1 => ?_, fun hw p H1 s1 hpn hF => ?_⟩
  ·refine ⟨_, rfl, rfl, _, rfl, ?_⟩
   refine bH ?_
   exact kn (fun k => k.ne hw) H1 s1
  have hS : 0 < Gm.smM U R C := Gm.sgn_pos hw
  obtain ⟨vs, hvs, pr⟩ := id hF
  have shl := Gm.shM_len U R C
  have vl : vs.length = C.length := by rw [pr.length, lV, shl]
  refine ⟨_, rfl, rfl, _, rfl, ?_⟩
  refine ifN (by simp) ?_
  have zb := v_ g g2
  have zq : ∀ q ∈ mks (Gm.shM U R C) (Gm.smM U R C), Sz 60 q.1 /\ Sz 60 q.2 := fun q hq => by
   obtain ⟨x, hx, rfl⟩ := List.mem_map.mp hq
   refine ⟨Sz.fst hS ?_, zb.snd hS⟩
   unfold Gm.shM at hx
   obtain ⟨y, hy, rfl⟩ := List.mem_map.mp hx
   unfold Gm.partsM at hy
   obtain ⟨t, ht, rfl⟩ := List.mem_map.mp hy
   have zs : Sz 1 (Gm.sgn (Gm.wholeM U R C)) := by unfold Gm.sgn Sz; split <;> decide
   refine (zs.mul (jP C.length _ c4 (je (lG g g2) (List.mem_range.mp ht) ?_ ?_))).mono (by omega)
   ·unfold Gm.numsM
    rw [List.length_cons, List.length_replicate]
    have := g2.pos
    omega
   ·intro x hx
    unfold Gm.numsM at hx
    rcases List.mem_cons.mp hx with rfl | hx
    ·show (1 : Int).natAbs < 2 ^ 9
     decide
    ·rw [(List.mem_replicate.mp hx).2]
     show (0 : Int).natAbs < 2 ^ 9
     decide
  refine ⟨_, rfl, p, rfl, ⟨_, SqL.of hvs⟩, bQ (xs := vs) (fun x y _ => ∀ q, IsFr H1 x q -> y = .bl (decide (0 < q.1))) (fun _ _ _ _ _ h => h) (SqL.of hvs) (by rw [vl]; exact Nat.le_of_lt (aR (by omega))) ?_ ?_⟩
  ·intro x hx H2 s2 Q' q
   obtain ⟨r, hr', hf⟩ := pr.mem2 hx
   obtain ⟨d, rfl, hd⟩ := id hf
   refine ⟨(by show 2 <= sizeLine; decide), fun t ht => ⟨_, rfl, t, d, _, _, _, _, rfl, SqT.of az, SqT.of (aq ht _ _ (s2 _ _ hd)), sz0, sz1, (zq r hr').1.mono (by decide), (zq r hr').2.mono (by decide), ?_⟩⟩
   refine q _ _ (aq ht) fun q' h' => ?_
   rw [hf.inj h']
   congr 1
   rw [Int.zero_mul, Int.mul_one]
  intro ys H2 s2 prb qb hqb
  have eb := u5 (fun q => decide (0 < q.1)) prb pr
  subst eb
  refine ⟨qb, _, rfl, SqL.of az, ?_⟩
  rw [List.all_map]
  have s12 : Same H1 (upd H2 qb (.lst (((mks (Gm.shM U R C) (Gm.smM U R C)).map fun q => decide (0 < q.1)).map V.bl))) := s2.trans (aq hqb)
  generalize upd H2 qb (.lst (((mks (Gm.shM U R C) (Gm.smM U R C)).map fun q => decide (0 < q.1)).map V.bl)) = H3 at s12 ⊢
  have s13 := s1.trans s12
  have eall : (mks (Gm.shM U R C) (Gm.smM U R C)).all (id ∘ fun q => decide (0 < q.1)) = true ↔ ∀ q ∈ Gm.shM U R C, 0 < q := by
   rw [List.all_eq_true]
   constructor
   ·intro h q hq
    exact (sX hS).mp (of_decide_eq_true (h _ (List.mem_map.mpr ⟨q, hq, rfl⟩)))
   ·intro h q hq
    obtain ⟨x, hx, rfl⟩ := List.mem_map.mp hq
    exact decide_eq_true ((sX hS).mpr (h x hx))
  refine ⟨_, rfl, ?_⟩
  by_cases hpos : ∀ q ∈ Gm.shM U R C, 0 < q
  rotate_left
  ·have hf : (mks (Gm.shM U R C) (Gm.smM U R C)).all (id ∘ fun q => decide (0 < q.1)) = false := by
    cases e : (mks (Gm.shM U R C) (Gm.smM U R C)).all (id ∘ fun q => decide (0 < q.1)) with
    | false => rfl
    | true => exact absurd (eall.mp e) hpos
   rw [hf]
   refine bH ?_
   exact kn (fun k => hpos k.pos) H3 s13
  rw [eall.mpr hpos]
  refine bW ?_
  obtain ⟨w1, w2, w3⟩ := sW g g2 hw hpos
  have hU3 := hU.mono s13
  obtain ⟨vs3, b0, ha3, h03, at03, hb03⟩ := hU3.row (i := 0) (by rw [g.rows]; exact g.m1)
  have hl0 : ((U.getD 0 []).map V.int).length = n := by rw [List.length_map, (g.row g.m1).2]
  refine ⟨_, rfl, _, rfl, _, rfl, a, vs3, 0, _, rfl, rfl, SqL.of ha3, at03, b0, _, rfl, .inl (SqL.of hb03), p, c, _, C, n, (by rw [hl0]; rfl), hF.mono s12, hC.mono s13, by rw [lV, shl], g2.lt, n4, fun mx H4 s4 hmx hM => ?_⟩
  rw [Em hS g2.nd shl g2.lt] at hM
  have s14 := s13.trans s4
  refine ⟨_, rfl, _, rfl, a, mx, U, m, n, _, rfl, hU.mono s14, g, hM, w3, fun gn H5 s5 hgn hG => ?_⟩
  have s15 := s14.trans s5
  have eg : (U.map fun r => iT r (mks (wsM U n R C) (Gm.smM U R C))) = mks (U.map fun r => Fr.dot r (wsM U n R C)) (Gm.smM U R C) := by
   unfold mks
   rw [List.map_map]
   exact List.map_congr_left fun r hr' => yJ hS (g.sz hr') w3
  rw [show (mks ((List.range n).map (Gm.yOf C (Gm.shM U R C))) (Gm.smM U R C)) = mks (wsM U n R C) (Gm.smM U R C) from rfl, eg] at hG
  obtain ⟨gv, hgv, prg⟩ := id hG
  have gl : gv.length = m := by rw [prg.length, lV, List.length_map, g.rows]
  obtain ⟨b', eb', hb⟩ := id hB
  cases eb'
  have h0m := g2.r0m
  have r0 : R.getD 0 0 = R.headD 0 := by cases R <;> rfl
  have rl := g2.len
  have cp := g2.pos
  have rt : atI (R.map fun (i : Nat) => V.int i) (0 : Int) = some (.int (R.headD 0 : Nat)) := by
   have := Ek (l := R) (t := 0) (by omega)
   rw [r0] at this
   exact this
  obtain ⟨q0, eq0, nu, enu, hnu⟩ := prg.get2 (List.getElem?_eq_getElem (show R.headD 0 < gv.length by rw [gl]; exact h0m))
  obtain ⟨x0, ex0, rfl⟩ := Hy eq0
  have ex0' : x0 = Gm.gain U n (Gm.yOf C (Gm.shM U R C)) (R.headD 0) := by
   rw [<- jO g h0m]
   rw [List.getElem?_map, List.getElem?_eq_getElem (show R.headD 0 < U.length by rw [g.rows]; exact h0m)] at ex0
   have e2 : U.getD (R.headD 0) [] = U[R.headD 0]'(by rw [g.rows]; exact h0m) := by
    rw [List.getD_eq_getElem?_getD, List.getElem?_eq_getElem]; rfl
   rw [e2]
   exact (Option.some.inj ex0).symm
  refine ⟨_, rfl, _, rfl, b, _, 0, _, rfl, rfl, SqL.of (s15 _ _ hb), rt, gn, gv, _, _, rfl, rfl, SqL.of hgv, (by rw [qK (show R.headD 0 < gv.length by rw [gl]; exact h0m), enu]), ?_⟩
  have zg : ∀ q ∈ mks (U.map fun r => Fr.dot r (wsM U n R C)) (Gm.smM U R C), Sz 1000 q.1 /\ Sz 1000 q.2 := fun q hq => by
   rw [<- eg] at hq
   obtain ⟨r, hr', rfl⟩ := List.mem_map.mp hq
   exact ⟨(uB (g.sz hr') w3).mono (by decide), (uD (g.sz hr') w3).mono (by decide)⟩
  have z0 := zg _ (List.mem_of_getElem? eq0)
  refine ⟨_, rfl, gn, rfl, ⟨_, SqL.of hgv⟩, bQ (xs := gv) (fun x y _ => ∀ q, IsFr H5 x q -> y = .bl (decide ((Fr.mk x0 (Gm.smM U R C)).1 * q.2 < q.1 * (Fr.mk x0 (Gm.smM U R C)).2))) (fun _ _ _ _ _ h => h) (SqL.of hgv) (by rw [gl]; exact Nat.le_of_lt (aR (by omega))) ?_ ?_⟩
  ·intro x hx H6 s6 Q' q
   obtain ⟨r, hr', hf⟩ := prg.mem2 hx
   obtain ⟨d, rfl, hd⟩ := id hf
   refine ⟨_, rfl, _, rfl, nu, d, _, _, _, _, rfl, SqT.of (s6 _ _ hnu), SqT.of (s6 _ _ hd), z0.1, z0.2, (zg r hr').1, (zg r hr').2, q _ H6 (Same.refl _) fun q' h' => by rw [hf.inj h']⟩
  intro ys2 H6 s6 prc qc hqc
  have ec := u5 (fun q => decide ((Fr.mk x0 (Gm.smM U R C)).1 * q.2 < q.1 * (Fr.mk x0 (Gm.smM U R C)).2)) prc prg
  subst ec
  refine ⟨qc, _, rfl, SqL.of az, ?_⟩
  rw [List.any_map]
  have eany : (mks (U.map fun r => Fr.dot r (wsM U n R C)) (Gm.smM U R C)).any (id ∘ fun q => decide ((Fr.mk x0 (Gm.smM U R C)).1 * q.2 < q.1 * (Fr.mk x0 (Gm.smM U R C)).2)) = true ↔ ∃ i, i < m /\ x0 < Gm.gain U n (Gm.yOf C (Gm.shM U R C)) i := by
   rw [List.any_eq_true]
   constructor
   ·rintro ⟨q, hq, h⟩
    obtain ⟨d, hd, rfl⟩ := List.mem_map.mp hq
    obtain ⟨r, hr', rfl⟩ := List.mem_map.mp hd
    obtain ⟨i, hi, rfl⟩ := List.mem_iff_getElem.mp hr'
    refine ⟨i, by rw [<- g.rows]; exact hi, ?_⟩
    have h' : decide ((Fr.mk x0 (Gm.smM U R C)).1 * (Fr.mk (Fr.dot U[i] (wsM U n R C)) (Gm.smM U R C)).2 < (Fr.mk (Fr.dot U[i] (wsM U n R C)) (Gm.smM U R C)).1 * (Fr.mk x0 (Gm.smM U R C)).2) = true := h
    rw [yh hS] at h'
    have e2 : U.getD i [] = U[i] := by rw [List.getD_eq_getElem?_getD, List.getElem?_eq_getElem hi]; rfl
    rw [<- jO g (by rw [<- g.rows]; exact hi), e2]
    exact of_decide_eq_true h'
   ·rintro ⟨i, hi, h⟩
    have hi' : i < U.length := by rw [g.rows]; exact hi
    have e2 : U.getD i [] = U[i] := by rw [List.getD_eq_getElem?_getD, List.getElem?_eq_getElem hi']; rfl
    refine ⟨Fr.mk (Fr.dot U[i] (wsM U n R C)) (Gm.smM U R C), List.mem_map.mpr ⟨_, List.mem_map.mpr ⟨U[i], List.getElem_mem hi', rfl⟩, rfl⟩, ?_⟩
    show decide ((Fr.mk x0 (Gm.smM U R C)).1 * (Fr.mk (Fr.dot U[i] (wsM U n R C)) (Gm.smM U R C)).2 < (Fr.mk (Fr.dot U[i] (wsM U n R C)) (Gm.smM U R C)).1 * (Fr.mk x0 (Gm.smM U R C)).2) = true
    rw [yh hS]
    rw [<- jO g hi, e2] at h
    exact decide_eq_true h
  have s6' : Same H5 (upd H6 qc (.lst (((mks (U.map fun r => Fr.dot r (wsM U n R C)) (Gm.smM U R C)).map fun q => decide ((Fr.mk x0 (Gm.smM U R C)).1 * q.2 < q.1 * (Fr.mk x0 (Gm.smM U R C)).2)).map V.bl))) := s6.trans (aq hqc)
  generalize upd H6 qc (.lst (((mks (U.map fun r => Fr.dot r (wsM U n R C)) (Gm.smM U R C)).map fun q => decide ((Fr.mk x0 (Gm.smM U R C)).1 * q.2 < q.1 * (Fr.mk x0 (Gm.smM U R C)).2)).map V.bl)) = H7 at s6' ⊢
  have s17 := s15.trans s6'
  refine ⟨_, rfl, ?_⟩
  by_cases hk : ∃ i, i < m /\ x0 < Gm.gain U n (Gm.yOf C (Gm.shM U R C)) i
  ·rw [eany.mpr hk]
   refine bH ?_
   obtain ⟨i, hi, hlt⟩ := hk
   refine kn (fun k => ?_) H7 s17
   have := k.le i hi
   rw [<- ex0'] at this
   omega
  ·have hf : (mks (U.map fun r => Fr.dot r (wsM U n R C)) (Gm.smM U R C)).any (id ∘ fun q => decide ((Fr.mk x0 (Gm.smM U R C)).1 * q.2 < q.1 * (Fr.mk x0 (Gm.smM U R C)).2)) = false := by
    cases e : (mks (U.map fun r => Fr.dot r (wsM U n R C)) (Gm.smM U R C)).any (id ∘ fun q => decide ((Fr.mk x0 (Gm.smM U R C)).1 * q.2 < q.1 * (Fr.mk x0 (Gm.smM U R C)).2)) with
    | false => rfl
    | true => exact absurd (eany.mp e) hk
   rw [hf]
   refine bW ?_
   have hcor : Gm.Corner U m n R C := ⟨hw, hpos, fun i hi => Classical.byContradiction fun c => hk ⟨i, hi, by rw [ex0']; omega⟩⟩
   refine ⟨_, rfl, _, rfl, (by show 2 <= sizeLine; decide), fun tp htp => ?_⟩
   have sE := s17.trans (aq (o := .tup [.ref mx, .ref nu]) htp)
   refine ks hcor tp _ sE fun l hl => ⟨tp, mx, nu, rfl, az, fun e => ?_, ((hM.mono s5).mono s6').mono (aq htp), ?_⟩
   ·rw [e] at hmx
    exact hl (s13.free hmx)
   ·rw [aq htp _ _ (s6' _ _ hnu), ex0']
    rfl
def frD (q : Int × Int) : D := .tup [.int q.1, .int q.2]
def dU (q : eG) : D := .tup [.lst (q.1.map frD), frD q.2]
theorem Dw {H : Hp} {p : Addr} {q : Int × Int} (h : H p = some (.tup [.int q.1, .int q.2])) : Rep K H (frD q) (.ref p) := mK h
theorem wM {H : Hp} : ∀ {vs : List V} {qs : List (Int × Int)}, Paired (IsFr H) vs qs -> Reps K H (qs.map frD) vs
 | _, _, .nil => by simp [Reps]
 | _, _, .cons h t => by
  rw [List.map_cons]
  unfold Reps
  obtain ⟨b, rfl, q⟩ := h
  exact ⟨_, _, rfl, Dw q, wM t⟩
theorem Ae {l : Addr} {H : Hp} {v : V} {q : eG} (h : IsCor l H v q) : Rep K H (dU q) v := by
 obtain ⟨t, k, u, rfl, a, _, ⟨vs, c1, c2⟩, d⟩ := h
 unfold dU Rep
 refine ⟨t, _, rfl, SqT.of a, ?_⟩
 unfold Reps
 refine ⟨_, _, rfl, ?_, ?_⟩
 ·unfold Rep
  exact ⟨k, vs, rfl, SqL.of c1, wM c2⟩
 ·unfold Reps
  exact ⟨_, _, rfl, Dw d, by simp [Reps]⟩
theorem u_ {l : Addr} {H : Hp} : ∀ {vs : List V} {qs : List eG}, Paired (IsCor l H) vs qs -> Reps K H (qs.map dU) vs
 | _, _, .nil => by simp [Reps]
 | _, _, .cons h t => by
  rw [List.map_cons]
  unfold Reps
  exact ⟨_, _, rfl, Ae h, u_ t⟩
theorem sG : ∀ ps qs : List (Int × Int), cj (ps.map frD) (qs.map frD) = true
 | [], t => by unfold cj; cases t <;> rfl
 | _ :: _, [] => by simp [cj]
 | x :: r, y :: t => by
  rw [List.map_cons, List.map_cons]
  unfold cj
  rw [sG r t, Bool.and_true]
  rfl
theorem xg (p q : eG) : cP (dU p) (dU q) = true := by
 show (cj (p.1.map frD) (q.1.map frD) && (cP (frD p.2) (frD q.2) && true)) = true
 rw [sG]
 rfl
theorem uP : ∀ ps : List (Int × Int), dM (ps.map frD) <= 1
 | [] => by decide
 | x :: r => by
  rw [List.map_cons]
  unfold dM
  have := uP r
  have e : cW (frD x) = 1 := rfl
  omega
theorem Hn (q : eG) : cW (dU q) <= 40 := by
 unfold dU
 rw [pD]
 have h1 := uP q.1
 show max (cW (.lst (q.1.map frD))) (max (cW (frD q.2)) 0) + 1 <= 40
 rw [lE]
 have e : cW (frD q.2) = 1 := rfl
 omega
theorem zJ {p q : Int × Int} (h : frD p = frD q) : p = q := by
 unfold frD at h
 simp at h
 exact Prod.ext h.1 h.2
theorem Gh {p q : eG} (h : dU p = dU q) : p = q := by
 have e := h
 unfold dU at e
 injection e with e
 injection e with e1 e2
 injection e1 with e1
 injection e2 with e2
 refine Prod.ext ?_ (zJ e2)
 have inj : ∀ (a b : List (Int × Int)), a.map frD = b.map frD -> a = b := by
  intro a
  induction a with
  | nil => intro b h; cases b with
   | nil => rfl
   | cons _ _ => simp at h
  | cons x a ih => intro b h; cases b with
   | nil => simp at h
   | cons y b =>
    rw [List.map_cons, List.map_cons] at h
    injection h with h1 h2
    rw [zJ h1, ih b h2]
 exact inj _ _ e1
theorem yH (p : eG) (ps : List eG) : (ps.map dU).any (fun e => eqD e (dU p)) = true ↔ p ∈ ps := by
 rw [List.any_eq_true]
 constructor
 ·rintro ⟨d, hd, he⟩
  obtain ⟨q, hq, rfl⟩ := List.mem_map.mp hd
  rw [<- Gh (xQ he)]
  exact hq
 ·intro h
  exact ⟨dU p, List.mem_map_of_mem h, dR _⟩
structure Cors (U : List (List Int)) (m n : Nat) (Ls : List eG) : Prop where
 of : ∀ q ∈ Ls, ∃ R C, Gm.Good2 m n R C /\ Gm.Corner U m n R C /\ q = cG U n R C
 all : ∀ R C, Gm.Good2 m n R C -> Gm.Corner U m n R C -> cG U n R C ∈ Ls
def zH : Sp := fun vs H Q _ => ∃ (a : Addr) (U : List (List Int)) (m n : Nat), vs = [.ref a] /\ IsTab H a U /\ Gd U m n /\ ∀ l zs Ls H', Same H H' -> H' l = some (.lst zs) -> Paired (IsCor l H') zs Ls -> Cors U m n Ls -> zs.length <= 1000 -> Q (.ref l) H'
abbrev jL : Stmt := top 21
theorem vW : FnScope ["table", "found", "columns", "rows", "place"] ["table"] (aF jL) := ⟨rfl, rfl, rfl, by decide +kernel, rfl, by decide +kernel, by decide +kernel⟩
theorem vV (F : FunM K mg "corners_of" jL ["table"]) (T : Blt mg) (jZ : Def P w K mg base "choices" ["count"] 1 rJ) (qL : Def P w K mg base "corner" ["table", "rows", "columns"] 8 vJ) : Def P w K mg base "corners_of" ["table"] 9 zH := by
 have S := vW
 refine Def.of F S (fun vs H Q E h => ?_) (fun f cdv A outer s H vs Q E hr h => ?_)
 ·obtain ⟨a, U, m, n, rfl, _⟩ := h
  rfl
 ·obtain ⟨a, U, m, n, rfl, hU, g, k⟩ := h
  have m4 := g.m4
  have n4 := g.n4
  refine ⟨_, (au (aU (i := 1) S.nd rfl (Or.inl rfl) (bL pa_nil))
   (au (cX PassesOwn.never rfl (piL K (aK jZ (hr.mono (by decide)) rfl (aa (aJ (bZ K) (by rfl) T.len_ bC (aa (aV (ixL K) (pv 0) pe_int (fun _ _ => rfl)) pa_nil aH) (he := aH)) pa_nil aZ) (he := aZ))) (aW (i := 2) S.nd rfl (Or.inl rfl))
    (aB (cX PassesOwn.never rfl (piL K (aK jZ (hr.mono (by decide)) rfl (aa (aJ (bZ K) (by rfl) T.len_ bC (aa (pv 0) pa_nil aj) (he := aj)) pa_nil aZ) (he := aZ))) (aW (i := 3) S.nd rfl (Or.inl rfl))
    (aB (bj (gQ dX bR pe_int (aJ (bZ K) (by rfl) T.len_ bC (aa (pv 3) pa_nil aj) (he := aj)) (aJ (bZ K) (by rfl) T.len_ bC (aa (pv 2) pa_nil aj) (he := aj)))
    (au (aU (i := 4) S.nd rfl (Or.inl rfl) (aK qL (hr.mono (by decide)) rfl (aa (pv 0) (aa (pv 3) (aa (pv 2) pa_nil aj) aj) aj) (he := aj)))
   (aB (bj (PW.pt (Dm (aX GZ (pv 4) pe_non (aQ _)) (zW (aX (J4 K hr.units) (pv 4) (pv 1) rfl))))
    (aB (bw (jY PySem.F.plainAttrs_list PySem.F.slot_list_append PySem.F.type_list_append jf (pv 1) (aa (pv 4) pa_nil aj)))) aP))) aP)))))
   (aB (aN (pv 1))))), ?_⟩
  refine ⟨Nat.zero_le _, fun l hl => ?_⟩
  have hl0 : H l = none := hl
  have s0 := aq (o := .lst []) hl
  have q0 : upd H l (.lst []) l = some (.lst []) := az
  generalize upd H l (.lst []) = H0 at s0 q0 ⊢
  have hU0 := hU.mono s0
  obtain ⟨vs0, b0, ha0, h00, at00, hb00⟩ := hU0.row (i := 0) (by rw [g.rows]; exact g.m1)
  have hln : ((U.getD 0 []).map V.int).length = n := by rw [List.length_map, (g.row g.m1).2]
  have hlm : vs0.length = m := by
   obtain ⟨vs', ha', hp⟩ := id hU0
   rw [ha0] at ha'
   cases ha'
   rw [hp.length, g.rows]
  refine ⟨_, rfl, a, vs0, 0, _, rfl, rfl, SqL.of ha0, at00, b0, _, rfl, .inl (SqL.of hb00), n, (by rw [hln]; rfl), n4, fun pc xc H1 s1 hpn hpc prc => ?_⟩
  have s01 := s0.trans s1
  have q1 := s1 _ _ q0
  have npl : pc ≠ l := fun e => by rw [e, q0] at hpn; cases hpn
  refine ⟨pc, rfl, ⟨_, SqL.of hpc⟩, dz (K := K) (a := pc) (xs := xc) (fun i σ H' => ∃ o2 o3 o4 zs Ls, σ = [some (.ref a), some (.ref l), o2, o3, o4] /\ Same H H' /\ SameX l H1 H' /\ H' l = some (.lst zs) /\ Paired (IsCor l H') zs Ls /\ zs.length <= 16 * i /\
    (∀ q ∈ Ls, ∃ R C, Gm.Good2 m n R C /\ Gm.Corner U m n R C /\ q = cG U n R C) /\ ∀ C ∈ (Gm.chM n).take i, ∀ R ∈ Gm.chM m, Gm.Good2 m n R C -> Gm.Corner U m n R C -> cG U n R C ∈ Ls)
   ⟨_, _, _, [], [], rfl, s01, SameX.refl, q1, .nil, Nat.zero_le _, (fun q h => nomatch h), fun C h => by simp at h⟩ ?_ ?_ ?_⟩
  ·rintro i σ H2 _ ⟨_, _, _, _, _, _, _, sx, _⟩
   exact SqL.of (sx _ _ npl hpc)
  ·rintro i x σ H2 hi ⟨o2, o3, o4, zs, Ls, rfl, s2, sx, hz, pz, zl, hof, hall⟩
   obtain ⟨C, hC, bc, rfl, bcn, hbc⟩ := prc.get2 hi
   have nbl : bc ≠ l := fun e => by rw [e, q0] at bcn; cases bcn
   have hbc2 := sx _ _ nbl hbc
   have il : i < 16 := by
    have h1 := (List.getElem?_eq_some_iff.mp hi).1
    rw [prc.length, jz] at h1
    have := jF n4
    omega
   obtain ⟨vs2, ha2, hp2⟩ := hU.mono s2
   have hlm : vs2.length = m := by rw [hp2.length, g.rows]
   refine ⟨_, rfl, a, vs2, rfl, .inl (SqL.of ha2), m, (by rw [hlm]; rfl), m4, fun pr xr H3 s3 hprn hpr prr => ?_⟩
   have s23 := s2.trans s3
   have nrl : pr ≠ l := fun e => by rw [e, hz] at hprn; cases hprn
   refine ⟨pr, rfl, ⟨_, SqL.of hpr⟩, dz (K := K) (a := pr) (xs := xr) (fun r σ H' => ∃ o3 o4 zs Ls, σ = [some (.ref a), some (.ref l), some (.ref bc), o3, o4] /\ Same H H' /\ SameX l H3 H' /\ H' l = some (.lst zs) /\ Paired (IsCor l H') zs Ls /\ zs.length <= 16 * i + r /\
     (∀ q ∈ Ls, ∃ R C, Gm.Good2 m n R C /\ Gm.Corner U m n R C /\ q = cG U n R C) /\ (∀ C ∈ (Gm.chM n).take i, ∀ R ∈ Gm.chM m, Gm.Good2 m n R C -> Gm.Corner U m n R C -> cG U n R C ∈ Ls) /\
     ∀ R ∈ (Gm.chM m).take r, Gm.Good2 m n R C -> Gm.Corner U m n R C -> cG U n R C ∈ Ls)
    ⟨_, _, zs, Ls, rfl, s23, SameX.refl, s3 _ _ hz, pz.imp2 fun _ _ z => z.mono s3, zl, hof, hall, fun R h => by simp at h⟩ ?_ ?_ ?_⟩
   ·rintro r σ H4 _ ⟨_, _, _, _, _, _, sx4, _⟩
    exact SqL.of (sx4 _ _ nrl hpr)
   ·rintro r y σ H4 hy ⟨o3', o4', zs4, Ls4, rfl, s4, sx4, hz4, pz4, zl4, hof4, hall4, hthis⟩
    obtain ⟨R, hR, br, rfl, brn, hbr⟩ := prr.get2 hy
    have nbrl : br ≠ l := fun e => by rw [e, hz] at brn; cases brn
    have hbr4 := sx4 _ _ nbrl hbr
    have hbc4 := sx4 _ _ nbl (s3 _ _ hbc2)
    have rl16 : r < 16 := by
     have h1 := (List.getElem?_eq_some_iff.mp hy).1
     rw [prr.length, jz] at h1
     have := jF m4
     omega
    have eR : (Gm.chM m).take (r + 1) = (Gm.chM m).take r ++ [R] := by rw [List.take_add_one, hR]; rfl
    have hRm := List.mem_of_getElem? hR
    have hCm := List.mem_of_getElem? hC
    have skip : ∀ H5, Same H H5 -> SameX l H3 H5 -> H5 l = some (.lst zs4) -> Paired (IsCor l H5) zs4 Ls4 -> (Gm.Good2 m n R C -> Gm.Corner U m n R C -> cG U n R C ∈ Ls4) -> ∀ o4'', ∃ o3 o4 zs Ls, ([some (.ref a), some (.ref l), some (.ref bc), some (.ref br), o4''] : St) = [some (.ref a), some (.ref l), some (.ref bc), o3, o4] /\ Same H H5 /\ SameX l H3 H5 /\ H5 l = some (.lst zs) /\ Paired (IsCor l H5) zs Ls /\ zs.length <= 16 * i + (r + 1) /\
     (∀ q ∈ Ls, ∃ R C, Gm.Good2 m n R C /\ Gm.Corner U m n R C /\ q = cG U n R C) /\ (∀ C ∈ (Gm.chM n).take i, ∀ R ∈ Gm.chM m, Gm.Good2 m n R C -> Gm.Corner U m n R C -> cG U n R C ∈ Ls) /\
     ∀ R ∈ (Gm.chM m).take (r + 1), Gm.Good2 m n R C -> Gm.Corner U m n R C -> cG U n R C ∈ Ls := by
     intro H5 a1 a2 a3 a4 a5 o4''
     refine ⟨_, _, zs4, Ls4, rfl, a1, a2, a3, a4, by omega, hof4, hall4, fun R' h' => ?_⟩
     rw [eR] at h'
     rcases List.mem_append.mp h' with h' | h'
     ·exact hthis R' h'
     ·rw [List.mem_singleton.mp h']
      exact a5
    refine ⟨_, rfl, br, _, rfl, .inl (SqL.of hbr4), _, _, rfl, rfl, _, rfl, ?_⟩
    by_cases h0 : 0 < R.length
    rotate_left
    ·refine ifN (by simpa using h0) ?_
     refine ⟨_, rfl, ?_⟩
     refine bW ?_
     exact skip H4 s4 sx4 hz4 pz4 (fun g2 => absurd (by rw [g2.len]; exact g2.pos) h0) _
    refine ifP (by simpa using h0) ?_
    refine ⟨_, rfl, bc, _, rfl, .inl (SqL.of hbc4), rfl, _, rfl, ?_⟩
    by_cases h1 : R.length = C.length
    rotate_left
    ·refine ifN (by rw [fU, List.length_map, List.length_map]; simpa using h1) ?_
     exact skip H4 s4 sx4 hz4 pz4 (fun g2 => absurd g2.len h1) _
    refine ifP (by rw [fU, List.length_map, List.length_map]; exact decide_eq_true h1) ?_
    have g2 : Gm.Good2 m n R C := ⟨Gm.mem_chM.mpr hRm, Gm.mem_chM.mpr hCm, h1, by omega⟩
    refine ⟨_, rfl, _, rfl, _, rfl, a, br, bc, U, m, n, R, C, rfl, hU.mono s4, g, ⟨br, rfl, hbr4⟩, ⟨bc, rfl, hbc4⟩, g2, fun hnc H5 s5 => ?_, fun hco p H5 s5 hcor => ?_⟩
    ·refine ⟨_, rfl, rfl, _, rfl, ?_⟩
     refine ifN (by simp) ?_
     exact skip H5 (s4.trans s5) (sx4.then s5) (s5 _ _ hz4) (pz4.imp2 fun _ _ z => z.mono s5) (fun _ h => absurd h hnc) _
    ·have hc := hcor l (by rw [hz4]; simp)
     have pz5 := pz4.imp2 fun _ _ z => z.mono s5
     have hz5 := s5 _ _ hz4
     refine ⟨_, rfl, rfl, _, rfl, ?_⟩
     refine ifP (by simp) ?_
     refine ⟨_, rfl, _, rfl, l, dU (cG U n R C), Ls4.map dU, zs4, rfl, Ae hc, SqL.of hz5, u_ pz5, ?_, _, rfl, ?_⟩
     ·intro d hd
      obtain ⟨q, _, rfl⟩ := List.mem_map.mp hd
      refine ⟨xg _ _, Hn _, fun d' hd' => ?_⟩
      obtain ⟨q', _, rfl⟩ := List.mem_map.mp hd'
      exact xg _ _
     by_cases hin : cG U n R C ∈ Ls4
     ·refine ifN (by simp [(yH (cG U n R C) Ls4).mpr hin]) ?_
      exact skip H5 (s4.trans s5) (sx4.then s5) hz5 pz5 (fun _ _ => hin) _
     ·have hf : ((Ls4.map dU).any fun e => eqD e (dU (cG U n R C))) = false := by
       cases e : (Ls4.map dU).any fun e => eqD e (dU (cG U n R C)) with
       | false => rfl
       | true => exact absurd ((yH _ _).mp e) hin
      refine ifP (by simp [hf]) ?_
      refine ⟨_, rfl, .inl ⟨rfl, _, SqL.of hz5⟩, _, rfl, l, zs4, .ref p, rfl, rfl, hz5, aR (by omega), ?_⟩
      refine ⟨_, _, zs4 ++ [.ref p], Ls4 ++ [cG U n R C], rfl, eE (s4.trans s5) hl0, (sx4.then s5).at, az, ?_, ?_, ?_, ?_, ?_⟩
      ·exact (pz5.imp2 fun _ _ z => z.at hz5).app2 (.cons (hc.at hz5) .nil)
      ·rw [List.length_append, List.length_singleton]; omega
      ·intro q hq
       rcases List.mem_append.mp hq with h | h
       ·exact hof4 q h
       ·rw [List.mem_singleton.mp h]
        exact ⟨R, C, g2, hco, rfl⟩
      ·intro C' hC' R' hR' a1 a2
       exact List.mem_append_left _ (hall4 C' hC' R' hR' a1 a2)
      ·intro R' hR' a1 a2
       rw [eR] at hR'
       rcases List.mem_append.mp hR' with h | h
       ·exact List.mem_append_left _ (hthis R' h a1 a2)
       ·rw [List.mem_singleton.mp h]
        exact List.mem_append_right _ (by simp)
   ·rintro σ H4 ⟨o3', o4', zs4, Ls4, rfl, s4, sx4, hz4, pz4, zl4, hof4, hall4, hthis⟩
    have xl : xr.length <= 16 := by rw [prr.length, jz]; exact jF m4
    rw [prr.length, List.take_length] at hthis
    have sx14 : SameX l H1 H4 := fun b o nb hb => sx4 b o nb (s3 b o (sx b o nb hb))
    refine ⟨_, _, _, zs4, Ls4, rfl, s4, sx14, hz4, pz4, by omega, hof4, fun C' hC' R' hR' a1 a2 => ?_⟩
    rw [List.take_add_one, hC] at hC'
    rcases List.mem_append.mp hC' with h | h
    ·exact hall4 C' h R' hR' a1 a2
    ·have e : C' = C := by simpa using h
     rw [e] at a1 a2 ⊢
     exact hthis R' hR' a1 a2
  ·rintro σ H2 ⟨o2, o3, o4, zs, Ls, rfl, s2, sx, hz, pz, zl, hof, hall⟩
   rw [prc.length, List.take_length] at hall
   have xl : xc.length <= 16 := by rw [prc.length, jz]; exact jF n4
   refine ⟨_, rfl, k l zs Ls H2 s2 hz pz ⟨hof, fun R C g2 hc => hall C (Gm.mem_chM.mp g2.cs) R (Gm.mem_chM.mp g2.rs) g2 hc⟩ (by omega)⟩
def leQ (p q : Int × Int) : Prop := p.1 * q.2 <= q.1 * p.2
theorem En {p q r : Int × Int} (hp : 0 < p.2) (hq : 0 < q.2) (hr : 0 < r.2) (h1 : leQ p q) (h2 : leQ q r) : leQ p r := by
 unfold leQ at *
 have a1 : p.1 * q.2 * r.2 <= q.1 * p.2 * r.2 := Int.mul_le_mul_of_nonneg_right h1 (Int.le_of_lt hr)
 have a2 : q.1 * r.2 * p.2 <= r.1 * q.2 * p.2 := Int.mul_le_mul_of_nonneg_right h2 (Int.le_of_lt hp)
 have a3 : p.1 * r.2 * q.2 <= r.1 * p.2 * q.2 := by grind
 exact Int.le_of_mul_le_mul_right a3 hq
def vp : Sp := fun vs H Q _ => ∃ (a l : Addr) (zs : List V) (Ls : List eG), vs = [.ref a] /\ H a = some (.lst zs) /\ Paired (IsCor l H) zs Ls /\ Ls ≠ [] /\ (∀ q ∈ Ls, 0 < q.2.2 /\ Sz 1000 q.2.1 /\ Sz 1000 q.2.2) /\ ∀ v q, q ∈ Ls -> IsCor l H v q -> (∀ q' ∈ Ls, leQ q.2 q'.2) -> Q v H
abbrev qM : Stmt := top 64
theorem Eg : FnScope ["corners", "found", "place"] ["corners"] (aF qM) := ⟨rfl, rfl, rfl, by decide +kernel, rfl, by decide +kernel, by decide +kernel⟩
theorem DW (F : FunM K mg "lowest" qM ["corners"]) (T : Blt mg) (cT : Def P w K mg base "below" ["one", "other"] 1 (jE K)) : Def P w K mg base "lowest" ["corners"] 2 vp := by
 have S := Eg
 refine Def.of F S (fun vs H Q E h => ?_) (fun f cdv A outer s H vs Q E hr h => ?_)
 ·obtain ⟨a, l, zs, Ls, rfl, _⟩ := h
  rfl
 ·obtain ⟨a, l, zs, Ls, rfl, ha, pr, hne, hsz, k⟩ := h
  have zl : zs.length = Ls.length := pr.length
  have h0 : 0 < zs.length := by rw [zl]; exact List.length_pos_iff.mpr hne
  obtain ⟨q0, e0, hc0⟩ := pr.get2 (List.getElem?_eq_getElem h0)
  refine ⟨_, (au (aU (i := 1) S.nd rfl (Or.inl rfl) (aV (ixL K) (pv 0) pe_int (fun _ _ => rfl)))
   (au (cX PassesOwn.never rfl (piL K (pv 0)) (aW (i := 2) S.nd rfl (Or.inl rfl))
    (aB (bj (bK (aK cT (hr.mono (by decide)) rfl (aa (aV (ixT K) (pv 2) pe_int (fun _ _ => rfl)) (aa (aV (ixT K) (pv 1) pe_int (fun _ _ => rfl)) pa_nil aH) aH) (he := aH)))
    (aB (aU (i := 1) S.nd rfl (Or.inl rfl) (pv 2))) aP)))
   (aB (aN (pv 1))))), ?_⟩
  refine ⟨_, rfl, a, zs, 0, _, rfl, rfl, SqL.of ha, qK h0, ?_⟩
  refine ⟨_, rfl, a, rfl, ⟨_, SqL.of ha⟩, dz (K := K) (a := a) (xs := zs) (fun i σ H' => ∃ v q o, σ = [some (.ref a), some v, o] /\ H' = H /\ q ∈ Ls /\ IsCor l H v q /\ ∀ q' ∈ Ls.take i, leQ q.2 q'.2)
   ⟨_, q0, _, rfl, rfl, List.mem_of_getElem? e0, hc0, fun q' h => by simp at h⟩ ?_ ?_ ?_⟩
  ·rintro i σ H' _ ⟨_, _, _, _, rfl, _⟩
   exact SqL.of ha
  ·rintro i x σ H' hi ⟨v, q, o, rfl, rfl, hq, hc, hle⟩
   obtain ⟨y, hy, hcy⟩ := pr.get2 hi
   have my := List.mem_of_getElem? hy
   obtain ⟨t, kk, u, rfl, t1, _, _, t2⟩ := id hc
   obtain ⟨t', kk', u', rfl, t1', _, _, t2'⟩ := id hcy
   have et : Ls.take (i + 1) = Ls.take i ++ [y] := by rw [List.take_add_one, hy]; rfl
   obtain ⟨p1, z1, z2⟩ := hsz q hq
   obtain ⟨p1', z1', z2'⟩ := hsz y my
   refine ⟨_, rfl, t', _, 1, _, rfl, rfl, SqT.of t1', rfl, _, rfl, t, _, 1, _, rfl, rfl, SqT.of t1, rfl, u', u, _, _, _, _, rfl, SqT.of t2', SqT.of t2, z1', z2', z1, z2, _, rfl, ?_⟩
   by_cases hlt : y.2.1 * q.2.2 < q.2.1 * y.2.2
   ·refine ifP (decide_eq_true hlt) ?_
    refine ⟨_, rfl, _, y, _, rfl, rfl, my, hcy, fun q' h => ?_⟩
    rw [et] at h
    rcases List.mem_append.mp h with h | h
    ·exact En p1' p1 (hsz q' (List.mem_of_mem_take h)).1 (Int.le_of_lt hlt) (hle q' h)
    ·rw [List.mem_singleton.mp h]
     exact Int.le_refl _
   ·refine ifN (by simpa using hlt) ?_
    refine ⟨_, q, _, rfl, rfl, hq, hc, fun q' h => ?_⟩
    rw [et] at h
    rcases List.mem_append.mp h with h | h
    ·exact hle q' h
    ·rw [List.mem_singleton.mp h]
     unfold leQ
     omega
  ·rintro σ H' ⟨v, q, o, rfl, rfl, hq, hc, hle⟩
   rw [zl, List.take_length] at hle
   exact ⟨_, rfl, k v q hq hc hle⟩
def Br (u l1 l2 : Addr) : List (Str × V) := cN "theirs" (.ref l2) (cN "mine" (.ref l1) (cN "value" (.ref u) []))
theorem fV2 : ¬ (("value" : Str) = "theirs") := by decide +kernel
theorem fV3 : ¬ (("value" : Str) = "mine") := by decide +kernel
theorem rY (u l1 l2 : Addr) : (Br u l1 l2).lookup ("value" : Str) = some (.ref u) := by
 unfold Br
 rw [gw, if_neg fV2, gw, if_neg fV3, gw, if_pos rfl]
def wX (C : Addr) : Sp := fun vs H Q _ => ∃ (p dx u b c : Addr) (xs ys : List V), vs = [.ref p, .ref u, .ref b, .ref c] /\ H p = some (.ins C dx []) /\ H b = some (.lst xs) /\ H c = some (.lst ys) /\
 ∀ l1 l2 H', H l1 = none -> H l2 = none -> l1 ≠ l2 -> H' l1 = some (.lst xs) -> H' l2 = some (.lst ys) -> H' p = some (.ins C dx (Br u l1 l2)) -> (∀ q o, H q = some o -> q ≠ p -> H' q = some o) -> Q .non H'
abbrev jg : Stmt := inClass (top 59) 0
theorem tW : FnScope ["self", "value", "mine", "theirs"] ["self", "value", "mine", "theirs"] (aF jg) := ⟨rfl, rfl, rfl, by decide +kernel, rfl, by decide +kernel, by decide +kernel⟩
theorem uf {C : Addr} (F : FunC K C "__init__" "Solved.__init__" jg ["self", "value", "mine", "theirs"]) (T : Blt mg) (C_Solved : Cl K mg "Solved" ["value", "mine", "theirs"] [] C) : DefC P w K mg base C "__init__" ["self", "value", "mine", "theirs"] 1 (wX C) := by
 have S := tW
 refine DefC.of F S (fun vs H Q E h => ?_) (fun f cdv A outer s H vs Q E hr h => ?_)
 ·obtain ⟨p, dx, u, b, c, xs, ys, rfl, _⟩ := h
  rfl
 ·obtain ⟨p, dx, u, b, c, xs, ys, rfl, hp, hb, hc, k⟩ := h
  have nbp : b ≠ p := pO hb hp (by intro z; cases z)
  have ncp : c ≠ p := pO hc hp (by intro z; cases z)
  refine ⟨_, (au (tQ (pv 0) (pv 1) rfl)
   (au (tQ (pv 0) (pH (uz K) (by rfl) T.list_ d9 (aa (pv 2) pa_nil aj) (he := aj)) rfl)
   (aB (tQ (pv 0) (pH (uz K) (by rfl) T.list_ d9 (aa (pv 3) pa_nil aj) (he := aj)) rfl)))), ?_⟩
  refine ⟨_, rfl, _, rfl, p, C, dx, [], rfl, hp, C_Solved.cl, C_Solved.no _ (by simp), (by show 0 < 1000; decide), ?_⟩
  have kp1 : ∀ q o, H q = some o -> q ≠ p -> upd H p (.ins C dx (cN "value" (.ref u) [])) q = some o := fun q o e nq => by rw [aO nq]; exact e
  have hp1 : upd H p (.ins C dx (cN "value" (.ref u) [])) p = some (.ins C dx (cN "value" (.ref u) [])) := az
  have fr1 : ∀ q, upd H p (.ins C dx (cN "value" (.ref u) [])) q = none -> H q = none := fun q e => by
   by_cases z : q = p
   ·rw [z, az] at e; cases e
   ·rw [aO z] at e; exact e
  generalize upd H p (.ins C dx (cN "value" (.ref u) [])) = H1 at kp1 hp1 fr1 ⊢
  have hb1 := kp1 _ _ hb nbp
  have hc1 := kp1 _ _ hc ncp
  refine ⟨_, rfl, b, xs, rfl, .inl (SqL.of hb1), fun l1 h1 => ?_⟩
  have np1 : p ≠ l1 := bh hp1 h1
  have nc1 : c ≠ l1 := bh hc1 h1
  refine ⟨_, rfl, p, C, dx, _, rfl, aq h1 _ _ hp1, C_Solved.cl, C_Solved.no _ (by simp), (by show 1 < 1000; decide), ?_⟩
  refine ⟨_, rfl, c, ys, rfl, .inl (SqL.of (by rw [aO ncp, aO nc1]; exact hc1)), fun l2 h2 => ?_⟩
  have np2 : p ≠ l2 := fun e => by rw [<- e, az] at h2; cases h2
  have n12 : l1 ≠ l2 := fun e => by rw [<- e, aO np1.symm, az] at h2; cases h2
  have h2' : H1 l2 = none := by rw [aO np2.symm, aO n12.symm] at h2; exact h2
  refine ⟨_, rfl, p, C, dx, _, rfl, (by rw [aO np2, az]), C_Solved.cl, C_Solved.no _ (by simp), (by show 2 < 1000; decide), ?_⟩
  refine k l1 l2 _ (fr1 _ h1) (fr1 _ h2') n12 ?_ ?_ az fun q o e nq => ?_
  ·rw [aO np1.symm, aO n12, aO np1.symm, az]
  ·rw [aO np2.symm, az]
  ·have e1 := kp1 q o e nq
   rw [aO nq, aO (bh e1 h2'), aO nq, aO (bh e1 h1)]
   exact e1
theorem JD {a b c d : Int} (hb : 0 < b) (hd : 0 < d) (h : leQ (Fr.mk a b) (Fr.mk c d)) : a * d <= c * b := by
 have e := Fr.mk_lt (a := c) (b := d) (c := a) (d := b) hd hb
 unfold leQ at h
 have h1 : decide ((Fr.mk c d).1 * (Fr.mk a b).2 < (Fr.mk a b).1 * (Fr.mk c d).2) = false := decide_eq_false (by omega)
 rw [h1] at e
 have := of_decide_eq_false e.symm
 omega
theorem Dz (a : Nat -> Nat -> Int) {m n : Nat} (hm : 0 < m) (hn : 0 < n) : ∃ y S N, Gm.Pt a m n y S N := by
 obtain ⟨i, hi, h⟩ := Gm.max_of (fun i => Gm.sm n fun j => a i j * (if j = 0 then 1 else 0)) hm
 refine ⟨fun j => if j = 0 then 1 else 0, 1, _, by decide, fun j _ => by show (0 : Int) <= if j = 0 then 1 else 0; split <;> decide, ?_, h, ⟨i, hi, rfl⟩⟩
 rw [Gm.sm_single, if_pos hn]
theorem Ab {U : List (List Int)} {m n : Nat} (g : Gd U m n) {Ls : List eG} (hC : Cors U m n Ls) {R C : List Nat} (g2 : Gm.Good2 m n R C) (hk : Gm.Corner U m n R C) (hmin : ∀ q' ∈ Ls, leQ (cG U n R C).2 q'.2) :
  ∀ y' S' N', Gm.Pt (Gm.cell U) m n y' S' N' -> Gm.gain U n (Gm.yOf C (Gm.shM U R C)) (R.headD 0) * S' <= N' * Gm.smM U R C := by
 intro y' S' N' P
 obtain ⟨R1, C1, g1, k1, h1⟩ := Gm.complete P g.m4 g.n4
 have hS : 0 < Gm.smM U R C := Gm.sgn_pos hk.ne
 have hS1 : 0 < Gm.smM U R1 C1 := Gm.sgn_pos k1.ne
 have h2 := JD hS hS1 (hmin _ (hC.all R1 C1 g1 k1))
 have a1 := Int.mul_le_mul_of_nonneg_right h2 (Int.le_of_lt P.pos)
 have a2 := Int.mul_le_mul_of_nonneg_right h1 (Int.le_of_lt hS)
 generalize Gm.gain U n (Gm.yOf C (Gm.shM U R C)) (R.headD 0) = N at *
 generalize Gm.gain U n (Gm.yOf C1 (Gm.shM U R1 C1)) (R1.headD 0) = N1 at *
 generalize Gm.smM U R C = SS at *
 generalize Gm.smM U R1 C1 = S1 at *
 have a3 : N * S' * S1 <= N' * SS * S1 := by grind
 exact Int.le_of_mul_le_mul_right a3 hS1
theorem rO {U : List (List Int)} {m n : Nat} (g : Gd U m n) {R C : List Nat} (g2 : Gm.Good2 m n R C) (hk : Gm.Corner U m n R C) : 0 < (cG U n R C).2.2 /\ Sz 1000 (cG U n R C).2.1 /\ Sz 1000 (cG U n R C).2.2 /\ Sz 900 (cG U n R C).2.1 /\ Sz 900 (cG U n R C).2.2 := by
 have hS : 0 < Gm.smM U R C := Gm.sgn_pos hk.ne
 obtain ⟨_, _, w3⟩ := sW g g2 hk.ne hk.pos
 have hr := (g.row g2.r0m).1
 have e : (cG U n R C).2 = iT (U.getD (R.headD 0) []) (mks (wsM U n R C) (Gm.smM U R C)) := by
  rw [yJ hS (g.sz hr) w3]
  show Fr.mk _ _ = Fr.mk _ _
  congr 1
  exact (jO g g2.r0m _).symm
 rw [e]
 exact ⟨(Hh (g.sz hr) w3).pos, (uB (g.sz hr) w3).mono (by decide), (uD (g.sz hr) w3).mono (by decide), uB (g.sz hr) w3, uD (g.sz hr) w3⟩
structure SolM (U : List (List Int)) (m n : Nat) (N S : Int) (ys : List Int) (X : Int) (xs : List Int) : Prop where
 pos : 0 < S
 posx : 0 < X
 gy : GQ (mks ys S)
 gx : GQ (mks xs X)
 ly : ys.length = n
 lx : xs.length = m
 ny : ∀ x ∈ ys, 0 <= x
 nx : ∀ x ∈ xs, 0 <= x
 sy : ys.sum = S
 sx : xs.sum = X
 rows : ∀ r ∈ U, Fr.dot r ys <= N
 cls : ∀ c ∈ cols U n, N * X <= Fr.dot c xs * S
 z1 : Sz 1000 (Fr.mk N S).1
 z2 : Sz 1000 (Fr.mk N S).2
 pt : ∃ y, Gm.Pt (Gm.cell U) m n y S N
 min : ∀ y' S' N', Gm.Pt (Gm.cell U) m n y' S' N' -> N * S' <= N' * S
 w1 : Sz 900 (Fr.mk N S).1
 w2 : Sz 900 (Fr.mk N S).2
theorem SolM.value {U : List (List Int)} {m n : Nat} {N S X N' S' X' : Int} {ys xs ys' xs' : List Int} (h : SolM U m n N S ys X xs) (h' : SolM U m n N' S' ys' X' xs') : Fr.mk N S = Fr.mk N' S' := by
 obtain ⟨y, p⟩ := h.pt
 obtain ⟨y', p'⟩ := h'.pt
 have a1 := h.min _ _ _ p'
 have a2 := h'.min _ _ _ p
 exact Fr.mk_cross h.pos h'.pos (by omega)
theorem Jf {U : List (List Int)} {m n : Nat} (g : Gd U m n) {Ls Ls' : List eG} (hC : Cors U m n Ls) (hC' : Cors (trn U n) n m Ls') {R C R' C' : List Nat} (g2 : Gm.Good2 m n R C) (hk : Gm.Corner U m n R C) (hmin : ∀ q' ∈ Ls, leQ (cG U n R C).2 q'.2)
  (g2' : Gm.Good2 n m R' C') (hk' : Gm.Corner (trn U n) n m R' C') (hmin' : ∀ q' ∈ Ls', leQ (cG (trn U n) m R' C').2 q'.2) :
  SolM U m n (Gm.gain U n (Gm.yOf C (Gm.shM U R C)) (R.headD 0)) (Gm.smM U R C) (wsM U n R C) (Gm.smM (trn U n) R' C') (wsM (trn U n) m R' C') := by
 have gV := yt g
 have hS : 0 < Gm.smM U R C := Gm.sgn_pos hk.ne
 have hX : 0 < Gm.smM (trn U n) R' C' := Gm.sgn_pos hk'.ne
 obtain ⟨a1, a2, a3⟩ := sW g g2 hk.ne hk.pos
 obtain ⟨b1, b2, b3⟩ := sW gV g2' hk'.ne hk'.pos
 have P := Gm.corner_pt g2 g.n4 hk
 have P' := Gm.corner_pt g2' g.m4 hk'
 have m1 := Ab g hC g2 hk hmin
 have m2 := Ab gV hC' g2' hk' hmin'
 have hb : ∀ i j, i < m -> j < n -> Gm.cell (trn U n) j i = - Gm.cell U i j := fun i j hi hj => G_ g hj hi
 have mt := Gm.meet (a := Gm.cell U) (b := Gm.cell (trn U n)) g.n1 g.m1 hb P m1 P' m2
 have z := rO g g2 hk
 refine ⟨hS, hX, a3, b3, ul .., ul .., a1, b1, a2, b2, fun r hr => ?_, fun c hc => ?_, z.2.1, z.2.2.1, ⟨_, P⟩, m1, z.2.2.2.1, z.2.2.2.2⟩
 ·obtain ⟨i, hi, rfl⟩ := Ef hr
  rw [g.rows] at hi
  have := hk.le i hi
  rw [<- jO g hi] at this
  exact this
 ·
  have hc0 := hc
  unfold cols at hc
  obtain ⟨j, hj, rfl⟩ := List.mem_map.mp hc
  have hj := List.mem_range.mp hj
  have h1 := hk'.le j hj
  have e1 : Gm.gain (trn U n) m (Gm.yOf C' (Gm.shM (trn U n) R' C')) j = - Fr.dot (U.map fun r => r.getD j 0) (wsM (trn U n) m R' C') := by
   unfold wsM
   rw [Cm m _ _ (by rw [List.length_map, g.rows])]
   have : (Gm.sm m fun i => (U.map fun r => r.getD j 0).getD i 0 * Gm.yOf C' (Gm.shM (trn U n) R' C') i) = -1 * Gm.gain (trn U n) m (Gm.yOf C' (Gm.shM (trn U n) R' C')) j := by
    unfold Gm.gain
    rw [<- Gm.sm_mul]
    refine Gm.sm_congr fun i hi => ?_
    rw [hb i j hi hj, map_getD (fun r => r.getD j 0) U 0 (by rw [g.rows]; exact hi)]
    show Gm.cell U i j * _ = _
    grind
   rw [this]; omega
  rw [e1] at h1
  generalize Fr.dot (U.map fun r => r.getD j 0) (wsM (trn U n) m R' C') = d at *
  generalize Gm.gain (trn U n) m (Gm.yOf C' (Gm.shM (trn U n) R' C')) (R'.headD 0) = N' at *
  generalize Gm.gain U n (Gm.yOf C (Gm.shM U R C)) (R.headD 0) = N at *
  have h2 := Int.mul_le_mul_of_nonneg_right h1 (Int.le_of_lt hS)
  grind
def o_ (C : Addr) : Sp := fun vs H Q _ => ∃ (a : Addr) (U : List (List Int)) (m n : Nat), vs = [.ref a] /\ IsTab H a U /\ Gd U m n /\
 ∀ p dx u l1 l2 H' N S ys X xs, Same H H' -> H p = none -> H l1 = none -> H l2 = none -> l1 ≠ l2 -> H' p = some (.ins C dx (Br u l1 l2)) -> H' u = some (.tup [.int (Fr.mk N S).1, .int (Fr.mk N S).2]) -> IsFrs H' l1 (mks xs X) -> IsFrs H' l2 (mks ys S) -> SolM U m n N S ys X xs -> Q (.ref p) H'
abbrev qP : Stmt := top 65
theorem CV : FnScope ["table", "theirs", "mine"] ["table"] (aF qP) := ⟨rfl, rfl, rfl, by decide +kernel, rfl, by decide +kernel, by decide +kernel⟩
theorem Cu {CS : Addr} (F : FunM K mg "evened" qP ["table"]) (T : Blt mg) (C_Solved : Cl K mg "Solved" ["value", "mine", "theirs"] [] CS) (m5 : Def P w K mg base "lowest" ["corners"] 2 vp) (h_ : Def P w K mg base "corners_of" ["table"] 9 zH)
  (fZ : Def P w K mg base "from_other_side" ["table"] 3 zT) (jm : DefC P w K mg base CS "__init__" ["self", "value", "mine", "theirs"] 1 (wX CS)) : Def P w K mg base "evened" ["table"] 10 (o_ CS) := by
 have S := CV
 refine Def.of F S (fun vs H Q E h => ?_) (fun f cdv A outer s H vs Q E hr h => ?_)
 ·obtain ⟨a, U, m, n, rfl, _⟩ := h
  rfl
 ·obtain ⟨a, U, m, n, rfl, hU, g, k⟩ := h
  have gV := yt g
  have some1 : ∀ {V : List (List Int)} {m n : Nat} {Ls : List eG}, Gd V m n -> Cors V m n Ls -> Ls ≠ [] := by
   intro V m n Ls gv hc
   obtain ⟨y, S0, N0, P0⟩ := Dz (Gm.cell V) gv.m1 gv.n1
   obtain ⟨R1, C1, g1, k1, _⟩ := Gm.complete P0 gv.m4 gv.n4
   exact List.ne_nil_of_mem (hc.all R1 C1 g1 k1)
  have szs : ∀ {V : List (List Int)} {m n : Nat} {Ls : List eG}, Gd V m n -> Cors V m n Ls -> ∀ q ∈ Ls, 0 < q.2.2 /\ Sz 1000 q.2.1 /\ Sz 1000 q.2.2 := by
   intro V m n Ls gv hc q hq
   obtain ⟨R1, C1, g1, k1, rfl⟩ := hc.of q hq
   exact ⟨(rO gv g1 k1).1, (rO gv g1 k1).2.1, (rO gv g1 k1).2.2.1⟩
  refine ⟨_, (au (aU (i := 1) S.nd rfl (Or.inl rfl) (aK m5 (hr.mono (by decide)) rfl (aa (aK h_ (hr.mono (by decide)) rfl (aa (pv 0) pa_nil aj) (he := aj)) pa_nil aZ) (he := aZ)))
   (au (aU (i := 2) S.nd rfl (Or.inl rfl) (aK m5 (hr.mono (by decide)) rfl (aa (aK h_ (hr.mono (by decide)) rfl (aa (aK fZ (hr.mono (by decide)) rfl (aa (pv 0) pa_nil aj) (he := aj)) pa_nil aZ) (he := aZ)) pa_nil aZ) (he := aZ)))
   (aB (aN (xR jm C_Solved (hr.mono (by decide)) rfl (aa (aV (ixT K) (pv 1) pe_int (fun _ _ => rfl)) (aa (aV (ixT K) (pv 2) pe_int (fun _ _ => rfl)) (aa (aV (ixT K) (pv 1) pe_int (fun _ _ => rfl)) pa_nil aH) aH) aH) (he := aH)))))), ?_⟩
  refine ⟨_, rfl, a, U, m, n, rfl, hU, g, fun l zs Ls H1 s1 hl pz hC _ => ?_⟩
  refine ⟨l, l, zs, Ls, rfl, hl, pz, some1 g hC, szs g hC, fun v q hq hcor hmin => ?_⟩
  refine ⟨_, rfl, a, U, m, n, rfl, hU.mono s1, g, fun pv H2 s2 own => ?_⟩
  refine ⟨pv, _, n, m, rfl, own.tab, gV, fun l' zs' Ls' H3 s3 hl' pz' hC' _ => ?_⟩
  refine ⟨l', l', zs', Ls', rfl, hl', pz', some1 gV hC', szs gV hC', fun v' q' hq' hcor' hmin' => ?_⟩
  have s23 := s2.trans s3
  have s13 := s1.trans s23
  obtain ⟨R, C, g2, hk, rfl⟩ := hC.of q hq
  obtain ⟨R', C', g2', hk', rfl⟩ := hC'.of q' hq'
  obtain ⟨t, kk, u, rfl, t1, _, hF, t2⟩ := hcor.mono s23
  obtain ⟨t', kk', u', rfl, t1', _, hF', _⟩ := hcor'
  obtain ⟨vs1, e1, pr1⟩ := id hF
  obtain ⟨vs2, e2, pr2⟩ := id hF'
  refine ⟨_, rfl, t, _, 1, _, rfl, rfl, SqT.of t1, rfl, ?_⟩
  refine ⟨_, rfl, t', _, 0, _, rfl, rfl, SqT.of t1', rfl, ?_⟩
  refine ⟨_, rfl, t, _, 0, _, rfl, rfl, SqT.of t1, rfl, ?_⟩
  intro x dx nx ndx nex
  have sm0 : Same H3 (upd (upd H3 dx (.own x)) x (.ins CS dx [])) := fun c o e => by
   rw [aO (bh e nx), aO (bh e ndx)]
   exact e
  refine ⟨x, dx, u, kk', kk, vs2, vs1, rfl, az, sm0 _ _ e2, sm0 _ _ e1, fun l1 l2 HU n1' n2' n12 hl1 hl2 hins kp => ⟨rfl, ?_⟩⟩
  have sU : Same H3 HU := fun c o e => kp c o (sm0 c o e) (bh e nx)
  have sm1 := s13.trans sm0
  exact k x dx u l1 l2 HU _ _ _ _ _ (s13.trans sU) (s13.free nx) (sm1.free n1') (sm1.free n2') n12 hins (sU _ _ t2) ⟨vs2, hl1, pr2.imp2 fun _ _ z => z.mono sU⟩ ⟨vs1, hl2, pr1.imp2 fun _ _ z => z.mono sU⟩ (Jf g hC hC' g2 hk hmin g2' hk' hmin')
def uQ (C : Addr) : Sp := fun vs H Q E => (∃ (a : Addr) (U : List (List Int)) (m n : Nat), vs = [.ref a] /\ Good U m n /\ IsTab H a U) /\ o_ C vs H Q E
abbrev mH : Stmt := top 66
theorem vz : FnScope ["table"] ["table"] (aF mH) := ⟨rfl, rfl, rfl, by decide +kernel, rfl, by decide +kernel, by decide +kernel⟩
theorem Ep {CS : Addr} (F : FunM K mg "solved" mH ["table"]) (T : Blt mg) (bB : Def P w K mg base "check_table" ["thing"] 4 iV) (qF : Def P w K mg base "evened" ["table"] 10 (o_ CS)) : Def P w K mg base "solved" ["table"] 11 (uQ CS) := by
 have S := vz
 refine Def.of F S (fun vs H Q E h => ?_) (fun f cdv A outer s H vs Q E hr h => ?_)
 ·obtain ⟨⟨a, U, m, n, rfl, _⟩, _⟩ := h
  rfl
 ·obtain ⟨⟨a, U, m, n, rfl, gG, hU⟩, a', U', m', n', e, hU', g, k⟩ := h
  cases e
  refine ⟨_, (au (bw (aK bB (hr.mono (by decide)) rfl (aa (pv 0) pa_nil aj) (he := aj)))
   (aB (aN (aK qF (hr.mono (by decide)) rfl (aa (pv 0) pa_nil aj) (he := aj))))), ?_⟩
  refine ⟨_, rfl, a, U, m, n, rfl, hU, gG, fun H1 s1 => ?_⟩
  exact ⟨_, rfl, a, U', m', n', rfl, hU'.mono s1, g, fun p dx u l1 l2 H' N S ys X xs s' b1 b2 b3 b4 b5 b6 b7 b8 b9 => k p dx u l1 l2 H' N S ys X xs (s1.trans s') (s1.free b1) (s1.free b2) (s1.free b3) b4 b5 b6 b7 b8 b9⟩
def ue : Sp := fun vs H Q _ => ∃ (a b : Addr) (U W : List (List Int)) (m n m' n' : Nat), vs = [.ref a, .ref b] /\ IsTab H a U /\ Good U m n /\ IsTab H b W /\ Good W m' n' /\ Q (.bl (decide (m = m') && decide (n = n'))) H
abbrev gJ : Stmt := top 40
theorem qi : FnScope ["one", "other"] ["one", "other"] (aF gJ) := ⟨rfl, rfl, rfl, by decide +kernel, rfl, by decide +kernel, by decide +kernel⟩
theorem qe (F : FunM K mg "of_same_counts" gJ ["one", "other"]) (T : Blt mg) : Def P w K mg base "of_same_counts" ["one", "other"] 1 ue := by
 have S := qi
 refine Def.of F S (fun vs H Q E h => ?_) (fun f cdv A outer s H vs Q E hr h => ?_)
 ·obtain ⟨a, b, U, W, m, n, m', n', rfl, _⟩ := h
  rfl
 ·obtain ⟨a, b, U, W, m, n, m', n', rfl, hU, g, hW, g', k⟩ := h
  obtain ⟨vs, b0, ha, h0, at0, hb0⟩ := hU.row (i := 0) (by rw [g.rows]; exact g.m1)
  obtain ⟨ws, c0, hb, k0, bt0, hc0⟩ := hW.row (i := 0) (by rw [g'.rows]; exact g'.m1)
  have el : vs.length = m := by
   obtain ⟨vs', ha', hp⟩ := id hU
   rw [ha] at ha'
   cases ha'
   rw [hp.length, g.rows]
  have fl : ws.length = m' := by
   obtain ⟨vs', ha', hp⟩ := id hW
   rw [hb] at ha'
   cases ha'
   rw [hp.length, g'.rows]
  have rl : ((U.getD 0 []).map V.int).length = n := by rw [List.length_map, (g.row g.m1).2]
  have tl : ((W.getD 0 []).map V.int).length = n' := by rw [List.length_map, (g'.row g'.m1).2]
  refine ⟨_, (aB (aN (gr (cA bR (aJ (bZ K) (by rfl) T.len_ bC (aa (pv 0) pa_nil aj) (he := aj)) (aJ (bZ K) (by rfl) T.len_ bC (aa (pv 1) pa_nil aj) (he := aj)) (aQ _)) (gA (cA bR (aJ (bZ K) (by rfl) T.len_ bC (aa (aV (ixL K) (pv 0) pe_int (fun _ _ => rfl)) pa_nil aH) (he := aH)) (aJ (bZ K) (by rfl) T.len_ bC (aa (aV (ixL K) (pv 1) pe_int (fun _ _ => rfl)) pa_nil aH) (he := aH)) (aQ _)))))), ?_⟩
  refine ⟨_, rfl, a, vs, rfl, .inl (SqL.of ha), _, rfl, b, ws, rfl, .inl (SqL.of hb), rfl, _, rfl, ?_⟩
  by_cases e : m = m'
  ·refine ifP (by rw [fU, el, fl]; exact decide_eq_true e) ?_
   refine ⟨_, rfl, a, vs, 0, _, rfl, rfl, SqL.of ha, at0, b0, _, rfl, .inl (SqL.of hb0), _, rfl, b, ws, 0, _, rfl, rfl, SqL.of hb, bt0, c0, _, rfl, .inl (SqL.of hc0), rfl, ?_⟩
   rw [fU, rl, tl]
   rw [decide_eq_true e, Bool.true_and] at k
   exact k
  ·have e1 : decide (V.int (vs.length : Int) = V.int (ws.length : Int)) = false := by rw [fU, el, fl]; exact decide_eq_false e
   rw [e1]
   refine bW ?_
   rw [decide_eq_false e, Bool.false_and] at k
   exact k
def xm : Sp := fun vs H Q _ => ∃ (a b : Addr) (U W : List (List Int)) (m n : Nat), vs = [.ref a, .ref b] /\ IsTab H a U /\ Good U m n /\ IsTab H b W /\ Good W m n /\ ∀ H', Same H H' -> Q .non H'
abbrev gD : Stmt := top 41
theorem lO : FnScope ["one", "other"] ["one", "other"] (aF gD) := ⟨rfl, rfl, rfl, by decide +kernel, rfl, by decide +kernel, by decide +kernel⟩
theorem tU (F : FunM K mg "check_alike" gD ["one", "other"]) (T : Blt mg) (bB : Def P w K mg base "check_table" ["thing"] 4 iV) (cH : Def P w K mg base "of_same_counts" ["one", "other"] 1 ue) : Def P w K mg base "check_alike" ["one", "other"] 5 xm := by
 have S := lO
 refine Def.of F S (fun vs H Q E h => ?_) (fun f cdv A outer s H vs Q E hr h => ?_)
 ·obtain ⟨a, b, U, W, m, n, rfl, _⟩ := h
  rfl
 ·obtain ⟨a, b, U, W, m, n, rfl, hU, g, hW, g', k⟩ := h
  refine ⟨_, (au (bw (aK bB (hr.mono (by decide)) rfl (aa (pv 0) pa_nil aj) (he := aj)))
   (au (bw (aK bB (hr.mono (by decide)) rfl (aa (pv 1) pa_nil aj) (he := aj)))
   (aB (bj (bG (bK (aK cH (hr.mono (by decide)) rfl (aa (pv 0) (aa (pv 1) pa_nil aj) aj) (he := aj))))
    (aB nH) aP)))), ?_⟩
  refine ⟨_, rfl, a, U, m, n, rfl, hU, g, fun H1 s1 => ?_⟩
  refine ⟨_, rfl, b, W, m, n, rfl, hW.mono s1, g', fun H2 s2 => ?_⟩
  have s12 := s1.trans s2
  refine ⟨_, rfl, _, rfl, a, b, U, W, m, n, m, n, rfl, hU.mono s12, g, hW.mono s12, g', ⟨_, rfl, ?_⟩⟩
  refine ifN (by simp) ?_
  exact k H2 s12
def Jq (l : Addr) : List (Str × V) := cN "mixture" (.ref l) []
def wJ (C : Addr) : Sp := fun vs H Q _ => ∃ (p dx b : Addr) (xs : List V), vs = [.ref p, .ref b] /\ H p = some (.ins C dx []) /\ H b = some (.lst xs) /\
 ∀ l H', H l = none -> H' l = some (.lst xs) -> H' p = some (.ins C dx (Jq l)) -> (∀ q o, H q = some o -> q ≠ p -> H' q = some o) -> Q .non H'
abbrev lD : Stmt := inClass (top 62) 0
theorem ye : FnScope ["self", "mixture"] ["self", "mixture"] (aF lD) := ⟨rfl, rfl, rfl, by decide +kernel, rfl, by decide +kernel, by decide +kernel⟩
theorem yz {C : Addr} (F : FunC K C "__init__" "Best.__init__" lD ["self", "mixture"]) (T : Blt mg) (C_Best : Cl K mg "Best" ["mixture"] [] C) : DefC P w K mg base C "__init__" ["self", "mixture"] 1 (wJ C) := by
 have S := ye
 refine DefC.of F S (fun vs H Q E h => ?_) (fun f cdv A outer s H vs Q E hr h => ?_)
 ·obtain ⟨p, dx, b, xs, rfl, _⟩ := h
  rfl
 ·obtain ⟨p, dx, b, xs, rfl, hp, hb, k⟩ := h
  refine ⟨_, (aB (tQ (pv 0) (pH (uz K) (by rfl) T.list_ d9 (aa (pv 1) pa_nil aj) (he := aj)) rfl)), ?_⟩
  refine ⟨_, rfl, b, xs, rfl, .inl (SqL.of hb), fun l h1 => ?_⟩
  have np1 : p ≠ l := bh hp h1
  refine ⟨_, rfl, p, C, dx, [], rfl, aq h1 _ _ hp, C_Best.cl, C_Best.no _ (by simp), (by show 0 < 1000; decide), ?_⟩
  refine k l _ h1 (by rw [aO np1.symm, az]) az fun q o e nq => ?_
  rw [aO nq, aO (bh e h1)]
  exact e
def Ac : Sp := fun vs H Q _ => ∃ (a : Addr) (U : List (List Int)) (m n row : Nat), vs = [.ref a, .int row] /\ IsTab H a U /\ Gd U m n /\ row < m /\ Q .non H
abbrev iZ : Stmt := top 71
theorem oY : FnScope ["table", "row"] ["table", "row"] (aF iZ) := ⟨rfl, rfl, rfl, by decide +kernel, rfl, by decide +kernel, by decide +kernel⟩
theorem wk (F : FunM K mg "check_row" iZ ["table", "row"]) (T : Blt mg) (bV : Def P w K mg base "is_whole" ["thing"] 1 nM) : Def P w K mg base "check_row" ["table", "row"] 2 Ac := by
 have S := oY
 refine Def.of F S (fun vs H Q E h => ?_) (fun f cdv A outer s H vs Q E hr h => ?_)
 ·obtain ⟨a, U, m, n, row, rfl, _⟩ := h
  rfl
 ·obtain ⟨a, U, m, n, row, rfl, hU, g, hrow, k⟩ := h
  obtain ⟨vs, ha, pr⟩ := id hU
  have vl : vs.length = m := by rw [pr.length, g.rows]
  refine ⟨_, (aB (bj (PW.pt (dO (bG (bK (aK bV (hr.mono (by decide)) rfl (aa (pv 1) pa_nil aj) (he := aj)))) (du (bG (gQ eZ dX pe_int (pv 1) (aJ (bZ K) (by rfl) T.len_ bC (aa (pv 0) pa_nil aj) (he := aj)))))))
    (aB nH) aP)), ?_⟩
  refine ⟨_, rfl, _, rfl, _, rfl, ?_⟩
  refine bW ?_
  refine ⟨_, rfl, _, _, rfl, rfl, _, rfl, ?_⟩
  refine ifP (decide_eq_true (by show (0 : Int) <= (row : Int); omega)) ?_
  refine ⟨_, rfl, a, vs, rfl, .inl (SqL.of ha), _, _, rfl, rfl, _, rfl, ?_⟩
  refine rH (decide_eq_true (by rw [vl]; omega)) ?_
  exact k
theorem pZ {H : Hp} {a : Addr} {r : List Int} (h : H a = some (.lst (r.map V.int))) : Rep K H (gW r) (.ref a) := by
 unfold gW Rep
 exact ⟨a, _, rfl, SqL.of h, oN r⟩
theorem rW : Good [[1]] 1 1 := ⟨by decide, by decide, by decide, by decide, rfl, fun r hr => by simp at hr; subst hr; rfl, fun r hr x hx => by simp at hr; subst hr; simp at hx; subst hx; decide⟩
def wN : Sp := fun vs H Q _ => ∃ (a lr lc : Addr), vs = [.ref a, .ref lr, .ref lc] /\ IsTab H a [[1]] /\ H lr = some (.lst [.int 0]) /\ H lc = some (.lst [.int 0]) /\ ∀ p H', Same H H' -> IsTab H' p [[1]] -> Q (.ref p) H'
abbrev xU : Stmt := top 74
theorem Hs : FnScope ["table", "rows", "columns", "found", "row"] ["table", "rows", "columns"] (aF xU) := ⟨rfl, rfl, rfl, by decide +kernel, rfl, by decide +kernel, by decide +kernel⟩
theorem HW (F : FunM K mg "part" xU ["table", "rows", "columns"]) (T : Blt mg) : Def P w K mg base "part" ["table", "rows", "columns"] 1 wN := by
 have S := Hs
 refine Def.of F S (fun vs H Q E h => ?_) (fun f cdv A outer s H vs Q E hr h => ?_)
 ·obtain ⟨a, lr, lc, rfl, _⟩ := h
  rfl
 ·obtain ⟨a, lr, lc, rfl, hU, hR, hC, k⟩ := h
  obtain ⟨vs, ha, hp⟩ := id hU
  cases hp with
  | cons h0 hp =>
  cases hp
  obtain ⟨b, rfl, hb⟩ := h0
  refine ⟨_, (au (aU (i := 3) S.nd rfl (Or.inl rfl) (bL pa_nil))
   (au (cX PassesOwn.never rfl (piL K (pv 1)) (aW (i := 4) S.nd rfl (Or.inr rfl))
    (aB (bw (jY PySem.F.plainAttrs_list PySem.F.slot_list_append PySem.F.type_list_append jf (pv 3) (aa (bN rfl (N' := ["column", "table", "row"]) (src := [none, some 0, some 4]) rfl (piL K (pv 2)) (fun _ _ _ _ _ => (aW (i := 0) (show (["column", "table", "row"] : List Str).Nodup from by decide +kernel) rfl (Or.inl rfl))) (fun _ _ _ _ _ => bJ) (fun _ _ _ _ _ => (aV (ixL K) (aV (ixL K) (pv 1) (pv 2) (fun _ _ => rfl)) (pv 0) (fun _ _ => rfl)))) pa_nil bf)))))
   (aB (aN (pv 3))))), ?_⟩
  refine ⟨Nat.zero_le _, fun l hl => ?_⟩
  have s1 := aq (o := .lst []) hl
  refine ⟨_, rfl, lr, rfl, ⟨_, SqL.of (s1 _ _ hR)⟩, dz (K := K) (a := lr) (xs := [.int 0]) (fun i σ H' => (i = 0 /\ σ = [some (.ref a), some (.ref lr), some (.ref lc), some (.ref l), none] /\ Same H H' /\ H' l = some (.lst [])) \/ (i = 1 /\ ∃ o4 q, σ = [some (.ref a), some (.ref lr), some (.ref lc), some (.ref l), o4] /\ Same H H' /\ H' l = some (.lst [.ref q]) /\ H' q = some (.lst [.int 1])))
   (.inl ⟨rfl, rfl, s1, az⟩) ?_ ?_ ?_⟩
  ·rintro i σ H4 _ (⟨rfl, _, s4, _⟩ | ⟨rfl, _, _, _, s4, _⟩) <;> exact SqL.of (s4 _ _ hR)
  ·rintro i y σ H4 hi (⟨rfl, rfl, s4, hL⟩ | ⟨rfl, _⟩)
   ·have hy : y = .int 0 := by simpa using hi.symm
    subst hy
    refine ⟨_, rfl, .inl ⟨rfl, _, SqL.of hL⟩, _, rfl, lc, rfl, ⟨_, SqL.of (s4 _ _ hC)⟩, bQ (xs := [.int 0]) (fun _ y _ => y = .int 1) (fun _ _ _ _ _ h => h) (SqL.of (s4 _ _ hC)) (by show 1 <= sizeLine; decide) ?_ ?_⟩
    ·intro x hx H5 s5 Q' q
     have hx' : x = .int 0 := by simpa using hx
     subst hx'
     exact ⟨_, rfl, _, rfl, a, _, 0, _, rfl, rfl, SqL.of ((s4.trans s5) _ _ ha), rfl, _, rfl, b, _, 0, _, rfl, rfl, SqL.of ((s4.trans s5) _ _ hb), rfl, q _ H5 (Same.refl _) rfl⟩
    ·intro ys H5 s5 p q hq
     cases p with
     | cons p1 p2 =>
     cases p2
     subst p1
     have hL5 := s5 _ _ hL
     have nql : q ≠ l := fun e => by rw [e, hL5] at hq; cases hq
     refine ⟨l, [], .ref q, rfl, rfl, aq hq _ _ hL5, aR (by decide), ?_⟩
     exact .inr ⟨rfl, _, q, rfl, eE ((s4.trans s5).trans (aq hq)) hl, az, by rw [aO nql]; exact az⟩
   ·simp at hi
  ·rintro σ H4 (⟨z, _⟩ | ⟨_, o4, q, rfl, s4, hL, hq⟩)
   ·simp at z
   ·exact ⟨_, rfl, k l H4 s4 ⟨_, hL, .cons ⟨q, rfl, hq⟩ .nil⟩⟩
def wF (CE : Addr) : Sp := fun vs H Q _ => ∃ a : Addr, vs = [.ref a, .int 0] /\ IsTab H a [[1]] /\ ∀ p dx l H', Same H H' -> H' p = some (.ins CE dx (Jq l)) -> Q (.ref p) H'
abbrev mW : Stmt := top 73
theorem uO : FnScope ["table", "row", "answer"] ["table", "row"] (aF mW) := ⟨rfl, rfl, rfl, by decide +kernel, rfl, by decide +kernel, by decide +kernel⟩
theorem Dd {CE : Addr} (F : FunM K mg "beaten" mW ["table", "row"]) (T : Blt mg) (C_Best : Cl K mg "Best" ["mixture"] [] CE)
  (bB : Def P w K mg base "check_table" ["thing"] 4 iV) (kJ : Def P w K mg base "check_row" ["table", "row"] 2 Ac) (iK : Def P w K mg base "spread" ["shares", "places", "count"] 1 oX) (lA : DefC P w K mg base CE "__init__" ["self", "mixture"] 1 (wJ CE)) :
  Def P w K mg base "beaten" ["table", "row"] 11 (wF CE) := by
 have S := uO
 refine Def.of F S (fun vs H Q E h => ?_) (fun f cdv A outer s H vs Q E hr h => ?_)
 ·obtain ⟨a, rfl, _⟩ := h
  rfl
 ·obtain ⟨a, rfl, hU, k⟩ := h
  obtain ⟨vs, ha, hp⟩ := id hU
  cases hp with
  | cons h0 hp =>
  cases hp
  obtain ⟨b, rfl, hb⟩ := h0
  refine ⟨_, au (bw (aK bB (hr.mono (by decide)) rfl (aa (pv 0) pa_nil aj) (he := aj)))
   (au (bw (aK kJ (hr.mono (by decide)) rfl (aa (pv 0) (aa (pv 1) pa_nil aj) aj) (he := aj)))
   (au (bj (aX bR (aJ (bZ K) (by rfl) T.len_ bC (aa (pv 0) pa_nil aj) (he := aj)) pe_int (aQ _))
    (aB (aN (xR lA C_Best (hr.mono (by decide)) rfl (aa (aK iK (hr.mono (by decide)) rfl (aa (bL (aa (cQ (aa pe_int (aa pe_int pa_nil ao) ao)) pa_nil a_)) (aa (bL (aa pe_int pa_nil ao)) (aa (aJ (bZ K) (by rfl) T.len_ bC (aa (aV (ixL K) (pv 0) pe_int (fun _ _ => rfl)) pa_nil aH) (he := aH)) pa_nil aZ) aC) aC) (he := aC)) pa_nil aZ) (he := aZ)))) aP) aY)), ?_⟩
  refine ⟨_, rfl, a, [[1]], 1, 1, rfl, hU, rW, fun H1 s1 => ?_⟩
  refine ⟨_, rfl, _, rfl, a, [[1]], 1, 1, 0, rfl, hU.mono s1, lY rW, by decide, ?_⟩
  refine ⟨_, rfl, a, _, rfl, .inl (SqL.of (s1 _ _ ha)), rfl, _, rfl, ?_⟩
  refine ifP rfl ?_
  refine ⟨(by show 2 <= sizeLine; decide), fun t ht => ⟨(by show 1 <= sizeLine; decide), fun q1 hq1 => ⟨(by show 1 <= sizeLine; decide), fun q2 hq2 => ?_⟩⟩⟩
  have s2 := (aq (o := .tup [.int 1, .int 1]) ht).trans (aq (o := .lst [.ref t]) hq1)
  have e1 : IsFrs (upd (upd H1 t (.tup [.int 1, .int 1])) q1 (.lst [.ref t])) q1 [(1, 1)] := ⟨_, az, .cons ⟨t, rfl, aq hq1 _ _ az⟩ .nil⟩
  generalize upd (upd H1 t (.tup [.int 1, .int 1])) q1 (.lst [.ref t]) = H2 at s2 e1 hq2 ⊢
  have s3 := s2.trans (aq (o := .lst [.int 0]) hq2)
  have e1' := e1.mono (aq (o := .lst [.int 0]) hq2)
  have e2 : upd H2 q2 (.lst [.int 0]) q2 = some (.lst [.int 0]) := az
  generalize upd H2 q2 (.lst [.int 0]) = H3 at s3 e1' e2 ⊢
  have s13 := s1.trans s3
  refine ⟨_, rfl, a, _, 0, _, rfl, rfl, SqL.of (s13 _ _ ha), rfl, b, _, rfl, .inl (SqL.of (s13 _ _ hb)), q1, q2, [(1, 1)], [0], 1, rfl, e1', ⟨q2, rfl, e2⟩, rfl, (fun c hc => by rw [List.mem_singleton.mp hc]; decide), (by decide), fun p H4 s4 hpn hF => ?_⟩
  intro x dx nx ndx nex
  obtain ⟨zs, hz, pz⟩ := hF
  have sm0 : Same H4 (upd (upd H4 dx (.own x)) x (.ins CE dx [])) := fun c o e => by
   rw [aO (bh e nx), aO (bh e ndx)]
   exact e
  refine ⟨x, dx, p, zs, rfl, az, sm0 _ _ hz, fun l HU nl hl hins kp => ⟨rfl, ?_⟩⟩
  have sU : Same H4 HU := fun c o e => kp c o (sm0 c o e) (bh e nx)
  exact k x dx l HU ((s13.trans s4).trans sU) hins
def zV : Sp := fun vs H Q _ => ∃ (a l : Addr), vs = [.ref a, .ref l] /\ IsTab H a [[1]] /\ H l = some (.lst [.int 0]) /\ ∀ p H', New H H' p (.lst [.int 0]) -> Q (.ref p) H'
abbrev mC : Stmt := top 75
theorem zy : FnScope ["table", "places"] ["table", "places"] (aF mC) := ⟨rfl, rfl, rfl, by decide +kernel, rfl, by decide +kernel, by decide +kernel⟩
theorem zp {CE : Addr} (F : FunM K mg "unbeaten" mC ["table", "places"]) (T : Blt mg) (C_Best : Cl K mg "Best" ["mixture"] [] CE) (I_Best : Isi K CE)
  (lu : PySem.W.kitOne K (.ref CE) (.ref CE) = some true) (qQ : Def P w K mg base "beaten" ["table", "row"] 11 (wF CE)) : Def P w K mg base "unbeaten" ["table", "places"] 12 zV := by
 have S := zy
 refine Def.of F S (fun vs H Q E h => ?_) (fun f cdv A outer s H vs Q E hr h => ?_)
 ·obtain ⟨a, l, rfl, _⟩ := h
  rfl
 ·obtain ⟨a, l, rfl, hT, hl, k⟩ := h
  refine ⟨_, (aB (aN (bN rfl (N' := ["row", "place", "table"]) (src := [none, none, some 0]) rfl (Jk K rfl T.enumerate_ (aa (pv 1) pa_nil aj)) (fun _ _ _ _ _ => (pgT K (n := 2) (fH (aW (i := 0) (show (["row", "place", "table"] : List Str).Nodup from by decide +kernel) rfl (Or.inl rfl)) (fH (aW (i := 1) (show (["row", "place", "table"] : List Str).Nodup from by decide +kernel) rfl (Or.inl rfl)) pP)))) (fun _ _ _ _ _ => (HF (bK (aJ (JR K) (by rfl) T.isinstance_ bx (aa (aK qQ (hr.mono (by decide)) rfl (aa (pv 2) (aa (pv 0) pa_nil aj) aj) (he := aj)) (aa (peC C_Best.mg_ rfl) pa_nil aj) aZ) (he := aZ))))) (fun _ _ _ _ _ => (pv 1))))), ?_⟩
  refine ⟨_, rfl, l, _, rfl, hl, C_ (K := K) (xs := [.int 0]) (fun i zs H' => ((i = 0 /\ zs = []) \/ (i = 1 /\ zs = [.int 0])) /\ Same H H') ⟨.inl ⟨rfl, rfl⟩, Same.refl _⟩ ?_ (by show 1 <= sizeLine; decide) ?_ ?_⟩
  ·rintro i zs H' ⟨⟨rfl, rfl⟩ | ⟨rfl, rfl⟩, s5⟩ <;> exact ⟨SqL.of (s5 _ _ hl), by decide⟩
  ·rintro i x q zs H' hi hq ⟨⟨rfl, rfl⟩ | ⟨rfl, rfl⟩, s5⟩
   ·have hx : x = .int 0 := by simpa using hi.symm
    subst hx
    have s6 := s5.trans (aq (o := .tup [.int 0, .int 0]) hq)
    refine ⟨q, _, rfl, SqT.of az, rfl, _, _, rfl, _, _, rfl, rfl, ?_⟩
    refine ⟨_, rfl, _, rfl, a, rfl, hT.mono s6, fun p dx l' H7 s7 hins => ?_⟩
    refine ⟨_, _, _, _, rfl, I_Best.ty C_Best.cl hins, lu, _, rfl, ?_⟩
    refine bH ?_
    exact ⟨_, rfl, .inr ⟨rfl, rfl⟩, s6.trans s7⟩
   ·simp at hi
  ·rintro zs H' ⟨⟨z, _⟩ | ⟨_, rfl⟩, s5⟩ l' hl'
   ·simp at z
   ·exact k l' _ (New.of s5 hl')
def zA : Sp := fun vs H Q _ => ∃ (a b : Addr), vs = [.ref a, .ref b] /\ IsTab H a [[1]] /\ IsTab H b [[1]] /\ ∀ p l1 l2 H', Same H H' -> H' p = some (.tup [.ref l1, .ref l2]) -> H' l1 = some (.lst [.int 0]) -> H' l2 = some (.lst [.int 0]) -> Q (.ref p) H'
abbrev mD : Stmt := top 76
theorem uU : FnScope ["one", "other", "rows", "columns", "rows_left", "columns_left"] ["one", "other"] (aF mD) := ⟨rfl, rfl, rfl, by decide +kernel, rfl, by decide +kernel, by decide +kernel⟩
theorem CZ (F : FunM K mg "struck" mD ["one", "other"]) (T : Blt mg) (jj : Def P w K mg base "check_alike" ["one", "other"] 5 xm) (sO : Def P w K mg base "part" ["table", "rows", "columns"] 1 wN) (jw : Def P w K mg base "unbeaten" ["table", "places"] 12 zV)
  (cD : Def P w K mg base "columns_of" ["table"] 2 pY) : Def P w K mg base "struck" ["one", "other"] 13 zA := by
 have S := uU
 refine Def.of F S (fun vs H Q E h => ?_) (fun f cdv A outer s H vs Q E hr h => ?_)
 ·obtain ⟨a, b, rfl, _⟩ := h
  rfl
 ·obtain ⟨a, b, rfl, hU, hW, k⟩ := h
  obtain ⟨vs, ha, hp⟩ := id hU
  cases hp with
  | cons h0 hp =>
  cases hp
  obtain ⟨c, rfl, hc⟩ := h0
  have hc : H c = some (.lst [.int 1]) := hc
  refine ⟨_, (au (bw (aK jj (hr.mono (by decide)) rfl (aa (pv 0) (aa (pv 1) pa_nil aj) aj) (he := aj)))
   (au (aU (i := 2) S.nd rfl (Or.inl rfl) (u6 rfl (by rfl) T.list_ (by rfl) T.range_ (aa (aJ (bZ K) (by rfl) T.len_ bC (aa (pv 0) pa_nil aj) (he := aj)) pa_nil aZ)))
   (au (aU (i := 3) S.nd rfl (Or.inl rfl) (u6 rfl (by rfl) T.list_ (by rfl) T.range_ (aa (aJ (bZ K) (by rfl) T.len_ bC (aa (aV (ixL K) (pv 0) pe_int (fun _ _ => rfl)) pa_nil aH) (he := aH)) pa_nil aZ)))
   (aB (xX PassesOwn.never (bK pe_bl)
    (au (aU (i := 4) S.nd rfl (Or.inl rfl) (aK jw (hr.mono (by decide)) rfl (aa (aK sO (hr.mono (by decide)) rfl (aa (pv 0) (aa (pv 2) (aa (pv 3) pa_nil aj) aj) aj) (he := aj)) (aa (pv 2) pa_nil aj) aZ) (he := aZ)))
   (au (aU (i := 5) S.nd rfl (Or.inl rfl) (aK jw (hr.mono (by decide)) rfl (aa (aK cD (hr.mono (by decide)) rfl (aa (aK sO (hr.mono (by decide)) rfl (aa (pv 1) (aa (pv 2) (aa (pv 3) pa_nil aj) aj) aj) (he := aj)) pa_nil aZ) (he := aZ)) (aa (pv 3) pa_nil aj) aZ) (he := aZ)))
   (au (bj (PW.pt (Dm (aX (t_ K hr.units) (pv 4) (pv 2) (aQ _)) (zW (aX (t_ K hr.units) (pv 5) (pv 3) (aQ _)))))
    (aB (aN (cQ (aa (pv 2) (aa (pv 3) pa_nil aj) aj)))) aP)
   (au (aU (i := 2) S.nd rfl (Or.inl rfl) (pv 4))
   (aB (aU (i := 3) S.nd rfl (Or.inl rfl) (pv 5)))))))))))), ?_⟩
  refine ⟨_, rfl, _, rfl, a, b, [[1]], [[1]], 1, 1, rfl, hU, rW, hW, rW, fun H1 s1 => ?_⟩
  refine ⟨_, rfl, a, _, rfl, .inl (SqL.of (s1 _ _ ha)), 1, rfl, by decide, fun lr hlr => ?_⟩
  have s2 := s1.trans (aq (o := .lst ((List.range 1).map fun (i : Nat) => V.int i)) hlr)
  have e2 : upd H1 lr (.lst ((List.range 1).map fun (i : Nat) => V.int i)) lr = some (.lst [.int 0]) := az
  generalize upd H1 lr (.lst ((List.range 1).map fun (i : Nat) => V.int i)) = H2 at s2 e2 ⊢
  refine ⟨_, rfl, a, _, 0, _, rfl, rfl, SqL.of (s2 _ _ ha), rfl, c, _, rfl, .inl (SqL.of (s2 _ _ hc)), 1, rfl, by decide, fun lc hlc => ?_⟩
  have s3 := s2.trans (aq (o := .lst ((List.range 1).map fun (i : Nat) => V.int i)) hlc)
  have e2' := aq (o := .lst ((List.range 1).map fun (i : Nat) => V.int i)) hlc _ _ e2
  have e3 : upd H2 lc (.lst ((List.range 1).map fun (i : Nat) => V.int i)) lc = some (.lst [.int 0]) := az
  generalize upd H2 lc (.lst ((List.range 1).map fun (i : Nat) => V.int i)) = H3 at s3 e2' e3 ⊢
  refine ⟨fun kk σ' H' => σ' = [some (.ref a), some (.ref b), some (.ref lr), some (.ref lc), none, none] /\ H' = H3, ⟨0, rfl, rfl⟩, ?_⟩
  rintro kk σ' H' ⟨rfl, rfl⟩
  refine ⟨_, rfl, bH ?_⟩
  refine ⟨fun _ _ => False, fun _ _ h => h.elim, ?_⟩
  refine ⟨_, rfl, _, rfl, _, rfl, a, lr, lc, rfl, hU.mono s3, e2', e3, fun p1 H5 s5 t1 => ?_⟩
  refine ⟨_, rfl, p1, lr, rfl, t1, s5 _ _ e2', fun q1 H6 nw1 => ?_⟩
  have s6 := s5.trans nw1.same
  refine ⟨_, rfl, _, rfl, _, rfl, b, lr, lc, rfl, hW.mono (s3.trans s6), s6 _ _ e2', s6 _ _ e3, fun p2 H7 s7 t2 => ?_⟩
  refine ⟨p2, [[1]], 1, 1, rfl, t2, lY rW, fun p3 H8 s8 own3 => ?_⟩
  have s68 := s6.trans (s7.trans s8)
  refine ⟨_, rfl, p3, lc, rfl, own3.tab, s68 _ _ e3, fun q2 H9 nw2 => ?_⟩
  have s69 := (s7.trans s8).trans nw2.same
  have s9 := s68.trans nw2.same
  have eq1 := s69 _ _ nw1.is
  have eq2 := nw2.is
  have hR9 := s9 _ _ e2'
  have hC9 := s9 _ _ e3
  refine ⟨_, rfl, _, rfl, _, _, pZ (r := [0]) eq1, pZ (r := [0]) hR9, w6 _ _, (by rw [zM]; decide), _, rfl, ?_⟩
  refine ifP (dR _) ?_
  refine ⟨_, rfl, _, rfl, _, _, pZ (r := [0]) eq2, pZ (r := [0]) hC9, w6 _ _, (by rw [zM]; decide), _, rfl, ?_⟩
  refine ifP (dR _) ?_
  refine ⟨_, rfl, _, rfl, (by show 2 <= sizeLine; decide), fun p hp => ?_⟩
  have sp := aq (o := .tup [.ref lr, .ref lc]) hp
  exact k p lr lc _ ((s3.trans s9).trans sp) az (sp _ _ hR9) (sp _ _ hC9)
def wH : Sp := fun vs H Q _ => ∃ (a : Addr) (U : List (List Int)) (m n : Nat), vs = [.ref a] /\ IsTab H a U /\ Good U m n /\ ∀ p H', New H H' p (.lst ((U.map lC).map V.int)) -> Q (.ref p) H'
def Af : Sp := fun vs H Q _ => ∃ (a : Addr) (U : List (List Int)) (m n : Nat), vs = [.ref a] /\ IsTab H a U /\ Good U m n /\ ∀ p H', New H H' p (.lst (((cols U n).map lB).map V.int)) -> Q (.ref p) H'
abbrev iD : Stmt := top 51
theorem qY : FnScope ["table"] ["table"] (aF iD) := ⟨rfl, rfl, rfl, by decide +kernel, rfl, by decide +kernel, by decide +kernel⟩
theorem qW (F : FunM K mg "least_of_rows" iD ["table"]) (T : Blt mg) : Def P w K mg base "least_of_rows" ["table"] 1 wH := by
 have S := qY
 refine Def.of F S (fun vs H Q E h => ?_) (fun f cdv A outer s H vs Q E hr h => ?_)
 ·obtain ⟨a, U, m, n, rfl, _⟩ := h
  rfl
 ·obtain ⟨a, U, m, n, rfl, hU, g, k⟩ := h
  have m4 := g.m4
  have n1 := g.n1
  obtain ⟨vs, ha, hp⟩ := id hU
  refine ⟨_, (aB (aN (bN rfl (N' := ["row"]) (src := [none]) rfl (piL K (pv 0)) (fun _ _ _ _ _ => (aW (i := 0) (show (["row"] : List Str).Nodup from by decide +kernel) rfl (Or.inl rfl))) (fun _ _ _ _ _ => bJ) (fun _ _ _ _ _ => (aJ (Jr K) (by rfl) T.min_ Cg (aa (pv 0) pa_nil aj) (he := aj)))))), ?_⟩
  refine ⟨_, rfl, a, rfl, ⟨_, SqL.of ha⟩, oG lC hU (by rw [g.rows]; omega) ?_ ?_⟩
  ·intro r hr' b hb H1 s1 Q' q
   exact ⟨_, rfl, b, r, rfl, SqL.of (s1 _ _ hb), (fun e => by have := g.cols r hr'; rw [e] at this; simp at this; omega), q H1 (Same.refl _)⟩
  ·intro H' s' p hp'
   exact k p _ (New.of s' hp')
abbrev fY : Stmt := top 52
theorem oU : FnScope ["table"] ["table"] (aF fY) := ⟨rfl, rfl, rfl, by decide +kernel, rfl, by decide +kernel, by decide +kernel⟩
theorem pJ (F : FunM K mg "most_of_columns" fY ["table"]) (T : Blt mg) (cD : Def P w K mg base "columns_of" ["table"] 2 pY) : Def P w K mg base "most_of_columns" ["table"] 3 Af := by
 have S := oU
 refine Def.of F S (fun vs H Q E h => ?_) (fun f cdv A outer s H vs Q E hr h => ?_)
 ·obtain ⟨a, U, m, n, rfl, _⟩ := h
  rfl
 ·obtain ⟨a, U, m, n, rfl, hU, g, k⟩ := h
  have n4 := g.n4
  have m1 := g.m1
  refine ⟨_, (aB (aN (bN rfl (N' := ["column"]) (src := [none]) rfl (piL K (aK cD (hr.mono (by decide)) rfl (aa (pv 0) pa_nil aj) (he := aj))) (fun _ _ _ _ _ => (aW (i := 0) (show (["column"] : List Str).Nodup from by decide +kernel) rfl (Or.inl rfl))) (fun _ _ _ _ _ => bJ) (fun _ _ _ _ _ => (aJ (Jm K) (by rfl) T.max_ DN (aa (pv 0) pa_nil aj) (he := aj)))))), ?_⟩
  refine ⟨_, rfl, a, U, m, n, rfl, hU, lY g, fun p H1 s1 own => ?_⟩
  obtain ⟨ws, hp, _⟩ := own.tab
  refine ⟨p, rfl, ⟨_, SqL.of hp⟩, oG lB own.tab (by rw [nQ]; omega) ?_ ?_⟩
  ·intro r hr' b hb H2 s2 Q' q
   exact ⟨_, rfl, b, r, rfl, SqL.of (s2 _ _ hb), (fun e => by have := qH hr'; rw [e, g.rows] at this; simp at this; omega), q H2 (Same.refl _)⟩
  ·intro H' s' q hq
   exact k q _ ((New.of s' hq).pre s1)
def zO : Sp := fun vs H Q _ => ∃ (a : Addr) (U : List (List Int)) (m n : Nat), vs = [.ref a] /\ IsTab H a U /\ Good U m n /\ ∀ p H', Same H H' -> H' p = some (.tup [.int (lB (U.map lC)), .int (lC ((cols U n).map lB))]) -> Q (.ref p) H'
abbrev tH : Stmt := top 53
theorem zQ : FnScope ["table"] ["table"] (aF tH) := ⟨rfl, rfl, rfl, by decide +kernel, rfl, by decide +kernel, by decide +kernel⟩
theorem Hq (F : FunM K mg "sure" tH ["table"]) (T : Blt mg) (bB : Def P w K mg base "check_table" ["thing"] 4 iV) (ir : Def P w K mg base "least_of_rows" ["table"] 1 wH)
  (fX : Def P w K mg base "most_of_columns" ["table"] 3 Af) : Def P w K mg base "sure" ["table"] 5 zO := by
 have S := zQ
 refine Def.of F S (fun vs H Q E h => ?_) (fun f cdv A outer s H vs Q E hr h => ?_)
 ·obtain ⟨a, U, m, n, rfl, _⟩ := h
  rfl
 ·obtain ⟨a, U, m, n, rfl, hU, g, k⟩ := h
  have m1 := g.m1
  have n1 := g.n1
  refine ⟨_, (au (bw (aK bB (hr.mono (by decide)) rfl (aa (pv 0) pa_nil aj) (he := aj)))
   (aB (aN (cQ (aa (aJ (Jm K) (by rfl) T.max_ DN (aa (aK ir (hr.mono (by decide)) rfl (aa (pv 0) pa_nil aj) (he := aj)) pa_nil aZ) (he := aZ)) (aa (aJ (Jr K) (by rfl) T.min_ Cg (aa (aK fX (hr.mono (by decide)) rfl (aa (pv 0) pa_nil aj) (he := aj)) pa_nil aZ) (he := aZ)) pa_nil aZ) aZ))))), ?_⟩
  refine ⟨_, rfl, a, U, m, n, rfl, hU, g, fun H1 s1 => ?_⟩
  refine ⟨_, rfl, a, U, m, n, rfl, hU.mono s1, g, fun p H2 n2 => ⟨p, _, rfl, SqL.of n2.is, ?_, ?_⟩⟩
  ·intro e
   have := congrArg List.length e
   rw [List.length_map, g.rows] at this
   simp at this
   omega
  ·refine ⟨_, rfl, a, U, m, n, rfl, (hU.mono s1).mono n2.same, g, fun p2 H3 n3 => ⟨p2, _, rfl, SqL.of n3.is, ?_, (by show 2 <= sizeLine; decide), fun t ht => ?_⟩⟩
   ·intro e
    have := congrArg List.length e
    rw [List.length_map, nQ] at this
    simp at this
    omega
   ·exact k t _ (((s1.trans n2.same).trans n3.same).trans (aq ht)) az
def cV (CT : Addr) : Sp := fun vs H _ E => ∃ (d : D) (v : V), vs = [v] /\ Lay H d v /\ bF d = false /\ ∀ H', Same H H' -> E (.ref CT) none H'
abbrev qU : Stmt := top 48
theorem Dq : FnScope ["table"] ["table"] (aF qU) := ⟨rfl, rfl, rfl, by decide +kernel, rfl, by decide +kernel, by decide +kernel⟩
theorem xK {CT : Addr} (F : FunM K mg "turned" qU ["table"]) (T : Blt mg) (aM : DefX P w K mg base "check_table" ["thing"] 4 (cM CT)) : DefX P w K mg base "turned" ["table"] 5 (cV CT) := by
 have S := Dq
 refine DefX.of F S (fun vs H Q E h => ?_) (fun f cdv A outer s H vs Q E hr h => ?_)
 ·obtain ⟨d, v, rfl, _⟩ := h
  rfl
 ·obtain ⟨d, v, rfl, l, n, k⟩ := h
  refine ⟨_, au (bw (bz aM (hr.mono (by decide)) rfl bA (aa (pv 0) pa_nil aj) (he := aj))) aY, ?_⟩
  exact ⟨_, rfl, d, _, rfl, l, (fun z => by rw [n] at z; cases z), fun _ H' s' => k H' s'⟩
theorem Av {CT : Addr} (F : FunM K mg "sure" tH ["table"]) (T : Blt mg) (aM : DefX P w K mg base "check_table" ["thing"] 4 (cM CT)) : DefX P w K mg base "sure" ["table"] 5 (cV CT) := by
 have S := zQ
 refine DefX.of F S (fun vs H Q E h => ?_) (fun f cdv A outer s H vs Q E hr h => ?_)
 ·obtain ⟨d, v, rfl, _⟩ := h
  rfl
 ·obtain ⟨d, v, rfl, l, n, k⟩ := h
  refine ⟨_, au (bw (bz aM (hr.mono (by decide)) rfl bA (aa (pv 0) pa_nil aj) (he := aj))) aY, ?_⟩
  exact ⟨_, rfl, d, _, rfl, l, (fun z => by rw [n] at z; cases z), fun _ H' s' => k H' s'⟩
abbrev oM : Stmt := top 54
theorem Be : FnScope ["table", "least", "most", "found", "row", "column"] ["table"] (aF oM) := ⟨rfl, rfl, rfl, by decide +kernel, rfl, by decide +kernel, by decide +kernel⟩
theorem vX {CT : Addr} (F : FunM K mg "saddles" oM ["table"]) (T : Blt mg) (aM : DefX P w K mg base "check_table" ["thing"] 4 (cM CT)) : DefX P w K mg base "saddles" ["table"] 5 (cV CT) := by
 have S := Be
 refine DefX.of F S (fun vs H Q E h => ?_) (fun f cdv A outer s H vs Q E hr h => ?_)
 ·obtain ⟨d, v, rfl, _⟩ := h
  rfl
 ·obtain ⟨d, v, rfl, l, n, k⟩ := h
  refine ⟨_, au (bw (bz aM (hr.mono (by decide)) rfl bA (aa (pv 0) pa_nil aj) (he := aj))) aY, ?_⟩
  exact ⟨_, rfl, d, _, rfl, l, (fun z => by rw [n] at z; cases z), fun _ H' s' => k H' s'⟩
theorem xW {CT : Addr} (F : FunM K mg "solved" mH ["table"]) (T : Blt mg) (aM : DefX P w K mg base "check_table" ["thing"] 4 (cM CT)) : DefX P w K mg base "solved" ["table"] 5 (cV CT) := by
 have S := vz
 refine DefX.of F S (fun vs H Q E h => ?_) (fun f cdv A outer s H vs Q E hr h => ?_)
 ·obtain ⟨d, v, rfl, _⟩ := h
  rfl
 ·obtain ⟨d, v, rfl, l, n, k⟩ := h
  refine ⟨_, au (bw (bz aM (hr.mono (by decide)) rfl bA (aa (pv 0) pa_nil aj) (he := aj))) aY, ?_⟩
  exact ⟨_, rfl, d, _, rfl, l, (fun z => by rw [n] at z; cases z), fun _ H' s' => k H' s'⟩
abbrev pN : Stmt := top 79
theorem Bg : FnScope ["table"] ["table"] (aF pN) := ⟨rfl, rfl, rfl, by decide +kernel, rfl, by decide +kernel, by decide +kernel⟩
theorem vM {CT : Addr} (F : FunM K mg "written" pN ["table"]) (T : Blt mg) (aM : DefX P w K mg base "check_table" ["thing"] 4 (cM CT)) : DefX P w K mg base "written" ["table"] 5 (cV CT) := by
 have S := Bg
 refine DefX.of F S (fun vs H Q E h => ?_) (fun f cdv A outer s H vs Q E hr h => ?_)
 ·obtain ⟨d, v, rfl, _⟩ := h
  rfl
 ·obtain ⟨d, v, rfl, l, n, k⟩ := h
  refine ⟨_, au (bw (bz aM (hr.mono (by decide)) rfl bA (aa (pv 0) pa_nil aj) (he := aj))) aY, ?_⟩
  exact ⟨_, rfl, d, _, rfl, l, (fun z => by rw [n] at z; cases z), fun _ H' s' => k H' s'⟩
def jb (CT : Addr) (v1 v2 : V) (H : Hp) (E : XK) : Prop := ∃ d1, Lay H d1 v1 /\ (bF d1 = false \/ (bF d1 = true /\ ∃ d2, Lay H d2 v2 /\ bF d2 = false)) /\ ∀ H', Same H H' -> E (.ref CT) none H'
def cu (CT CU : Addr) : Sp := fun vs H _ E => ∃ (v1 v2 : V), vs = [v1, v2] /\ (jb CT v1 v2 H E \/ ∃ (U W : List (List Int)) (m n m' n' : Nat), Lay H (cZ U) v1 /\ Good U m n /\ bF (cZ U) = true /\ Lay H (cZ W) v2 /\ Good W m' n' /\ bF (cZ W) = true /\
 (decide (m = m') && decide (n = n')) = false /\ ∀ H', Same H H' -> E (.ref CU) none H')
theorem p_ {CT CU : Addr} (F : FunM K mg "check_alike" gD ["one", "other"]) (T : Blt mg) (X_Unlike : Exc K mg "Unlike" CU) (aM : DefX P w K mg base "check_table" ["thing"] 4 (cM CT)) (cH : Def P w K mg base "of_same_counts" ["one", "other"] 1 ue) : DefX P w K mg base "check_alike" ["one", "other"] 5 (cu CT CU) := by
 have S := lO
 refine DefX.of F S (fun vs H Q E h => ?_) (fun f cdv A outer s H vs Q E hr h => ?_)
 ·obtain ⟨v1, v2, rfl, _⟩ := h
  rfl
 ·obtain ⟨v1, v2, rfl, k⟩ := h
  refine ⟨_, au (bw (bz aM (hr.mono (by decide)) rfl bA (aa (pv 0) pa_nil aj) (he := aj)))
   (au (bw (bz aM (hr.mono (by decide)) rfl bA (aa (pv 1) pa_nil aj) (he := aj)))
   (aB (bj (bG (bK (aK cH (hr.mono (by decide)) rfl (aa (pv 0) (aa (pv 1) pa_nil aj) aj) (he := aj)))) (aB (iR X_Unlike (aa pe_str pa_nil ao) rfl)) aP))), ?_⟩
  rcases k with ⟨d1, l1, n1 | ⟨y1, d2, l2, n2⟩, k⟩ | ⟨U, W, m, n, m', n', l1, g1, y1, l2, g2, y2, e, k⟩
  ·exact ⟨_, rfl, d1, _, rfl, l1, (fun z => by rw [n1] at z; cases z), fun _ H' s' => k H' s'⟩
  ·refine ⟨_, rfl, d1, _, rfl, l1, (fun _ H1 s1 => ?_), fun z => by rw [y1] at z; cases z⟩
   exact ⟨_, rfl, d2, _, rfl, l2.mono s1, (fun z => by rw [n2] at z; cases z), fun _ H' s' => k H' (s1.trans s')⟩
  ·refine ⟨_, rfl, _, _, rfl, l1, (fun _ H1 s1 => ?_), fun z => by rw [y1] at z; cases z⟩
   refine ⟨_, rfl, _, _, rfl, l2.mono s1, (fun _ H2 s2 => ?_), fun z => by rw [y2] at z; cases z⟩
   obtain ⟨a, rfl, hU⟩ := di ((l1.mono s1).mono s2)
   obtain ⟨b, rfl, hW⟩ := di ((l2.mono s1).mono s2)
   refine ⟨_, rfl, _, rfl, a, b, U, W, m, n, m', n', rfl, hU, g1, hW, g2, ?_⟩
   rw [e]
   exact ⟨_, rfl, bH ⟨by show 1 <= sizeLine; decide, k H2 (s1.trans s2)⟩⟩
abbrev pI : Stmt := top 68
theorem Bq : FnScope ["one", "other", "by_columns", "mine", "rows", "columns_best", "theirs", "columns", "rows_best"] ["one", "other"] (aF pI) := ⟨rfl, rfl, rfl, by decide +kernel, rfl, by decide +kernel, by decide +kernel⟩
theorem vO {CT CU : Addr} (F : FunM K mg "settled" pI ["one", "other"]) (T : Blt mg) (bU : DefX P w K mg base "check_alike" ["one", "other"] 5 (cu CT CU)) : DefX P w K mg base "settled" ["one", "other"] 6 (cu CT CU) := by
 have S := Bq
 refine DefX.of F S (fun vs H Q E h => ?_) (fun f cdv A outer s H vs Q E hr h => ?_)
 ·obtain ⟨v1, v2, rfl, _⟩ := h
  rfl
 ·obtain ⟨v1, v2, rfl, k⟩ := h
  refine ⟨_, au (bw (bz bU (hr.mono (by decide)) rfl bA (aa (pv 0) (aa (pv 1) pa_nil aj) aj) (he := aj))) aY, ?_⟩
  exact ⟨_, rfl, _, rfl, v1, v2, rfl, k⟩
abbrev jG : Stmt := top 69
theorem vL : FnScope ["one", "other", "most", "found", "row", "column"] ["one", "other"] (aF jG) := ⟨rfl, rfl, rfl, by decide +kernel, rfl, by decide +kernel, by decide +kernel⟩
theorem qJ {CT CU : Addr} (F : FunM K mg "sure_pairs" jG ["one", "other"]) (T : Blt mg) (bU : DefX P w K mg base "check_alike" ["one", "other"] 5 (cu CT CU)) : DefX P w K mg base "sure_pairs" ["one", "other"] 6 (cu CT CU) := by
 have S := vL
 refine DefX.of F S (fun vs H Q E h => ?_) (fun f cdv A outer s H vs Q E hr h => ?_)
 ·obtain ⟨v1, v2, rfl, _⟩ := h
  rfl
 ·obtain ⟨v1, v2, rfl, k⟩ := h
  refine ⟨_, au (bw (bz bU (hr.mono (by decide)) rfl bA (aa (pv 0) (aa (pv 1) pa_nil aj) aj) (he := aj))) aY, ?_⟩
  exact ⟨_, rfl, _, rfl, v1, v2, rfl, k⟩
theorem yr {CT CU : Addr} (F : FunM K mg "struck" mD ["one", "other"]) (T : Blt mg) (bU : DefX P w K mg base "check_alike" ["one", "other"] 5 (cu CT CU)) : DefX P w K mg base "struck" ["one", "other"] 6 (cu CT CU) := by
 have S := uU
 refine DefX.of F S (fun vs H Q E h => ?_) (fun f cdv A outer s H vs Q E hr h => ?_)
 ·obtain ⟨v1, v2, rfl, _⟩ := h
  rfl
 ·obtain ⟨v1, v2, rfl, k⟩ := h
  refine ⟨_, au (bw (bz bU (hr.mono (by decide)) rfl bA (aa (pv 0) (aa (pv 1) pa_nil aj) aj) (he := aj))) aY, ?_⟩
  exact ⟨_, rfl, _, rfl, v1, v2, rfl, k⟩
def uc (CT CU : Addr) : Sp := fun vs H _ E => ∃ (v1 v2 : V), vs = [v1, v2] /\ (jb CT v1 v2 H E \/ ∃ (U W : List (List Int)) (m n m' n' : Nat), Lay H (cZ U) v1 /\ Good U m n /\ bF (cZ U) = true /\ Lay H (cZ W) v2 /\ Good W m' n' /\ bF (cZ W) = true /\
 bF (cZ (tog U W)) = false /\ ∀ H', Same H H' -> E (.ref CU) none H')
theorem tX {CT CU : Addr} (F : FunM K mg "together" ju ["one", "other"]) (T : Blt mg) (X_Unlike : Exc K mg "Unlike" CU) (aM : DefX P w K mg base "check_table" ["thing"] 4 (cM CT)) (lQ : Def P w K mg base "sums" ["one", "other"] 1 tZ) (dj : Def P w K mg base "is_table" ["thing"] 3 oJ) : DefX P w K mg base "together" ["one", "other"] 5 (uc CT CU) := by
 have S := qm
 refine DefX.of F S (fun vs H Q E h => ?_) (fun f cdv A outer s H vs Q E hr h => ?_)
 ·obtain ⟨v1, v2, rfl, _⟩ := h
  rfl
 ·obtain ⟨v1, v2, rfl, k⟩ := h
  refine ⟨_, au (bw (bz aM (hr.mono (by decide)) rfl bA (aa (pv 0) pa_nil aj) (he := aj)))
   (au (bw (bz aM (hr.mono (by decide)) rfl bA (aa (pv 1) pa_nil aj) (he := aj)))
   (au (aU (i := 2) S.nd rfl (Or.inl rfl) (bL pa_nil))
   (au (PS.nox (cX PassesOwn.never rfl (piL K (pv 0)) (aW (i := 3) S.nd rfl (Or.inr rfl))
    (aB (bw (jY PySem.F.plainAttrs_list PySem.F.slot_list_extend PySem.F.type_list_extend o9 (pv 2) (aa (bN rfl (N' := ["beside", "row"]) (src := [none, some 3]) rfl (piL K (pv 1)) (fun _ _ _ _ _ => (aW (i := 0) (show (["beside", "row"] : List Str).Nodup from by decide +kernel) rfl (Or.inl rfl))) (fun _ _ _ _ _ => bJ) (fun _ _ _ _ _ => (aK lQ (hr.mono (by decide)) rfl (aa (pv 1) (aa (pv 0) pa_nil aj) aj) (he := aj)))) pa_nil bf))))))
   (au (bj (bG (bK (aK dj (hr.mono (by decide)) rfl (aa (pv 2) pa_nil aj) (he := aj)))) (aB (iR X_Unlike (aa pe_str pa_nil ao) rfl)) aP) aY)))), ?_⟩
  rcases k with ⟨d1, l1, n1 | ⟨y1, d2, l2, n2⟩, k⟩ | ⟨U, W, m, n, m', n', lU, g, y1, lW, g', y2, nT, k⟩
  ·exact ⟨_, rfl, d1, _, rfl, l1, (fun z => by rw [n1] at z; cases z), fun _ H' s' => k H' s'⟩
  ·refine ⟨_, rfl, d1, _, rfl, l1, (fun _ H1 s1 => ?_), fun z => by rw [y1] at z; cases z⟩
   exact ⟨_, rfl, d2, _, rfl, l2.mono s1, (fun z => by rw [n2] at z; cases z), fun _ H' s' => k H' (s1.trans s')⟩
  have m4 := g.m4
  have n4 := g.n4
  have m4' := g'.m4
  have n4' := g'.n4
  obtain ⟨a, rfl, hU⟩ := di lU
  obtain ⟨b, rfl, hW⟩ := di lW
  refine ⟨_, rfl, _, _, rfl, lU, (fun _ H1 s1 => ?_), fun z => by rw [y1] at z; cases z⟩
  refine ⟨_, rfl, _, _, rfl, lW.mono s1, (fun _ H2 s2 => ?_), fun z => by rw [y2] at z; cases z⟩
  refine ⟨Nat.zero_le _, fun l hl => ?_⟩
  have s12 := s1.trans s2
  obtain ⟨vs, ha, hp⟩ := hU.mono s12
  have vl : vs.length = m := by rw [hp.length, g.rows]
  refine ⟨_, rfl, a, rfl, ⟨_, SqL.of (aq hl _ _ ha)⟩, dz (K := K) (a := a) (xs := vs) (fun i σ H' => ∃ o3 xs, σ = [some (.ref a), some (.ref b), some (.ref l), o3] /\ Same H2 H' /\ H' l = some (.lst xs) /\ Paired (RowX H l H') xs (tog (U.take i) W))
   ⟨_, [], rfl, aq hl, az, .nil⟩ ?_ ?_ ?_⟩
  ·rintro i σ H4 _ ⟨_, _, _, s4, _⟩
   exact SqL.of (s4 _ _ ha)
  ·rintro i y σ H4 hi ⟨o3, xs, rfl, s4, hL, hP⟩
   obtain ⟨r, er, c, rfl, hc⟩ := hp.get2 hi
   have rm := List.mem_of_getElem? er
   have hW4 := (hW.mono s12).mono s4
   obtain ⟨ws, hb4, _⟩ := id hW4
   refine ⟨_, rfl, .inl ⟨rfl, _, SqL.of hL⟩, _, rfl, b, rfl, ⟨_, SqL.of hb4⟩, nJ (fun t => nj r t) hW4 (by rw [g'.rows]; omega) ?_ ?_⟩
   ·intro t ht d hd H5 s5 Q' q
    refine ⟨_, rfl, _, rfl, c, d, r, t, rfl, (s4.trans s5) _ _ hc, s5 _ _ hd, by rw [g.cols r rm]; exact n4, by rw [g'.cols t ht]; exact n4', fun p H6 nw => q _ H6 nw.same ⟨p, rfl, s5.free nw.new, nw.is⟩⟩
   ·intro ys H5 s5 pr q hq
    have hL5 := s5 _ _ hL
    have nql : q ≠ l := fun e => by rw [e, hL5] at hq; cases hq
    have xl : xs.length <= 16 := by
     rw [hP.length, Ad, List.length_take, g'.rows]
     have h3 : min i U.length * m' <= 4 * 4 := Nat.mul_le_mul (by rw [g.rows]; omega) m4'
     omega
    have yl : ys.length <= 4 := by rw [pr.length, List.length_map, g'.rows]; exact m4'
    refine ⟨l, q, xs, ys, rfl, rfl, aq hq _ _ hL5, az, Nat.le_of_lt (aR (by omega)), ?_⟩
    refine ⟨_, _, rfl, eE ((s4.trans s5).trans (aq hq)) hl, az, ?_⟩
    have e1 : tog (U.take (i + 1)) W = tog (U.take i) W ++ W.map fun t => nj r t := by
     unfold tog
     rw [List.take_add_one, er, List.flatMap_append]
     simp
    rw [e1]
    refine (hP.imp2 fun _ _ z => ((z.mono s5).mono (aq hq)).at).app2 (pr.imp2 fun _ _ z => ?_)
    obtain ⟨d, e, nd, hd⟩ := z
    have ndl : d ≠ l := fun z => by rw [z, hL] at nd; cases nd
    exact ⟨d, e, ndl, (s12.trans s4).free nd, by rw [aO ndl]; exact aq hq _ _ hd⟩
  ·rintro σ H4 ⟨o3, xs, rfl, s4, hL, hP⟩
   rw [vl, <- g.rows, List.take_of_length_le (Nat.le_refl _)] at hP
   have own : OwnTab H H4 l (tog U W) := ⟨xs, s12.free hl, hL, hP.imp2 fun _ _ z => z.own⟩
   refine ⟨_, rfl, _, _, rfl, uy own.tab, fun H5 s5 => ?_⟩
   rw [nT]
   exact ⟨_, rfl, bH ⟨by show 1 <= sizeLine; decide, k H5 ((s12.trans s4).trans s5)⟩⟩
def badMix (H : Hp) (x : V) (n : Nat) : Prop := (∃ d, Lay H d x /\ early n d) \/ ∃ (a : Addr) (qs : List (Int × Int)), x = .ref a /\ IsFrs H a qs /\ GQ qs /\ gj qs n = false
def goodMix (H : Hp) (x : V) (n : Nat) : Prop := ∃ (a : Addr) (qs : List (Int × Int)), x = .ref a /\ IsFrs H a qs /\ GQ qs /\ gj qs n = true
theorem badMix.mono {H H' : Hp} {x : V} {n : Nat} (s : Same H H') (h : badMix H x n) : badMix H' x n := by
 rcases h with ⟨d, l, e⟩ | ⟨a, qs, e, f, g, m⟩
 ·exact .inl ⟨d, l.mono s, e⟩
 ·exact .inr ⟨a, qs, e, f.mono s, g, m⟩
theorem goodMix.mono {H H' : Hp} {x : V} {n : Nat} (s : Same H H') (h : goodMix H x n) : goodMix H' x n := by
 obtain ⟨a, qs, e, f, g, m⟩ := h
 exact ⟨a, qs, e, f.mono s, g, m⟩
theorem q_ {CM : Addr} {H : Hp} {x : V} {n : Nat} {W : Hp -> Prop} {E : XK} (b : badMix H x n) (k : ∀ H', Same H H' -> E (.ref CM) none H') : ∃ (v : V) (n' : Nat), [x, .int n] = [v, .int n'] /\ ((∃ d, Lay H d v /\ early n' d /\ ∀ H', Same H H' -> E (.ref CM) none H') \/
 ∃ (a : Addr) (qs : List (Int × Int)), v = .ref a /\ IsFrs H a qs /\ GQ qs /\ (gj qs n' = true -> ∀ H', Same H H' -> W H') /\ (gj qs n' = false -> ∀ H', Same H H' -> E (.ref CM) none H')) := by
 rcases b with ⟨d, l, e⟩ | ⟨a, qs, e, f, g, m⟩
 ·exact ⟨x, n, rfl, .inl ⟨d, l, e, k⟩⟩
 ·exact ⟨x, n, rfl, .inr ⟨a, qs, e, f, g, (fun z => by rw [m] at z; cases z), fun _ => k⟩⟩
theorem DX {CM : Addr} {H : Hp} {x : V} {n : Nat} {W : Hp -> Prop} {E : XK} (b : goodMix H x n) (k : ∀ H', Same H H' -> W H') : ∃ (v : V) (n' : Nat), [x, .int n] = [v, .int n'] /\ ((∃ d, Lay H d v /\ early n' d /\ ∀ H', Same H H' -> E (.ref CM) none H') \/
 ∃ (a : Addr) (qs : List (Int × Int)), v = .ref a /\ IsFrs H a qs /\ GQ qs /\ (gj qs n' = true -> ∀ H', Same H H' -> W H') /\ (gj qs n' = false -> ∀ H', Same H H' -> E (.ref CM) none H')) := by
 obtain ⟨a, qs, e, f, g, m⟩ := b
 exact ⟨x, n, rfl, .inr ⟨a, qs, e, f, g, (fun _ => k), fun z => by rw [m] at z; cases z⟩⟩
def pC (CT : Addr) (v : V) (H : Hp) (E : XK) : Prop := ∃ d, Lay H d v /\ bF d = false /\ ∀ H', Same H H' -> E (.ref CT) none H'
def goodTab (H : Hp) (v : V) (m n : Nat) : Prop := ∃ (a : Addr) (U : List (List Int)), v = .ref a /\ IsTab H a U /\ Good U m n /\ bF (cZ U) = true
theorem goodTab.mono {H H' : Hp} {v : V} {m n : Nat} (s : Same H H') (h : goodTab H v m n) : goodTab H' v m n := by
 obtain ⟨a, U, e, t, g, y⟩ := h
 exact ⟨a, U, e, t.mono s, g, y⟩
theorem oF {CT : Addr} {H : Hp} {v : V} {W : Hp -> Prop} {E : XK} (b : pC CT v H E) : ∃ (d : D) (v' : V), [v] = [v'] /\ Lay H d v' /\ (bF d = true -> ∀ H', Same H H' -> W H') /\ (bF d = false -> ∀ H', Same H H' -> E (.ref CT) none H') := by
 obtain ⟨d, l, n, k⟩ := b
 exact ⟨d, v, rfl, l, (fun z => by rw [n] at z; cases z), fun _ => k⟩
theorem m_ {CT : Addr} {H : Hp} {v : V} {m n : Nat} {W : Hp -> Prop} {E : XK} (b : goodTab H v m n) (k : ∀ H', Same H H' -> W H') : ∃ (d : D) (v' : V), [v] = [v'] /\ Lay H d v' /\ (bF d = true -> ∀ H', Same H H' -> W H') /\ (bF d = false -> ∀ H', Same H H' -> E (.ref CT) none H') := by
 obtain ⟨a, U, rfl, t, g, y⟩ := b
 exact ⟨_, _, rfl, uy t, (fun _ => k), fun z => by rw [y] at z; cases z⟩
def uh (CT CM : Addr) : Sp := fun vs H _ E => ∃ (v x y : V), vs = [v, x, y] /\ (pC CT v H E \/ ∃ m n, goodTab H v m n /\ (badMix H x m \/ (goodMix H x m /\ badMix H y n)) /\ ∀ H', Same H H' -> E (.ref CM) none H')
def qX (CT CM : Addr) : Sp := fun vs H _ E => ∃ (v y : V), vs = [v, y] /\ (pC CT v H E \/ ∃ m n, goodTab H v m n /\ badMix H y n /\ ∀ H', Same H H' -> E (.ref CM) none H')
theorem len_tab {H : Hp} {v : V} {m n : Nat} (h : goodTab H v m n) : ∃ (a : Addr) (vs : List V), v = .ref a /\ H a = some (.lst vs) /\ vs.length = m /\ ∃ (b : Addr) (ws : List V), vs[0]? = some (.ref b) /\ H b = some (.lst ws) /\ ws.length = n := by
 obtain ⟨a, U, rfl, ⟨vs, ha, hp⟩, g, _⟩ := h
 have hl : vs.length = m := by rw [hp.length, g.rows]
 have m1 := g.m1
 have h0 : 0 < vs.length := by omega
 obtain ⟨r0, er0, b0, eb0, hb0⟩ := hp.get2 (List.getElem?_eq_getElem h0)
 exact ⟨a, vs, rfl, ha, hl, b0, _, by rw [List.getElem?_eq_getElem h0, eb0], hb0, by rw [List.length_map, g.cols r0 (List.mem_of_getElem? er0)]⟩
abbrev BV : Stmt := top 42
theorem Jw : FnScope ["table", "mine", "theirs"] ["table", "mine", "theirs"] (aF BV) := ⟨rfl, rfl, rfl, by decide +kernel, rfl, by decide +kernel, by decide +kernel⟩
theorem Ea {CT CM : Addr} (F : FunM K mg "got" BV ["table", "mine", "theirs"]) (T : Blt mg) (aM : DefX P w K mg base "check_table" ["thing"] 4 (cM CT)) (cg : DefX P w K mg base "check_mixture" ["thing", "count"] 5 (qO CM)) : DefX P w K mg base "got" ["table", "mine", "theirs"] 6 (uh CT CM) := by
 have S := Jw
 refine DefX.of F S (fun vs H Q E h => ?_) (fun f cdv A outer s H vs Q E hr h => ?_)
 ·obtain ⟨v, x, y, rfl, _⟩ := h
  rfl
 ·obtain ⟨v, x, y, rfl, k⟩ := h
  refine ⟨_, au (bw (bz aM (hr.mono (by decide)) rfl bA (aa (pv 0) pa_nil aj) (he := aj)))
   (au (bw (bz cg (hr.mono (by decide)) rfl bA (aa (pv 1) (aa (aJ (bZ K) (by rfl) T.len_ bC (aa (pv 0) pa_nil aj) (he := aj)) pa_nil aZ) aj) (he := aj)))
   (au (bw (bz cg (hr.mono (by decide)) rfl bA (aa (pv 2) (aa (aJ (bZ K) (by rfl) T.len_ bC (aa (aV (ixL K) (pv 0) pe_int (fun _ _ => rfl)) pa_nil aH) (he := aH)) pa_nil aZ) aj) (he := aj))) aY)), ?_⟩
  rcases k with b | ⟨m, n, t, b, k⟩
  ·exact ⟨_, rfl, oF b⟩
  ·refine ⟨_, rfl, m_ t fun H1 s1 => ?_⟩
   obtain ⟨a, ws, rfl, ha, hl, c, us, e0, hc, hn⟩ := len_tab (t.mono s1)
   refine ⟨_, rfl, _, rfl, a, _, rfl, .inl (SqL.of ha), ?_⟩
   rw [hl]
   rcases b with b | ⟨b1, b2⟩
   ·exact q_ (b.mono s1) fun H' s' => k H' (s1.trans s')
   ·refine DX (b1.mono s1) fun H2 s2 => ?_
    refine ⟨_, rfl, _, rfl, a, ws, 0, _, rfl, rfl, SqL.of (s2 _ _ ha), d_ (j := 0) e0, c, _, rfl, .inl (SqL.of (s2 _ _ hc)), ?_⟩
    rw [hn]
    exact q_ ((b2.mono s1).mono s2) fun H' s' => k H' ((s1.trans s2).trans s')
abbrev x_ : Stmt := top 44
theorem HQ : FnScope ["table", "theirs"] ["table", "theirs"] (aF x_) := ⟨rfl, rfl, rfl, by decide +kernel, rfl, by decide +kernel, by decide +kernel⟩
theorem Bx {CT CM : Addr} (F : FunM K mg "best" x_ ["table", "theirs"]) (T : Blt mg) (aM : DefX P w K mg base "check_table" ["thing"] 4 (cM CT)) (cg : DefX P w K mg base "check_mixture" ["thing", "count"] 5 (qO CM)) : DefX P w K mg base "best" ["table", "theirs"] 6 (qX CT CM) := by
 have S := HQ
 refine DefX.of F S (fun vs H Q E h => ?_) (fun f cdv A outer s H vs Q E hr h => ?_)
 ·obtain ⟨v, y, rfl, _⟩ := h
  rfl
 ·obtain ⟨v, y, rfl, k⟩ := h
  refine ⟨_, au (bw (bz aM (hr.mono (by decide)) rfl bA (aa (pv 0) pa_nil aj) (he := aj)))
   (au (bw (bz cg (hr.mono (by decide)) rfl bA (aa (pv 1) (aa (aJ (bZ K) (by rfl) T.len_ bC (aa (aV (ixL K) (pv 0) pe_int (fun _ _ => rfl)) pa_nil aH) (he := aH)) pa_nil aZ) aj) (he := aj))) aY), ?_⟩
  rcases k with b | ⟨m, n, t, b, k⟩
  ·exact ⟨_, rfl, oF b⟩
  ·refine ⟨_, rfl, m_ t fun H1 s1 => ?_⟩
   obtain ⟨a, ws, rfl, ha, hl, c, us, e0, hc, hn⟩ := len_tab (t.mono s1)
   refine ⟨_, rfl, _, rfl, a, ws, 0, _, rfl, rfl, SqL.of ha, d_ (j := 0) e0, c, _, rfl, .inl (SqL.of hc), ?_⟩
   rw [hn]
   exact q_ (b.mono s1) fun H' s' => k H' (s1.trans s')
def rQ (m : Nat) : D -> Bool
 | .int i => decide (0 <= i) && decide (i < m)
 | _ => false
def wg (CN : Addr) : Sp := fun vs H _ E => ∃ (v r : V) (m n : Nat) (d : D), vs = [v, r] /\ goodTab H v m n /\ Lay H d r /\ rQ m d = false /\ E (.ref CN) none H
theorem sH {CN : Addr} (F : FunM K mg "check_row" iZ ["table", "row"]) (T : Blt mg) (X_NoCard : Exc K mg "NoCard" CN) (cz : Def P w K mg base "is_whole" ["thing"] 1 km) : DefX P w K mg base "check_row" ["table", "row"] 2 (wg CN) := by
 have S := oY
 refine DefX.of F S (fun vs H Q E h => ?_) (fun f cdv A outer s H vs Q E hr h => ?_)
 ·obtain ⟨v, r, m, n, d, rfl, _⟩ := h
  rfl
 ·obtain ⟨v, r, m, n, d, rfl, t, l, o, k⟩ := h
  refine ⟨_, aB (bj (PW.pt (dO (bG (bK (aK cz (hr.mono (by decide)) rfl (aa (pv 1) pa_nil aj) (he := aj)))) (du (bG (gQ eZ dX pe_int (pv 1) (aJ (bZ K) (by rfl) T.len_ bC (aa (pv 0) pa_nil aj) (he := aj)))))))
    (aB (iR X_NoCard (aa pe_str pa_nil ao) rfl)) aP), ?_⟩
  refine ⟨_, rfl, d, _, rfl, l, ?_⟩
  cases hi : jX d with
  | false => exact ⟨_, rfl, bH ⟨by show 1 <= sizeLine; decide, k⟩⟩
  | true =>
   refine ⟨_, rfl, bW ?_⟩
   obtain ⟨i, rfl⟩ := mQ hi
   unfold Lay at l
   subst l
   obtain ⟨a, ws, rfl, ha, hl, _⟩ := len_tab t
   have o : (decide (0 <= i) && decide (i < (m : Int))) = false := o
   refine ⟨_, rfl, _, _, rfl, rfl, _, rfl, ?_⟩
   by_cases h0 : 0 <= i
   ·refine ifP (decide_eq_true h0) ?_
    rw [decide_eq_true h0, Bool.true_and] at o
    refine ⟨_, rfl, a, _, rfl, .inl (SqL.of ha), _, _, rfl, rfl, _, rfl, ?_⟩
    rw [hl, o]
    exact bH ⟨by show 1 <= sizeLine; decide, k⟩
   ·refine ifN (by rw [decide_eq_false h0]; exact Bool.false_ne_true) ?_
    exact ⟨_, rfl, bH ⟨by show 1 <= sizeLine; decide, k⟩⟩
def rA (CT CN : Addr) : Sp := fun vs H _ E => ∃ (v r : V), vs = [v, r] /\ (pC CT v H E \/ ∃ (m n : Nat) (d : D), goodTab H v m n /\ Lay H d r /\ rQ m d = false /\ ∀ H', Same H H' -> E (.ref CN) none H')
theorem wL {CT CN : Addr} (F : FunM K mg "beaten" mW ["table", "row"]) (T : Blt mg) (aM : DefX P w K mg base "check_table" ["thing"] 4 (cM CT)) (iQ : DefX P w K mg base "check_row" ["table", "row"] 2 (wg CN)) : DefX P w K mg base "beaten" ["table", "row"] 5 (rA CT CN) := by
 have S := uO
 refine DefX.of F S (fun vs H Q E h => ?_) (fun f cdv A outer s H vs Q E hr h => ?_)
 ·obtain ⟨v, r, rfl, _⟩ := h
  rfl
 ·obtain ⟨v, r, rfl, k⟩ := h
  refine ⟨_, au (bw (bz aM (hr.mono (by decide)) rfl bA (aa (pv 0) pa_nil aj) (he := aj)))
   (au (bw (bz iQ (hr.mono (by decide)) rfl bA (aa (pv 0) (aa (pv 1) pa_nil aj) aj) (he := aj))) aY), ?_⟩
  rcases k with b | ⟨m, n, d, t, l, o, k⟩
  ·exact ⟨_, rfl, oF b⟩
  ·refine ⟨_, rfl, m_ t fun H1 s1 => ?_⟩
   exact ⟨_, rfl, _, rfl, _, _, m, n, d, rfl, t.mono s1, l.mono s1, o, k H1 s1⟩
seal PySem.wpAny
theorem lt0 {X : Cx} {j1 : Nat} {p1 p2 p3 : Pos} : PE X (.List [.List [.Constant (.int 1) j1 p1] p2] p3) (bY yes (.lst [.lst [.int 1]])) := aG (ak (aG (ak aD aA ao)) aA aC)
theorem lt1 {X : Cx} {j1 j2 j3 j4 j5 j6 : Nat} {p1 p2 p3 p4 p5 p6 p7 p8 p9 : Pos} : PE X (.List [.List [.Constant (.int 1) j1 p1, .Constant (.int 2) j2 p2, .Constant (.int 3) j3 p3] p4, .List [.Constant (.int 4) j4 p5, .Constant (.int 5) j5 p6, .Constant (.int 6) j6 p7] p8] p9) (bY yes (.lst [.lst [.int 1, .int 2, .int 3], .lst [.int 4, .int 5, .int 6]])) := aG (ak (aG (ak aD (ak aD (ak aD aA ao) ao) ao)) (ak (aG (ak aD (ak aD (ak aD aA ao) ao) ao)) aA aC) aC)
theorem lt2 {X : Cx} {j1 j2 j3 j4 : Nat} {p1 p2 p3 p4 p5 p6 p7 : Pos} : PE X (.List [.List [.Constant (.int 1) j1 p1, .Constant (.int 2) j2 p2] p3, .List [.Constant (.int 3) j3 p4, .Constant (.int 4) j4 p5] p6] p7) (bY yes (.lst [.lst [.int 1, .int 2], .lst [.int 3, .int 4]])) := aG (ak (aG (ak aD (ak aD aA ao) ao)) (ak (aG (ak aD (ak aD aA ao) ao)) aA aC) aC)
theorem lt3 {X : Cx} {j1 j2 j3 j4 j5 j6 : Nat} {p1 p2 p3 p4 p5 p6 p7 : Pos} : PE X (.List [.Tuple [.Constant (.int 1) j1 p1, .Constant (.int 2) j2 p2] j3 p3, .Tuple [.Constant (.int 1) j4 p4, .Constant (.int 2) j5 p5] j6 p6] p7) (bY yes (.lst [.tup [.int 1, .int 2], .tup [.int 1, .int 2]])) := aG (ak (bD (ak aD (ak aD aA ao) ao)) (ak (bD (ak aD (ak aD aA ao) ao)) aA a_) a_)
theorem lt4 {X : Cx} {j1 j2 j3 : Nat} {p1 p2 p3 p4 p5 p6 p7 p8 : Pos} : PE X (.List [.List [.List [.Constant (.int 1) j1 p1] p2] p3, .List [.List [.Constant (.int 1) j2 p4, .Constant (.int 2) j3 p5] p6] p7] p8) (bY yes (.lst [.lst [.lst [.int 1]], .lst [.lst [.int 1, .int 2]]])) := aG (ak (aG (ak (aG (ak aD aA ao)) aA aC)) (ak (aG (ak (aG (ak aD (ak aD aA ao) ao)) aA aC)) aA aC) aC)
theorem lt5 {X : Cx} {j1 j2 j3 : Nat} {p1 p2 p3 p4 p5 p6 p7 p8 p9 : Pos} : PE X (.List [.List [.List [.Constant (.int 1) j1 p1] p2, .List [.Constant (.int 2) j2 p3] p4] p5, .List [.List [.Constant (.int 1) j3 p6] p7] p8] p9) (bY yes (.lst [.lst [.lst [.int 1], .lst [.int 2]], .lst [.lst [.int 1]]])) := aG (ak (aG (ak (aG (ak aD aA ao)) (ak (aG (ak aD aA ao)) aA aC) aC)) (ak (aG (ak (aG (ak aD aA ao)) aA aC)) aA aC) aC)
theorem lt6 {X : Cx} {j1 j2 j3 j4 j5 j6 j7 j8 j9 j10 : Nat} {p1 p2 p3 p4 p5 p6 p7 p8 p9 p10 p11 p12 p13 p14 p15 p16 p17 : Pos} : PE X (.List [.List [.List [.Constant (.int 1) j1 p1, .Constant (.int 2) j2 p2] p3, .List [.Constant (.int 3) j3 p4, .Constant (.int 4) j4 p5] p6] p7, .List [.List [.Constant (.int 1) j5 p8, .Constant (.int 2) j6 p9, .Constant (.int 3) j7 p10] p11, .List [.Constant (.int 4) j8 p12, .Constant (.int 5) j9 p13, .Constant (.int 6) j10 p14] p15] p16] p17) (bY yes (.lst [.lst [.lst [.int 1, .int 2], .lst [.int 3, .int 4]], .lst [.lst [.int 1, .int 2, .int 3], .lst [.int 4, .int 5, .int 6]]])) := aG (ak (aG (ak (aG (ak aD (ak aD aA ao) ao)) (ak (aG (ak aD (ak aD aA ao) ao)) aA aC) aC)) (ak (aG (ak (aG (ak aD (ak aD (ak aD aA ao) ao) ao)) (ak (aG (ak aD (ak aD (ak aD aA ao) ao) ao)) aA aC) aC)) aA aC) aC)
theorem lt7 {X : Cx} {j1 j2 j3 : Nat} {p1 p2 p3 p4 p5 p6 p7 : Pos} : PE X (.List [.List [.Constant (.int 1) j1 p1] p2, .List [.Constant (.int 2) j2 p3] p4, .List [.Constant (.int 3) j3 p5] p6] p7) (bY yes (.lst [.lst [.int 1], .lst [.int 2], .lst [.int 3]])) := aG (ak (aG (ak aD aA ao)) (ak (aG (ak aD aA ao)) (ak (aG (ak aD aA ao)) aA aC) aC) aC)
theorem lt8 {X : Cx} {j1 j2 : Nat} {p1 p2 p3 p4 p5 : Pos} : PE X (.List [.List [.Constant (.int 1) j1 p1] p2, .List [.Constant (.int 2) j2 p3] p4] p5) (bY yes (.lst [.lst [.int 1], .lst [.int 2]])) := aG (ak (aG (ak aD aA ao)) (ak (aG (ak aD aA ao)) aA aC) aC)
theorem lt9 {X : Cx} {j1 j2 j3 : Nat} {p1 p2 p3 p4 p5 : Pos} : PE X (.List [.List [.Constant (.int 1) j1 p1, .Constant (.int 2) j2 p2, .Constant (.int 3) j3 p3] p4] p5) (bY yes (.lst [.lst [.int 1, .int 2, .int 3]])) := aG (ak (aG (ak aD (ak aD (ak aD aA ao) ao) ao)) aA aC)
theorem lt10 {X : Cx} {j1 j2 : Nat} {p1 p2 p3 p4 : Pos} : PE X (.List [.List [.Constant (.int 1) j1 p1, .Constant (.int 2) j2 p2] p3] p4) (bY yes (.lst [.lst [.int 1, .int 2]])) := aG (ak (aG (ak aD (ak aD aA ao) ao)) aA aC)
theorem Ir {X : Cx} {j1 : Nat} {p1 p2 p3 : Pos} : PE X (.List [.List [.Constant (.int 60) j1 p1] p2] p3) (bY yes (.lst [.lst [.int 60]])) := aG (ak (aG (ak aD aA ao)) aA aC)
theorem Lk {X : Cx} {j1 j2 j3 j4 : Nat} {p1 p2 p3 p4 p5 p6 p7 p8 : Pos} : PE X (.List [.List [.Constant (.int 1) j1 p1, .Constant (.int 41) j2 p2] p3, .List [.Constant (.int 2) j3 p4, .UnaryOp .USub (.Constant (.int 100) j4 p5) p6] p7] p8) (bY yes (.lst [.lst [.int 1, .int 41], .lst [.int 2, .int (-100)]])) := aG (ak (aG (ak aD (ak aD aA ao) ao)) (ak (aG (ak aD (ak iB aA cR) ao)) aA aC) aC)
theorem Lp {X : Cx} {j1 j2 j3 j4 j5 j6 j7 j8 j9 j10 j11 j12 : Nat} {p1 p2 p3 p4 p5 p6 p7 p8 p9 p10 p11 p12 p13 p14 p15 p16 p17 p18 p19 p20 p21 p22 p23 p24 p25 p26 p27 p28 p29 p30 p31 p32 p33 p34 : Pos} {m : Int} (hv : ∀ p, PE X (.Name "_law_more" p) (t8 2)) : PE X (.List [.Constant .none j1 p1, .Tuple [] j2 p2, .List [] p3, .List [.List [] p4] p5, .List [.Tuple [.Constant (.int 1) j3 p6, .Constant (.int 2) j4 p7] j5 p8] p9, .List [.List [.Constant (.int 1) j6 p10] p11, .List [.Constant (.int 2) j7 p12, .Constant (.int 3) j8 p13] p14] p15, .List [.List [.Constant (.int 1) j9 p16] p17, .List [] p18] p19, .List [.List [.BinOp (.Constant (.int 101) j10 p22) .Add (.Name "_law_more" p20) p21] p23] p24, .List [.List [.BinOp (.UnaryOp .USub (.Constant (.int 101) j11 p27) p28) .Sub (.Name "_law_more" p25) p26] p29] p30, .List [.List [.Constant (.bool true) j12 p31] p32] p33] p34) (bY (isI 2 m) (.lst [.non, .tup [], .lst [], .lst [.lst []], .lst [.tup [.int 1, .int 2]], .lst [.lst [.int 1], .lst [.int 2, .int 3]], .lst [.lst [.int 1], .lst []], .lst [.lst [.int (101 + m)]], .lst [.lst [.int (-101 - m)]], .lst [.lst [.bl true]]])) := aG (ak rM (ak (bD aA) (ak (aG aA) (ak (aG (ak (aG aA) aA aC)) (ak (aG (ak (bD (ak aD (ak aD aA ao) ao)) aA a_)) (ak (aG (ak (aG (ak aD aA ao)) (ak (aG (ak aD (ak aD aA ao) ao)) aA aC) aC)) (ak (aG (ak (aG (ak aD aA ao)) (ak (aG aA) aA aC) aC)) (ak (aG (ak (aG (ak (Cr (hv _)) aA bM)) aA aC)) (ak (aG (ak (aG (ak (Ce (hv _)) aA bM)) aA aC)) (ak (aG (ak (aG (ak BP aA ao)) aA aC)) aA aC) aC) aC) aC) aC) aC) aC) aC) a_) ao)
theorem Kq {X : Cx} {j1 j2 j3 j4 j5 j6 j7 j8 j9 j10 j11 j12 j13 j14 j15 j16 : Nat} {p1 p2 p3 p4 p5 p6 p7 p8 p9 p10 p11 p12 p13 p14 p15 p16 p17 p18 p19 p20 p21 p22 p23 p24 p25 p26 p27 p28 p29 p30 p31 : Pos} : PE X (.List [.List [.List [.Constant (.str "1") j1 p1] p2] p3, .List [.List [.Constant .none j2 p4] p5] p6, .List [.List [.Constant (.int 1) j3 p7] p8, .List [.Constant (.int 1) j4 p9] p10, .List [.Constant (.int 1) j5 p11] p12, .List [.Constant (.int 1) j6 p13] p14, .List [.Constant (.int 1) j7 p15] p16] p17, .List [.List [.Constant (.int 1) j8 p18, .Constant (.int 1) j9 p19, .Constant (.int 1) j10 p20, .Constant (.int 1) j11 p21, .Constant (.int 1) j12 p22] p23] p24, .List [.List [.Tuple [.Constant (.int 1) j13 p25, .Constant (.int 1) j14 p26] j15 p27] p28] p29, .Constant (.str "1") j16 p30] p31) (bY yes (.lst [.lst [.lst [.str "1"]], .lst [.lst [.non]], .lst [.lst [.int 1], .lst [.int 1], .lst [.int 1], .lst [.int 1], .lst [.int 1]], .lst [.lst [.int 1, .int 1, .int 1, .int 1, .int 1]], .lst [.lst [.tup [.int 1, .int 1]]], .str "1"])) := aG (ak (aG (ak (aG (ak rN aA ao)) aA aC)) (ak (aG (ak (aG (ak rM aA ao)) aA aC)) (ak (aG (ak (aG (ak aD aA ao)) (ak (aG (ak aD aA ao)) (ak (aG (ak aD aA ao)) (ak (aG (ak aD aA ao)) (ak (aG (ak aD aA ao)) aA aC) aC) aC) aC) aC)) (ak (aG (ak (aG (ak aD (ak aD (ak aD (ak aD (ak aD aA ao) ao) ao) ao) ao)) aA aC)) (ak (aG (ak (aG (ak (bD (ak aD (ak aD aA ao) ao)) aA a_)) aA aC)) (ak rN aA ao) aC) aC) aC) aC) aC)
theorem K4 {X : Cx} {j1 j2 j3 j4 j5 j6 j7 j8 j9 j10 j11 j12 j13 j14 j15 j16 j17 j18 j19 j20 j21 j22 j23 j24 j25 j26 j27 j28 j29 j30 j31 j32 : Nat} {p1 p2 p3 p4 p5 p6 p7 p8 p9 p10 p11 p12 p13 p14 p15 p16 p17 p18 p19 p20 p21 p22 p23 p24 p25 p26 p27 p28 p29 p30 p31 p32 p33 p34 p35 p36 p37 p38 : Pos} : PE X (.List [.Constant .none j1 p1, .Tuple [.Tuple [.Constant (.int 1) j2 p2, .Constant (.int 2) j3 p3] j4 p4, .Tuple [.Constant (.int 1) j5 p5, .Constant (.int 2) j6 p6] j7 p7] j8 p8, .List [] p9, .List [.Tuple [.Constant (.int 1) j9 p10, .Constant (.int 1) j10 p11] j11 p12] p13, .List [.Tuple [.Constant (.int 1) j12 p14, .Constant (.int 2) j13 p15] j14 p16, .Tuple [.Constant (.int 1) j15 p17, .Constant (.int 3) j16 p18] j17 p19] p20, .List [.Tuple [.Constant (.int 1) j18 p21, .Constant (.int 2) j19 p22] j20 p23, .Tuple [.Constant (.int 1) j21 p24, .Constant (.int 2) j22 p25] j23 p26, .Tuple [.Constant (.int 0) j24 p27, .Constant (.int 1) j25 p28] j26 p29] p30, .List [.Tuple [.Constant (.int 2) j27 p31, .Constant (.int 4) j28 p32] j29 p33, .Tuple [.Constant (.int 1) j30 p34, .Constant (.int 2) j31 p35] j32 p36] p37] p38) (bY yes (.lst [.non, .tup [.tup [.int 1, .int 2], .tup [.int 1, .int 2]], .lst [], .lst [.tup [.int 1, .int 1]], .lst [.tup [.int 1, .int 2], .tup [.int 1, .int 3]], .lst [.tup [.int 1, .int 2], .tup [.int 1, .int 2], .tup [.int 0, .int 1]], .lst [.tup [.int 2, .int 4], .tup [.int 1, .int 2]]])) := aG (ak rM (ak (bD (ak (bD (ak aD (ak aD aA ao) ao)) (ak (bD (ak aD (ak aD aA ao) ao)) aA a_) a_)) (ak (aG aA) (ak (aG (ak (bD (ak aD (ak aD aA ao) ao)) aA a_)) (ak (aG (ak (bD (ak aD (ak aD aA ao) ao)) (ak (bD (ak aD (ak aD aA ao) ao)) aA a_) a_)) (ak (aG (ak (bD (ak aD (ak aD aA ao) ao)) (ak (bD (ak aD (ak aD aA ao) ao)) (ak (bD (ak aD (ak aD aA ao) ao)) aA a_) a_) a_)) (ak (aG (ak (bD (ak aD (ak aD aA ao) ao)) (ak (bD (ak aD (ak aD aA ao) ao)) aA a_) a_)) aA aC) aC) aC) aC) aC) a_) ao)
theorem Ke {X : Cx} {j1 j2 j3 j4 j5 j6 j7 j8 j9 j10 j11 j12 j13 j14 j15 j16 j17 j18 j19 j20 j21 j22 j23 j24 j25 j26 j27 j28 j29 j30 j31 : Nat} {p1 p2 p3 p4 p5 p6 p7 p8 p9 p10 p11 p12 p13 p14 p15 p16 p17 p18 p19 p20 p21 p22 p23 p24 p25 p26 p27 p28 p29 p30 p31 p32 p33 p34 p35 p36 p37 p38 p39 : Pos} : PE X (.List [.List [.Tuple [.Constant (.int 3) j1 p1, .Constant (.int 2) j2 p2] j3 p3, .Tuple [.UnaryOp .USub (.Constant (.int 1) j4 p4) p5, .Constant (.int 2) j5 p6] j6 p7] p8, .List [.Tuple [.Constant (.int 1) j7 p9, .Constant (.int 0) j8 p10] j9 p11, .Tuple [.Constant (.int 0) j10 p12, .Constant (.int 1) j11 p13] j12 p14] p15, .List [.Tuple [.Constant (.bool true) j13 p16, .Constant (.int 1) j14 p17] j15 p18, .Tuple [.Constant (.int 0) j16 p19, .Constant (.int 1) j17 p20] j18 p21] p22, .List [.Tuple [.Constant (.int 1) j19 p23, .Constant (.int 1) j20 p24] j21 p25, .Tuple [.Constant (.int 0) j22 p26, .Constant (.int 2) j23 p27] j24 p28] p29, .List [.Constant (.int 1) j25 p30, .Constant (.int 0) j26 p31] p32, .List [.Tuple [.Constant (.int 1) j27 p33] j28 p34, .Tuple [.Constant (.int 0) j29 p35, .Constant (.int 1) j30 p36] j31 p37] p38] p39) (bY yes (.lst [.lst [.tup [.int 3, .int 2], .tup [.int (-1), .int 2]], .lst [.tup [.int 1, .int 0], .tup [.int 0, .int 1]], .lst [.tup [.bl true, .int 1], .tup [.int 0, .int 1]], .lst [.tup [.int 1, .int 1], .tup [.int 0, .int 2]], .lst [.int 1, .int 0], .lst [.tup [.int 1], .tup [.int 0, .int 1]]])) := aG (ak (aG (ak (bD (ak aD (ak aD aA ao) ao)) (ak (bD (ak iB (ak aD aA ao) cR)) aA a_) a_)) (ak (aG (ak (bD (ak aD (ak aD aA ao) ao)) (ak (bD (ak aD (ak aD aA ao) ao)) aA a_) a_)) (ak (aG (ak (bD (ak BP (ak aD aA ao) ao)) (ak (bD (ak aD (ak aD aA ao) ao)) aA a_) a_)) (ak (aG (ak (bD (ak aD (ak aD aA ao) ao)) (ak (bD (ak aD (ak aD aA ao) ao)) aA a_) a_)) (ak (aG (ak aD (ak aD aA ao) ao)) (ak (aG (ak (bD (ak aD aA ao)) (ak (bD (ak aD (ak aD aA ao) ao)) aA a_) a_)) aA aC) aC) aC) aC) aC) aC)
theorem La {X : Cx} {j1 j2 j3 j4 j5 j6 j7 j8 j9 j10 j11 j12 j13 j14 j15 j16 j17 j18 j19 j20 j21 j22 j23 : Nat} {p1 p2 p3 p4 p5 p6 p7 p8 p9 p10 p11 p12 p13 p14 p15 p16 p17 p18 p19 p20 p21 p22 p23 p24 p25 p26 p27 p28 p29 p30 p31 p32 : Pos} : PE X (.List [.List [.Tuple [.Constant (.int 1) j1 p1, .Constant (.int 1) j2 p2, .Constant (.int 1) j3 p3] j4 p4, .Tuple [.Constant (.int 0) j5 p5, .Constant (.int 1) j6 p6] j7 p7] p8, .List [.List [.Constant (.int 1) j8 p9, .Constant (.int 2) j9 p10] p11, .List [.Constant (.int 1) j10 p12, .Constant (.int 2) j11 p13] p14] p15, .List [.Tuple [.UnaryOp .USub (.Constant (.int 1) j12 p16) p17, .UnaryOp .USub (.Constant (.int 2) j13 p18) p19] j14 p20, .Tuple [.Constant (.int 1) j15 p21, .Constant (.int 2) j16 p22] j17 p23] p24, .List [.Tuple [.Constant (.str "1") j18 p25, .Constant (.int 2) j19 p26] j20 p27, .Tuple [.Constant (.int 1) j21 p28, .Constant (.int 2) j22 p29] j23 p30] p31] p32) (bY yes (.lst [.lst [.tup [.int 1, .int 1, .int 1], .tup [.int 0, .int 1]], .lst [.lst [.int 1, .int 2], .lst [.int 1, .int 2]], .lst [.tup [.int (-1), .int (-2)], .tup [.int 1, .int 2]], .lst [.tup [.str "1", .int 2], .tup [.int 1, .int 2]]])) := aG (ak (aG (ak (bD (ak aD (ak aD (ak aD aA ao) ao) ao)) (ak (bD (ak aD (ak aD aA ao) ao)) aA a_) a_)) (ak (aG (ak (aG (ak aD (ak aD aA ao) ao)) (ak (aG (ak aD (ak aD aA ao) ao)) aA aC) aC)) (ak (aG (ak (bD (ak iB (ak iB aA cR) cR)) (ak (bD (ak aD (ak aD aA ao) ao)) aA a_) a_)) (ak (aG (ak (bD (ak rN (ak aD aA ao) ao)) (ak (bD (ak aD (ak aD aA ao) ao)) aA a_) a_)) aA aC) aC) aC) aC)
theorem KY {X : Cx} {j1 j2 j3 j4 j5 j6 j7 : Nat} {p1 p2 p3 p4 p5 p6 p7 p8 p9 p10 p11 p12 p13 : Pos} {m : Int} (hv : ∀ p, PE X (.Name "_law_more" p) (t8 2)) : PE X (.List [.BinOp (.Constant (.int 2) j1 p3) .Add (.Name "_law_more" p1) p2, .BinOp (.UnaryOp .USub (.Constant (.int 1) j2 p6) p7) .Sub (.Name "_law_more" p4) p5, .Constant (.bool true) j3 p8, .Constant (.str "0") j4 p9, .Constant .none j5 p10, .Tuple [.Constant (.int 0) j6 p11] j7 p12] p13) (bY (isI 2 m) (.lst [.int (2 + m), .int (-1 - m), .bl true, .str "0", .non, .tup [.int 0]])) := aG (ak (Cr (hv _)) (ak (Ce (hv _)) (ak BP (ak rN (ak rM (ak (bD (ak aD aA ao)) aA a_) ao) ao) ao) bM) bM)
theorem Iu {X : Cx} {j1 : Nat} {p1 p2 p3 : Pos} : PE X (.List [.List [.Constant (.int 100) j1 p1] p2] p3) (bY yes (.lst [.lst [.int 100]])) := aG (ak (aG (ak aD aA ao)) aA aC)
theorem Ko {X : Cx} {j1 j2 : Nat} {p1 p2 p3 p4 p5 : Pos} : PE X (.List [.List [.UnaryOp .USub (.Constant (.int 100) j1 p1) p2, .Constant (.int 100) j2 p3] p4] p5) (bY yes (.lst [.lst [.int (-100), .int 100]])) := aG (ak (aG (ak iB (ak aD aA ao) cR)) aA aC)
theorem KN {X : Cx} {j1 : Nat} {p1 p2 p3 : Pos} : PE X (.List [.List [.Constant (.int 40) j1 p1] p2] p3) (bY yes (.lst [.lst [.int 40]])) := aG (ak (aG (ak aD aA ao)) aA aC)
theorem Lj {X : Cx} {j1 j2 j3 j4 : Nat} {p1 p2 p3 p4 p5 p6 p7 p8 p9 : Pos} : PE X (.List [.List [.Constant (.int 1) j1 p1, .UnaryOp .USub (.Constant (.int 1) j2 p2) p3] p4, .List [.UnaryOp .USub (.Constant (.int 1) j3 p5) p6, .Constant (.int 1) j4 p7] p8] p9) (bY yes (.lst [.lst [.int 1, .int (-1)], .lst [.int (-1), .int 1]])) := aG (ak (aG (ak aD (ak iB aA cR) ao)) (ak (aG (ak iB (ak aD aA ao) cR)) aA aC) aC)
theorem Ld {X : Cx} {j1 j2 j3 : Nat} {p1 p2 p3 : Pos} : PE X (.Tuple [.Constant (.int 100) j1 p1, .Constant (.int 1) j2 p2] j3 p3) (bY yes (.tup [.int 100, .int 1])) := bD (ak aD (ak aD aA ao) ao)
theorem Ln {X : Cx} {j1 j2 j3 : Nat} {p1 p2 p3 p4 p5 : Pos} : PE X (.Tuple [.UnaryOp .USub (.Constant (.int 100) j1 p1) p2, .UnaryOp .USub (.Constant (.int 100) j2 p3) p4] j3 p5) (bY yes (.tup [.int (-100), .int (-100)])) := bD (ak iB (ak iB aA cR) cR)
theorem KJ {X : Cx} {j1 j2 j3 : Nat} {p1 p2 p3 p4 p5 : Pos} : PE X (.Tuple [.List [.Constant (.int 0) j1 p1] p2, .List [.Constant (.int 0) j2 p3] p4] j3 p5) (bY yes (.tup [.lst [.int 0], .lst [.int 0]])) := bD (ak (aG (ak aD aA ao)) (ak (aG (ak aD aA ao)) aA aC) aC)
theorem KH {X : Cx} {j1 j2 j3 : Nat} {p1 p2 p3 : Pos} : PE X (.Tuple [.Constant (.int 0) j1 p1, .Constant (.int 1) j2 p2] j3 p3) (bY yes (.tup [.int 0, .int 1])) := bD (ak aD (ak aD aA ao) ao)
def uT (CT : Addr) : Sp := fun vs H _ E => ∃ (door : Int) (d : D) (v : V), vs = [.int door, v] /\ 0 <= door /\ door < 24 /\ Lay H d v /\ bF d = false /\ ∀ H', Same H H' -> E (.ref CT) none H'
theorem at5 (a b c d e : V) : atI [a, b, c, d, e] 0 = some a /\ atI [a, b, c, d, e] 1 = some b /\ atI [a, b, c, d, e] 2 = some c /\ atI [a, b, c, d, e] 3 = some d /\ atI [a, b, c, d, e] 4 = some e := ⟨rfl, rfl, rfl, rfl, rfl⟩
abbrev fu : Stmt := top 83
theorem oh : FnScope ["_law_door", "_law_bad", "_law_great", "_law_pair"] ["_law_door", "_law_bad"] (aF fu) := ⟨rfl, rfl, rfl, by decide +kernel, rfl, by decide +kernel, by decide +kernel⟩
theorem ou {CT CU CM CN : Addr} (F : FunM K mg "_law_table_asked" fu ["_law_door", "_law_bad"]) (T : Blt mg)
  (G_turned__B : DefX P w K mg base "turned" ["table"] 5 (cV CT)) (G_sure__B : DefX P w K mg base "sure" ["table"] 5 (cV CT)) (G_saddles__B : DefX P w K mg base "saddles" ["table"] 5 (cV CT)) (G_solved__B : DefX P w K mg base "solved" ["table"] 5 (cV CT)) (G_written__B : DefX P w K mg base "written" ["table"] 5 (cV CT))
  (gO : DefX P w K mg base "got" ["table", "mine", "theirs"] 6 (uh CT CM)) (fB : DefX P w K mg base "best" ["table", "theirs"] 6 (qX CT CM)) (dB : DefX P w K mg base "beaten" ["table", "row"] 5 (rA CT CN))
  (G_settled__B : DefX P w K mg base "settled" ["one", "other"] 6 (cu CT CU)) (G_sure_pairs__B : DefX P w K mg base "sure_pairs" ["one", "other"] 6 (cu CT CU)) (G_struck__B : DefX P w K mg base "struck" ["one", "other"] 6 (cu CT CU)) (G_together__B : DefX P w K mg base "together" ["one", "other"] 5 (uc CT CU)) :
  DefX P w K mg base "_law_table_asked" ["_law_door", "_law_bad"] 8 (uT CT) := by
 have S := oh
 obtain ⟨f1, fd1, ok1, mg_1, kp1, bd1⟩ := G_turned__B.ex
 obtain ⟨f2, fd2, ok2, mg_2, kp2, bd2⟩ := G_sure__B.ex
 obtain ⟨f3, fd3, ok3, mg_3, kp3, bd3⟩ := G_saddles__B.ex
 obtain ⟨f4, fd4, ok4, mg_4, kp4, bd4⟩ := G_solved__B.ex
 obtain ⟨f5, fd5, ok5, mg_5, kp5, bd5⟩ := G_written__B.ex
 obtain ⟨f6, fd6, ok6, mg_6, kp6, bd6⟩ := G_settled__B.ex
 obtain ⟨f7, fd7, ok7, mg_7, kp7, bd7⟩ := G_sure_pairs__B.ex
 obtain ⟨f8, fd8, ok8, mg_8, kp8, bd8⟩ := G_struck__B.ex
 obtain ⟨f9, fd9, ok9, mg_9, kp9, bd9⟩ := G_together__B.ex
 refine DefX.of F S (fun vs H Q E h => ?_) (fun f cdv A outer s H vs Q E hr h => ?_)
 ·obtain ⟨door, d, v, rfl, _⟩ := h
  rfl
 ·obtain ⟨door, d, v, rfl, d0, d24, l, n, k⟩ := h
  by_cases h5 : door < 5
  ·refine ⟨_, au (bj (aX dX (pv 0) pe_int (aQ _)) (aB (aN (qZ (aV (ixL K) (bL (aa (peC mg_1 rfl) (aa (peC mg_2 rfl) (aa (peC mg_3 rfl) (aa (peC mg_4 rfl) (aa (peC mg_5 rfl) pa_nil aj) aj) aj) aj) aj)) (pv 0) (fun _ _ => rfl)) (aa (pv 1) pa_nil aj) (he := aj)))) aP) aY, ?_⟩
   refine ⟨_, rfl, _, _, rfl, rfl, _, rfl, ifP (decide_eq_true h5) ?_⟩
   refine ⟨(by show 5 <= sizeLine; decide), fun q hq => ?_⟩
   have s1 := aq (o := .lst [.ref f1, .ref f2, .ref f3, .ref f4, .ref f5]) hq
   have go : cV CT [v] (upd H q (.lst [.ref f1, .ref f2, .ref f3, .ref f4, .ref f5])) Q E := ⟨d, v, rfl, l.mono s1, n, fun H' s' => k H' (s1.trans s')⟩
   have hd : door = 0 \/ door = 1 \/ door = 2 \/ door = 3 \/ door = 4 := by omega
   rcases hd with rfl | rfl | rfl | rfl | rfl
   ·exact ⟨_, rfl, q, _, 0, _, rfl, rfl, SqL.of az, rfl, f1, fd1, 5, _, _, E, rfl, ok1, hr.mono (by decide), kp1, bd1, bA, _, rfl, go⟩
   ·exact ⟨_, rfl, q, _, 1, _, rfl, rfl, SqL.of az, rfl, f2, fd2, 5, _, _, E, rfl, ok2, hr.mono (by decide), kp2, bd2, bA, _, rfl, go⟩
   ·exact ⟨_, rfl, q, _, 2, _, rfl, rfl, SqL.of az, rfl, f3, fd3, 5, _, _, E, rfl, ok3, hr.mono (by decide), kp3, bd3, bA, _, rfl, go⟩
   ·exact ⟨_, rfl, q, _, 3, _, rfl, rfl, SqL.of az, rfl, f4, fd4, 5, _, _, E, rfl, ok4, hr.mono (by decide), kp4, bd4, bA, _, rfl, go⟩
   ·exact ⟨_, rfl, q, _, 4, _, rfl, rfl, SqL.of az, rfl, f5, fd5, 5, _, _, E, rfl, ok5, hr.mono (by decide), kp5, bd5, bA, _, rfl, go⟩
  have bt : pC CT v H E := ⟨d, l, n, k⟩
  by_cases h8 : door < 8
  ·by_cases e5 : door = 5
   ·refine ⟨_, au (bj (aX dX (pv 0) pe_int (aQ _)) aY aP) (au (bj (aX dX (pv 0) pe_int (aQ _)) (au (bj (aX bR (pv 0) pe_int (aQ _)) (aB (aN (bz gO (hr.mono (by decide)) rfl bA (aa (pv 1) (aa pe_non (aa pe_non pa_nil ao) ao) aj) (he := aj)))) aP) aY) aP) aY), ?_⟩
    refine ⟨_, rfl, _, _, rfl, rfl, _, rfl, ifN (by rw [decide_eq_false h5]; exact Bool.false_ne_true) ?_⟩
    refine ⟨_, rfl, _, _, rfl, rfl, _, rfl, ifP (decide_eq_true h8) ?_⟩
    refine ⟨_, rfl, rfl, _, rfl, ifP (decide_eq_true (by rw [e5])) ?_⟩
    exact ⟨_, rfl, _, _, _, rfl, .inl bt⟩
   by_cases e6 : door = 6
   ·refine ⟨_, au (bj (aX dX (pv 0) pe_int (aQ _)) aY aP) (au (bj (aX dX (pv 0) pe_int (aQ _)) (au (bj (aX bR (pv 0) pe_int (aQ _)) aY aP) (aB (aN (jH (aX bR (pv 0) pe_int (aQ _)) (bz fB (hr.mono (by decide)) rfl bA (aa (pv 1) (aa pe_non pa_nil ao) aj) (he := aj)) (bz dB (hr.mono (by decide)) rfl bA (aa (pv 1) (aa pe_non pa_nil ao) aj) (he := aj)))))) aP) aY), ?_⟩
    refine ⟨_, rfl, _, _, rfl, rfl, _, rfl, ifN (by rw [decide_eq_false h5]; exact Bool.false_ne_true) ?_⟩
    refine ⟨_, rfl, _, _, rfl, rfl, _, rfl, ifP (decide_eq_true h8) ?_⟩
    refine ⟨_, rfl, rfl, _, rfl, ifN (by rw [decide_eq_false (fun z => e5 (V.int.inj z))]; exact Bool.false_ne_true) ?_⟩
    refine ⟨_, rfl, rfl, _, rfl, ifP (decide_eq_true (by rw [e6])) ?_⟩
    exact ⟨_, rfl, _, _, rfl, .inl bt⟩
   ·refine ⟨_, au (bj (aX dX (pv 0) pe_int (aQ _)) aY aP) (au (bj (aX dX (pv 0) pe_int (aQ _)) (au (bj (aX bR (pv 0) pe_int (aQ _)) aY aP) (aB (aN (jH (aX bR (pv 0) pe_int (aQ _)) (bz fB (hr.mono (by decide)) rfl bA (aa (pv 1) (aa pe_non pa_nil ao) aj) (he := aj)) (bz dB (hr.mono (by decide)) rfl bA (aa (pv 1) (aa pe_non pa_nil ao) aj) (he := aj)))))) aP) aY), ?_⟩
    refine ⟨_, rfl, _, _, rfl, rfl, _, rfl, ifN (by rw [decide_eq_false h5]; exact Bool.false_ne_true) ?_⟩
    refine ⟨_, rfl, _, _, rfl, rfl, _, rfl, ifP (decide_eq_true h8) ?_⟩
    refine ⟨_, rfl, rfl, _, rfl, ifN (by rw [decide_eq_false (fun z => e5 (V.int.inj z))]; exact Bool.false_ne_true) ?_⟩
    refine ⟨_, rfl, rfl, _, rfl, ifN (by rw [decide_eq_false (fun z => e6 (V.int.inj z))]; exact Bool.false_ne_true) ?_⟩
    exact ⟨_, rfl, _, _, rfl, .inl bt⟩
  refine ⟨_, au (bj (aX dX (pv 0) pe_int (aQ _)) aY aP) (au (bj (aX dX (pv 0) pe_int (aQ _)) aY aP)
   (au (aU (i := 2) S.nd rfl (Or.inl rfl) lt1)
   (au (aU (i := 3) S.nd rfl (Or.inl rfl) (aV (ixL K) (bL (aa (bL (aa (pv 1) (aa lt0 pa_nil aC) aj)) (aa (bL (aa lt0 (aa (pv 1) pa_nil aj) aC)) (aa (bL (aa (pv 1) (aa (pv 2) pa_nil aj) aj)) (aa (bL (aa (pv 2) (aa (pv 1) pa_nil aj) aj)) pa_nil aC) aC) aC) aC)) (bu dH (bu lX (pv 0) pe_int) pe_int) (fun _ _ => rfl)))
   (aB (aN (qZ (aV (ixL K) (bL (aa (peC mg_6 rfl) (aa (peC mg_7 rfl) (aa (peC mg_8 rfl) (aa (peC mg_9 rfl) pa_nil aj) aj) aj) aj)) (bu dH (pv 0) pe_int) (fun _ _ => rfl)) (aa (aV (ixL K) (pv 3) pe_int (fun _ _ => rfl)) (aa (aV (ixL K) (pv 3) pe_int (fun _ _ => rfl)) pa_nil aH) aH) (he := aH))))))), ?_⟩
  refine ⟨_, rfl, _, _, rfl, rfl, _, rfl, ifN (by rw [decide_eq_false h5]; exact Bool.false_ne_true) ?_⟩
  refine ⟨_, rfl, _, _, rfl, rfl, _, rfl, ifN (by rw [decide_eq_false h8]; exact Bool.false_ne_true) ?_⟩
  refine ⟨trivial, fun vg H1 s1 lg _ => ?_⟩
  refine gB ?_
  refine lR (fun σ' H' => ∃ (pp : Addr) (x y : V), σ' = [some (.int door), some v, some vg, some (.ref pp)] /\ H' pp = some (.lst [x, y]) /\ jb CT x y H' E) (fun R hR => ?_) ?_
  ·refine ⟨_, rfl, trivial, fun w1 H2 s2 l2 _ => ⟨(by show 2 <= sizeLine; decide), fun p1 hp1 => ?_⟩⟩
   have t1 := aq (o := .lst [v, w1]) hp1
   have e1 : upd H2 p1 (.lst [v, w1]) p1 = some (.lst [v, w1]) := az
   generalize upd H2 p1 (.lst [v, w1]) = H3 at t1 e1 ⊢
   refine ⟨trivial, fun w2 H4 s4 l4 _ => ⟨_, rfl, (by show 2 <= sizeLine; decide), fun p2 hp2 => ?_⟩⟩
   have t2 := aq (o := .lst [w2, v]) hp2
   have e2 : upd H4 p2 (.lst [w2, v]) p2 = some (.lst [w2, v]) := az
   generalize upd H4 p2 (.lst [w2, v]) = H5 at t2 e2 ⊢
   refine ⟨_, rfl, _, rfl, (by show 2 <= sizeLine; decide), fun p3 hp3 => ?_⟩
   have t3 := aq (o := .lst [v, vg]) hp3
   have e3 : upd H5 p3 (.lst [v, vg]) p3 = some (.lst [v, vg]) := az
   generalize upd H5 p3 (.lst [v, vg]) = H6 at t3 e3 ⊢
   refine ⟨_, rfl, _, rfl, (by show 2 <= sizeLine; decide), fun p4 hp4 => ?_⟩
   have t4 := aq (o := .lst [vg, v]) hp4
   have e4 : upd H6 p4 (.lst [vg, v]) p4 = some (.lst [vg, v]) := az
   generalize upd H6 p4 (.lst [vg, v]) = H7 at t4 e4 ⊢
   refine ⟨(by show 4 <= sizeLine; decide), fun q hq => ?_⟩
   have t5 := aq (o := .lst [.ref p1, .ref p2, .ref p3, .ref p4]) hq
   have e5 : upd H7 q (.lst [.ref p1, .ref p2, .ref p3, .ref p4]) q = some (.lst [.ref p1, .ref p2, .ref p3, .ref p4]) := az
   generalize upd H7 q (.lst [.ref p1, .ref p2, .ref p3, .ref p4]) = H8 at t5 e5 ⊢
   have s78 := t5
   have s68 := t4.trans s78
   have s58 := t3.trans s68
   have s48 := t2.trans s58
   have s38 := s4.trans s48
   have s28 := t1.trans s38
   have s18 := s2.trans s28
   have s08 := s1.trans s18
   have kE : ∀ H', Same H8 H' -> E (.ref CT) none H' := fun H' s' => k H' (s08.trans s')
   have lv := l.mono s08
   have b1 : jb CT v w1 H8 E := ⟨d, lv, .inl n, kE⟩
   have b2 : jb CT w2 v H8 E := ⟨_, l4.mono s48, .inr ⟨rfl, d, lv, n⟩, kE⟩
   have b3 : jb CT v vg H8 E := ⟨d, lv, .inl n, kE⟩
   have b4 : jb CT vg v H8 E := ⟨_, lg.mono s18, .inr ⟨rfl, d, lv, n⟩, kE⟩
   have hd : door / 4 % 4 = 0 \/ door / 4 % 4 = 1 \/ door / 4 % 4 = 2 \/ door / 4 % 4 = 3 := by omega
   refine ⟨_, rfl, _, _, rfl, rfl, ⟨by decide, by decide⟩, _, _, rfl, rfl, (by show (0 : Int) < 4; decide), ?_⟩
   rcases hd with hd | hd | hd | hd
   ·exact ⟨q, _, _, .ref p1, rfl, rfl, SqL.of e5, (by rw [hd]; rfl), hR _ _ ⟨p1, v, w1, rfl, s38 _ _ e1, b1⟩⟩
   ·exact ⟨q, _, _, .ref p2, rfl, rfl, SqL.of e5, (by rw [hd]; rfl), hR _ _ ⟨p2, w2, v, rfl, s58 _ _ e2, b2⟩⟩
   ·exact ⟨q, _, _, .ref p3, rfl, rfl, SqL.of e5, (by rw [hd]; rfl), hR _ _ ⟨p3, v, vg, rfl, s68 _ _ e3, b3⟩⟩
   ·exact ⟨q, _, _, .ref p4, rfl, rfl, SqL.of e5, (by rw [hd]; rfl), hR _ _ ⟨p4, vg, v, rfl, s78 _ _ e4, b4⟩⟩
  rintro σ' H3 ⟨pp, x, y, rfl, hpp, d1, l1, bb, kb⟩
  refine ⟨(by show 4 <= sizeLine; decide), fun q hq => ?_⟩
  have t5 := aq (o := .lst [.ref f6, .ref f7, .ref f8, .ref f9]) hq
  have e5 : upd H3 q (.lst [.ref f6, .ref f7, .ref f8, .ref f9]) q = some (.lst [.ref f6, .ref f7, .ref f8, .ref f9]) := az
  generalize upd H3 q (.lst [.ref f6, .ref f7, .ref f8, .ref f9]) = H4 at t5 e5 ⊢
  have hp4 := t5 _ _ hpp
  have bT : jb CT x y H4 E := ⟨d1, l1.mono t5, by
   rcases bb with bb | ⟨b1, d2, l2, b2⟩
   ·exact .inl bb
   ·exact .inr ⟨b1, d2, l2.mono t5, b2⟩, fun H' s' => kb H' (t5.trans s')⟩
  have hd : door % 4 = 0 \/ door % 4 = 1 \/ door % 4 = 2 \/ door % 4 = 3 := by omega
  refine ⟨_, rfl, _, _, rfl, rfl, (by show (0 : Int) < 4; decide), ?_⟩
  rcases hd with hd | hd | hd | hd
  ·exact ⟨q, _, _, .ref f6, rfl, rfl, SqL.of e5, (by rw [hd]; rfl), f6, fd6, 6, _, _, E, rfl, ok6, hr.mono (by decide), kp6, bd6, bA, _, rfl, pp, _, 0, _, rfl, rfl, SqL.of hp4, rfl, _, rfl, pp, _, 1, _, rfl, rfl, SqL.of hp4, rfl, x, y, rfl, .inl bT⟩
  ·exact ⟨q, _, _, .ref f7, rfl, rfl, SqL.of e5, (by rw [hd]; rfl), f7, fd7, 6, _, _, E, rfl, ok7, hr.mono (by decide), kp7, bd7, bA, _, rfl, pp, _, 0, _, rfl, rfl, SqL.of hp4, rfl, _, rfl, pp, _, 1, _, rfl, rfl, SqL.of hp4, rfl, x, y, rfl, .inl bT⟩
  ·exact ⟨q, _, _, .ref f8, rfl, rfl, SqL.of e5, (by rw [hd]; rfl), f8, fd8, 6, _, _, E, rfl, ok8, hr.mono (by decide), kp8, bd8, bA, _, rfl, pp, _, 0, _, rfl, rfl, SqL.of hp4, rfl, _, rfl, pp, _, 1, _, rfl, rfl, SqL.of hp4, rfl, x, y, rfl, .inl bT⟩
  ·exact ⟨q, _, _, .ref f9, rfl, rfl, SqL.of e5, (by rw [hd]; rfl), f9, fd9, 5, _, _, E, rfl, ok9, hr.mono (by decide), kp9, bd9, bA, _, rfl, pp, _, 0, _, rfl, rfl, SqL.of hp4, rfl, _, rfl, pp, _, 1, _, rfl, rfl, SqL.of hp4, rfl, x, y, rfl, .inl bT⟩
def uK (CM : Addr) : Sp := fun vs H _ E => ∃ (door : Int) (v : V), vs = [.int door, v] /\ 0 <= door /\ door < 3 /\ badMix H v 2 /\ ∀ H', Same H H' -> E (.ref CM) none H'
theorem Ci : Good [[1, 2], [3, 4]] 2 2 := ⟨by decide, by decide, by decide, by decide, rfl, fun r hr => by simp at hr; rcases hr with rfl | rfl <;> rfl, fun r hr x hx => by simp at hr; rcases hr with rfl | rfl <;> simp at hx <;> rcases hx with rfl | rfl <;> decide⟩
theorem xF {H : Hp} {v : V} {U : List (List Int)} {m n : Nat} (h : Lay H (cZ U) v) (g : Good U m n) (y : bF (cZ U) = true) : goodTab H v m n := by
 obtain ⟨a, rfl, t⟩ := di h
 exact ⟨a, U, rfl, t, g, y⟩
theorem zG {H : Hp} : ∀ {qs : List (Int × Int)} {vs : List V}, Lays H (qs.map frD) vs -> Paired (IsFr H) vs qs
 | [], _, h => by simp only [List.map_nil] at h; unfold Lays at h; rw [h]; exact .nil
 | q :: qs, _, h => by
  simp only [List.map_cons] at h
  unfold Lays at h
  obtain ⟨v, r, rfl, h2, h3⟩ := h
  refine .cons ?_ (zG h3)
  unfold frD Lay at h2
  obtain ⟨b, ws, rfl, hb, hw⟩ := h2
  unfold Lays at hw
  obtain ⟨x, r1, rfl, lx, hw⟩ := hw
  unfold Lays at hw
  obtain ⟨y, r2, rfl, ly, hw⟩ := hw
  unfold Lays at hw
  subst hw
  unfold Lay at lx ly
  subst lx
  subst ly
  exact ⟨b, rfl, hb⟩
theorem vy {H : Hp} {qs : List (Int × Int)} {v : V} (h : Lay H (.lst (qs.map frD)) v) : ∃ a, v = .ref a /\ IsFrs H a qs := by
 unfold Lay at h
 obtain ⟨a, vs, rfl, ha, hv⟩ := h
 exact ⟨a, rfl, vs, ha, zG hv⟩
theorem BL {x : Int} (h : x.natAbs < 4) : Sz 60 x := (show Sz 2 x from by unfold Sz; omega).mono (by decide)
theorem Hb : GQ [(1, 2), (1, 2)] := ⟨fun q hq => by simp at hq; subst hq; exact ⟨by decide, by decide⟩, fun q hq => by simp at hq; subst hq; exact BL (by decide), fun q hq => by simp at hq; subst hq; exact BL (by decide), by decide⟩
theorem Ey : GQ [(1, 2), (1, 3)] := ⟨fun q hq => by simp at hq; rcases hq with rfl | rfl <;> exact ⟨by decide, by decide⟩, fun q hq => by simp at hq; rcases hq with rfl | rfl <;> exact BL (by decide), fun q hq => by simp at hq; rcases hq with rfl | rfl <;> exact BL (by decide), by decide⟩
abbrev dI : Stmt := top 84
theorem lN : FnScope ["_law_door", "_law_bad", "_law_table", "_law_good"] ["_law_door", "_law_bad"] (aF dI) := ⟨rfl, rfl, rfl, by decide +kernel, rfl, by decide +kernel, by decide +kernel⟩
theorem lJ {CT CM : Addr} (F : FunM K mg "_law_mixture_asked" dI ["_law_door", "_law_bad"]) (T : Blt mg) (gO : DefX P w K mg base "got" ["table", "mine", "theirs"] 6 (uh CT CM)) (fB : DefX P w K mg base "best" ["table", "theirs"] 6 (qX CT CM)) :
  DefX P w K mg base "_law_mixture_asked" ["_law_door", "_law_bad"] 8 (uK CM) := by
 have S := lN
 refine DefX.of F S (fun vs H Q E h => ?_) (fun f cdv A outer s H vs Q E hr h => ?_)
 ·obtain ⟨door, v, rfl, _⟩ := h
  rfl
 ·obtain ⟨door, v, rfl, d0, d3, b, k⟩ := h
  refine ⟨_, au (aU (i := 2) S.nd rfl (Or.inl rfl) lt2) (au (aU (i := 3) S.nd rfl (Or.inl rfl) lt3)
   (au (bj (aX bR (pv 0) pe_int (aQ _)) (aB (aN (bz gO (hr.mono (by decide)) rfl bA (aa (pv 2) (aa (pv 1) (aa pe_non pa_nil ao) aj) aj) (he := aj)))) aP)
   (aB (aN (jH (aX bR (pv 0) pe_int (aQ _)) (bz gO (hr.mono (by decide)) rfl bA (aa (pv 2) (aa (pv 3) (aa (pv 1) pa_nil aj) aj) aj) (he := aj)) (bz fB (hr.mono (by decide)) rfl bA (aa (pv 2) (aa (pv 1) pa_nil aj) aj) (he := aj))))))), ?_⟩
  refine ⟨trivial, fun vt H1 s1 lt _ => ?_⟩
  refine gB ?_
  refine ⟨trivial, fun vg H2 s2 lg _ => ?_⟩
  refine gB ?_
  have gt : goodTab H2 vt 2 2 := xF (U := [[1, 2], [3, 4]]) (lt.mono s2) Ci rfl
  obtain ⟨ag, rfl, fg⟩ := vy (qs := [(1, 2), (1, 2)]) lg
  have gm : goodMix H2 (.ref ag) 2 := ⟨ag, _, rfl, fg, Hb, by decide⟩
  have bm := b.mono (s1.trans s2)
  have kE : ∀ H', Same H2 H' -> E (.ref CM) none H' := fun H' s' => k H' ((s1.trans s2).trans s')
  have hd : door = 0 \/ door = 1 \/ door = 2 := by omega
  rcases hd with rfl | rfl | rfl
  ·refine ⟨_, rfl, rfl, _, rfl, ifP rfl ?_⟩
   exact ⟨_, rfl, _, rfl, _, _, _, rfl, .inr ⟨2, 2, gt, .inl bm, kE⟩⟩
  ·refine ⟨_, rfl, rfl, _, rfl, ifN (by decide) ?_⟩
   refine ⟨_, rfl, rfl, _, rfl, ifP rfl ?_⟩
   exact ⟨_, rfl, _, rfl, _, rfl, _, _, _, rfl, .inr ⟨2, 2, gt, .inr ⟨gm, bm⟩, kE⟩⟩
  ·refine ⟨_, rfl, rfl, _, rfl, ifN (by decide) ?_⟩
   refine ⟨_, rfl, rfl, _, rfl, ifN (by decide) ?_⟩
   exact ⟨_, rfl, _, rfl, _, _, rfl, .inr ⟨2, 2, gt, bm, kE⟩⟩
def vI (CU : Addr) : Sp := fun vs H _ E => ∃ door : Int, vs = [.int door] /\ 0 <= door /\ door < 12 /\ ∀ H', Same H H' -> E (.ref CU) none H'
def twoT (H : Hp) (v : V) (U W : List (List Int)) : Prop := ∃ (a : Addr) (x y : V), v = .ref a /\ H a = some (.lst [x, y]) /\ Lay H (cZ U) x /\ Lay H (cZ W) y
theorem uA {H : Hp} {v : V} {U W : List (List Int)} (h : Lay H (.lst [cZ U, cZ W]) v) : twoT H v U W := by
 unfold Lay at h
 obtain ⟨a, vs, rfl, ha, hv⟩ := h
 unfold Lays at hv
 obtain ⟨x, r1, rfl, lx, hv⟩ := hv
 unfold Lays at hv
 obtain ⟨y, r2, rfl, ly, hv⟩ := hv
 unfold Lays at hv
 subst hv
 exact ⟨a, x, y, rfl, ha, lx, ly⟩
theorem twoT.mono {H H' : Hp} {v : V} {U W : List (List Int)} (s : Same H H') (h : twoT H v U W) : twoT H' v U W := by
 obtain ⟨a, x, y, e, ha, lx, ly⟩ := h
 exact ⟨a, x, y, e, s _ _ ha, lx.mono s, ly.mono s⟩
theorem cB {U : List (List Int)} {m n : Nat} (h : (decide (1 <= m) && decide (m <= 4) && decide (1 <= n) && decide (n <= 4) && decide (U.length = m) && (U.all fun r => decide (r.length = n) && r.all fun x => decide (-100 <= x) && decide (x <= 100))) = true) : Good U m n := by
 simp only [Bool.and_eq_true, decide_eq_true_eq, List.all_eq_true] at h
 obtain ⟨⟨⟨⟨⟨h1, h2⟩, h3⟩, h4⟩, h5⟩, h6⟩ := h
 exact ⟨h1, h2, h3, h4, h5, fun r hr => (h6 r hr).1, fun r hr x hx => (h6 r hr).2 x hx⟩
abbrev eV : Stmt := top 85
theorem nF : FnScope ["_law_door", "_law_shapes"] ["_law_door"] (aF eV) := ⟨rfl, rfl, rfl, by decide +kernel, rfl, by decide +kernel, by decide +kernel⟩
theorem mX {CT CU : Addr} (F : FunM K mg "_law_unlike_asked" eV ["_law_door"]) (T : Blt mg) (G_settled__B : DefX P w K mg base "settled" ["one", "other"] 6 (cu CT CU)) (G_sure_pairs__B : DefX P w K mg base "sure_pairs" ["one", "other"] 6 (cu CT CU)) (G_struck__B : DefX P w K mg base "struck" ["one", "other"] 6 (cu CT CU)) (G_together__B : DefX P w K mg base "together" ["one", "other"] 5 (uc CT CU)) :
  DefX P w K mg base "_law_unlike_asked" ["_law_door"] 8 (vI CU) := by
 have S := nF
 obtain ⟨f6, fd6, ok6, mg_6, kp6, bd6⟩ := G_settled__B.ex
 obtain ⟨f7, fd7, ok7, mg_7, kp7, bd7⟩ := G_sure_pairs__B.ex
 obtain ⟨f8, fd8, ok8, mg_8, kp8, bd8⟩ := G_struck__B.ex
 refine DefX.of F S (fun vs H Q E h => ?_) (fun f cdv A outer s H vs Q E hr h => ?_)
 ·obtain ⟨door, rfl, _⟩ := h
  rfl
 ·obtain ⟨door, rfl, d0, d12, k⟩ := h
  refine ⟨_, au (aU (i := 1) S.nd rfl (Or.inl rfl) (bL (aa lt4 (aa lt5 pa_nil aC) aC)))
   (au (bw (jY PySem.F.plainAttrs_list PySem.F.slot_list_append PySem.F.type_list_append jf (pv 1) (aa lt6 pa_nil aC)))
   (au (bj (aX dX (pv 0) pe_int (aQ _)) (aB (aN (qZ (aV (ixL K) (bL (aa (peC mg_6 rfl) (aa (peC mg_7 rfl) (aa (peC mg_8 rfl) pa_nil aj) aj) aj)) (bu dH (pv 0) pe_int) (fun _ _ => rfl)) (aa (aV (ixL K) (aV (ixL K) (pv 1) (bu lX (pv 0) pe_int) (fun _ _ => rfl)) pe_int (fun _ _ => rfl)) (aa (aV (ixL K) (aV (ixL K) (pv 1) (bu lX (pv 0) pe_int) (fun _ _ => rfl)) pe_int (fun _ _ => rfl)) pa_nil aH) aH) (he := aH)))) aP)
   (au (bj (aX bR (pv 0) pe_int (aQ _)) (aB (aN (bz G_together__B (hr.mono (by decide)) rfl bA (aa lt7 (aa lt8 pa_nil aC) aC) (he := aC)))) aP)
   (aB (aN (jH (aX bR (pv 0) pe_int (aQ _)) (bz G_together__B (hr.mono (by decide)) rfl bA (aa lt9 (aa lt10 pa_nil aC) aC) (he := aC)) (bz G_together__B (hr.mono (by decide)) rfl bA (aa Ir (aa Lk pa_nil aC) aC) (he := aC)))))))), ?_⟩
  refine lR (fun σ' H' => ∃ (l : Addr) (x0 x1 : V), σ' = [some (.int door), some (.ref l)] /\ H l = none /\ Same H H' /\ H' l = some (.lst [x0, x1]) /\ ∃ H2, Same H H2 /\ H2 l = none /\ Same H2 H' /\ twoT H2 x0 [[1]] [[1, 2]] /\ twoT H2 x1 [[1], [2]] [[1]]) (fun R hR => ?_) ?_
  ·refine ⟨trivial, fun x0 H1 s1 l0 _ => ⟨trivial, fun x1 H2 s2 l1 _ => ⟨(by show 2 <= sizeLine; decide), fun l hl => ?_⟩⟩⟩
   exact hR _ _ ⟨l, x0, x1, rfl, (s1.trans s2).free hl, (s1.trans s2).trans (aq hl), az, H2, s1.trans s2, hl, aq hl, uA (U := [[1]]) (W := [[1, 2]]) (l0.mono s2), uA (U := [[1], [2]]) (W := [[1]]) l1⟩
  rintro σ' H3 ⟨l, x0, x1, rfl, nl, s3, hl, H2, s2, nl2, s23, t0, t1⟩
  refine lR (fun σ' H' => ∃ x2 : V, σ' = [some (.int door), some (.ref l)] /\ Same H H' /\ H' l = some (.lst [x0, x1, x2]) /\ twoT H' x0 [[1]] [[1, 2]] /\ twoT H' x1 [[1], [2]] [[1]] /\ twoT H' x2 [[1, 2], [3, 4]] [[1, 2, 3], [4, 5, 6]]) (fun R hR => ?_) ?_
  ·refine ⟨_, rfl, .inl ⟨rfl, _, SqL.of hl⟩, trivial, fun x2 H4 s4 l2 k2 => ?_⟩
   refine ⟨l, _, _, rfl, rfl, s4 _ _ hl, aR (by show 2 <= 1000; decide), ?_⟩
   have t2 := uA (U := [[1, 2], [3, 4]]) (W := [[1, 2, 3], [4, 5, 6]]) (k2 l _ (.lst [x0, x1, x2]) hl)
   have sA : Same H2 (upd H4 l (.lst [x0, x1, x2])) := eE (s23.trans s4) nl2
   exact hR _ _ ⟨x2, rfl, eE (s3.trans s4) nl, az, t0.mono sA, t1.mono sA, t2⟩
  rintro σ' H4 ⟨x2, rfl, s4, hl4, t0, t1, t2⟩
  have kE : ∀ H', Same H4 H' -> E (.ref CU) none H' := fun H' s' => k H' (s4.trans s')
  by_cases h9 : door < 9
  ·refine ⟨_, rfl, _, _, rfl, rfl, _, rfl, ifP (decide_eq_true h9) ?_⟩
   refine ⟨(by show 3 <= sizeLine; decide), fun q hq => ?_⟩
   have t5 := aq (o := .lst [.ref f6, .ref f7, .ref f8]) hq
   have e5 : upd H4 q (.lst [.ref f6, .ref f7, .ref f8]) q = some (.lst [.ref f6, .ref f7, .ref f8]) := az
   generalize upd H4 q (.lst [.ref f6, .ref f7, .ref f8]) = H5 at t5 e5 ⊢
   have hl5 := t5 _ _ hl4
   have kE5 : ∀ H', Same H5 H' -> E (.ref CU) none H' := fun H' s' => kE H' (t5.trans s')
   have pr : ∃ (a : Addr) (x y : V), atI [x0, x1, x2] (door / 3) = some (.ref a) /\ H5 a = some (.lst [x, y]) /\ cu CT CU [x, y] H5 Q E := by
    have hd : door / 3 = 0 \/ door / 3 = 1 \/ door / 3 = 2 := by omega
    rcases hd with hd | hd | hd
    ·obtain ⟨a, x, y, rfl, ha, lx, ly⟩ := t0.mono t5
     exact ⟨a, x, y, by rw [hd]; rfl, ha, x, y, rfl, .inr ⟨_, _, 1, 1, 1, 2, lx, cB (by decide), rfl, ly, cB (by decide), rfl, rfl, kE5⟩⟩
    ·obtain ⟨a, x, y, rfl, ha, lx, ly⟩ := t1.mono t5
     exact ⟨a, x, y, by rw [hd]; rfl, ha, x, y, rfl, .inr ⟨_, _, 2, 1, 1, 1, lx, cB (by decide), rfl, ly, cB (by decide), rfl, rfl, kE5⟩⟩
    ·obtain ⟨a, x, y, rfl, ha, lx, ly⟩ := t2.mono t5
     exact ⟨a, x, y, by rw [hd]; rfl, ha, x, y, rfl, .inr ⟨_, _, 2, 2, 2, 3, lx, cB (by decide), rfl, ly, cB (by decide), rfl, rfl, kE5⟩⟩
   obtain ⟨a, x, y, hat, ha, go⟩ := pr
   have hd : door % 3 = 0 \/ door % 3 = 1 \/ door % 3 = 2 := by omega
   refine ⟨_, rfl, _, _, rfl, rfl, (by show (0 : Int) < 3; decide), ?_⟩
   rcases hd with hd | hd | hd
   ·exact ⟨q, _, _, .ref f6, rfl, rfl, SqL.of e5, (by rw [hd]; rfl), f6, fd6, 6, _, _, E, rfl, ok6, hr.mono (by decide), kp6, bd6, bA, _, rfl, _, rfl, _, _, rfl, rfl, ⟨by decide, by decide⟩, l, _, _, _, rfl, rfl, SqL.of hl5, hat, a, _, 0, _, rfl, rfl, SqL.of ha, rfl, _, rfl, _, rfl, _, _, rfl, rfl, ⟨by decide, by decide⟩, l, _, _, _, rfl, rfl, SqL.of hl5, hat, a, _, 1, _, rfl, rfl, SqL.of ha, rfl, go⟩
   ·exact ⟨q, _, _, .ref f7, rfl, rfl, SqL.of e5, (by rw [hd]; rfl), f7, fd7, 6, _, _, E, rfl, ok7, hr.mono (by decide), kp7, bd7, bA, _, rfl, _, rfl, _, _, rfl, rfl, ⟨by decide, by decide⟩, l, _, _, _, rfl, rfl, SqL.of hl5, hat, a, _, 0, _, rfl, rfl, SqL.of ha, rfl, _, rfl, _, rfl, _, _, rfl, rfl, ⟨by decide, by decide⟩, l, _, _, _, rfl, rfl, SqL.of hl5, hat, a, _, 1, _, rfl, rfl, SqL.of ha, rfl, go⟩
   ·exact ⟨q, _, _, .ref f8, rfl, rfl, SqL.of e5, (by rw [hd]; rfl), f8, fd8, 6, _, _, E, rfl, ok8, hr.mono (by decide), kp8, bd8, bA, _, rfl, _, rfl, _, _, rfl, rfl, ⟨by decide, by decide⟩, l, _, _, _, rfl, rfl, SqL.of hl5, hat, a, _, 0, _, rfl, rfl, SqL.of ha, rfl, _, rfl, _, rfl, _, _, rfl, rfl, ⟨by decide, by decide⟩, l, _, _, _, rfl, rfl, SqL.of hl5, hat, a, _, 1, _, rfl, rfl, SqL.of ha, rfl, go⟩
  refine ⟨_, rfl, _, _, rfl, rfl, _, rfl, ifN (by rw [decide_eq_false h9]; exact Bool.false_ne_true) ?_⟩
  have hd : door = 9 \/ door = 10 \/ door = 11 := by omega
  rcases hd with rfl | rfl | rfl
  ·refine ⟨_, rfl, rfl, _, rfl, ifP rfl ?_⟩
   refine ⟨trivial, fun v1 H5 s5 l1 _ => ⟨trivial, fun v2 H6 s6 l2 _ => ?_⟩⟩
   exact ⟨v1, v2, rfl, .inr ⟨[[1], [2], [3]], [[1], [2]], 3, 1, 2, 1, l1.mono s6, cB (by decide), rfl, l2, cB (by decide), rfl, rfl, fun H' s' => kE H' ((s5.trans s6).trans s')⟩⟩
  ·refine ⟨_, rfl, rfl, _, rfl, ifN (by decide) ?_⟩
   refine ⟨_, rfl, rfl, _, rfl, ifP rfl ?_⟩
   refine ⟨trivial, fun v1 H5 s5 l1 _ => ⟨trivial, fun v2 H6 s6 l2 _ => ?_⟩⟩
   exact ⟨v1, v2, rfl, .inr ⟨[[1, 2, 3]], [[1, 2]], 1, 3, 1, 2, l1.mono s6, cB (by decide), rfl, l2, cB (by decide), rfl, rfl, fun H' s' => kE H' ((s5.trans s6).trans s')⟩⟩
  ·refine ⟨_, rfl, rfl, _, rfl, ifN (by decide) ?_⟩
   refine ⟨_, rfl, rfl, _, rfl, ifN (by decide) ?_⟩
   refine ⟨trivial, fun v1 H5 s5 l1 _ => ⟨trivial, fun v2 H6 s6 l2 _ => ?_⟩⟩
   exact ⟨v1, v2, rfl, .inr ⟨[[60]], [[1, 41], [2, -100]], 1, 1, 2, 2, l1.mono s6, cB (by decide), rfl, l2, cB (by decide), rfl, rfl, fun H' s' => kE H' ((s5.trans s6).trans s')⟩⟩
def GC (more : Int) : List D := [.non, .tup [], .lst [], .lst [.lst []], .lst [.tup [.int 1, .int 2]], .lst [.lst [.int 1], .lst [.int 2, .int 3]], .lst [.lst [.int 1], .lst []], .lst [.lst [.int (101 + more)]], .lst [.lst [.int (-101 - more)]], .lst [.lst [.bl true]]]
def Jy : List D := [.lst [.lst [.str "1"]], .lst [.lst [.non]], .lst [.lst [.int 1], .lst [.int 1], .lst [.int 1], .lst [.int 1], .lst [.int 1]], .lst [.lst [.int 1, .int 1, .int 1, .int 1, .int 1]], .lst [.lst [.tup [.int 1, .int 1]]], .str "1"]
theorem J5 {more : Int} (h : 0 <= more) (i : Nat) (hi : i < 16) : ∃ d, (GC more ++ Jy)[i]? = some d /\ bF d = false := by
 have e1 : bF (.lst [.lst [.int (101 + more)]]) = false := by
  have : decide (101 + more <= 100) = false := decide_eq_false (by omega)
  simp [bF, fJ, nA, this]
 have e2 : bF (.lst [.lst [.int (-101 - more)]]) = false := by
  have : decide (-100 <= -101 - more) = false := decide_eq_false (by omega)
  simp [bF, fJ, nA, this]
 have hc : i = 0 \/ i = 1 \/ i = 2 \/ i = 3 \/ i = 4 \/ i = 5 \/ i = 6 \/ i = 7 \/ i = 8 \/ i = 9 \/ i = 10 \/ i = 11 \/ i = 12 \/ i = 13 \/ i = 14 \/ i = 15 := by omega
 rcases hc with rfl | rfl | rfl | rfl | rfl | rfl | rfl | rfl | rfl | rfl | rfl | rfl | rfl | rfl | rfl | rfl
 ·exact ⟨_, rfl, rfl⟩
 ·exact ⟨_, rfl, rfl⟩
 ·exact ⟨_, rfl, rfl⟩
 ·exact ⟨_, rfl, rfl⟩
 ·exact ⟨_, rfl, rfl⟩
 ·exact ⟨_, rfl, rfl⟩
 ·exact ⟨_, rfl, rfl⟩
 ·exact ⟨_, rfl, e1⟩
 ·exact ⟨_, rfl, e2⟩
 ·exact ⟨_, rfl, rfl⟩
 ·exact ⟨_, rfl, rfl⟩
 ·exact ⟨_, rfl, rfl⟩
 ·exact ⟨_, rfl, rfl⟩
 ·exact ⟨_, rfl, rfl⟩
 ·exact ⟨_, rfl, rfl⟩
 ·exact ⟨_, rfl, rfl⟩
def Jo : List D := [.non, .tup [.tup [.int 1, .int 2], .tup [.int 1, .int 2]], .lst [], .lst [.tup [.int 1, .int 1]], .lst [.tup [.int 1, .int 2], .tup [.int 1, .int 3]], .lst [.tup [.int 1, .int 2], .tup [.int 1, .int 2], .tup [.int 0, .int 1]], .lst [.tup [.int 2, .int 4], .tup [.int 1, .int 2]]]
def I_ : List D := [.lst [.tup [.int 3, .int 2], .tup [.int (-1), .int 2]], .lst [.tup [.int 1, .int 0], .tup [.int 0, .int 1]], .lst [.tup [.bl true, .int 1], .tup [.int 0, .int 1]], .lst [.tup [.int 1, .int 1], .tup [.int 0, .int 2]], .lst [.int 1, .int 0], .lst [.tup [.int 1], .tup [.int 0, .int 1]]]
def JH : List D := [.lst [.tup [.int 1, .int 1, .int 1], .tup [.int 0, .int 1]], .lst [.lst [.int 1, .int 2], .lst [.int 1, .int 2]], .lst [.tup [.int (-1), .int (-2)], .tup [.int 1, .int 2]], .lst [.tup [.str "1", .int 2], .tup [.int 1, .int 2]]]
def yu : D -> Bool
 | .tup [.int a, .int b] => decide (a.natAbs < 8) && decide (b.natAbs < 8)
 | _ => true
theorem Gf {d : D} (h : yu d = true) : pA d := by
 unfold yu at h
 unfold pA
 split at h
 ·rename_i a b
  rw [Bool.and_eq_true] at h
  have h1 : a.natAbs < 8 := of_decide_eq_true h.1
  have h2 : b.natAbs < 8 := of_decide_eq_true h.2
  exact ⟨(show Sz 3 a from h1).mono (by decide), (show Sz 3 b from h2).mono (by decide)⟩
 ·rename_i h'
  first
   | trivial
   | (split <;> first | trivial | (rename_i a b; exact absurd rfl (h' a b)))
  done
theorem cC {ds : List D} (h : (decide (ds.length ≠ 2) || (decide (ds.length <= 4) && !ds.all dW && ds.all yu)) = true) : early 2 (.lst ds) := by
 rcases Bool.or_eq_true_iff.mp h with h | h
 ·exact .inl (of_decide_eq_true h)
 ·simp only [Bool.and_eq_true, Bool.not_eq_true'] at h
  exact .inr ⟨of_decide_eq_true h.1.1, h.1.2, fun d hd => Gf (List.all_eq_true.mp h.2 d hd)⟩
theorem JS (i : Nat) (hi : i < 17) : ∃ d, (Jo ++ I_ ++ JH)[i]? = some d /\ (early 2 d \/ d = .lst (([(1, 2), (1, 3)] : List (Int × Int)).map frD)) := by
 have hc : i = 0 \/ i = 1 \/ i = 2 \/ i = 3 \/ i = 4 \/ i = 5 \/ i = 6 \/ i = 7 \/ i = 8 \/ i = 9 \/ i = 10 \/ i = 11 \/ i = 12 \/ i = 13 \/ i = 14 \/ i = 15 \/ i = 16 := by omega
 rcases hc with rfl | rfl | rfl | rfl | rfl | rfl | rfl | rfl | rfl | rfl | rfl | rfl | rfl | rfl | rfl | rfl | rfl
 ·exact ⟨_, rfl, .inl trivial⟩
 ·exact ⟨_, rfl, .inl trivial⟩
 ·exact ⟨_, rfl, .inl (cC (by decide))⟩
 ·exact ⟨_, rfl, .inl (cC (by decide))⟩
 ·exact ⟨_, rfl, .inr rfl⟩
 ·exact ⟨_, rfl, .inl (cC (by decide))⟩
 ·exact ⟨_, rfl, .inl (cC (by decide))⟩
 ·exact ⟨_, rfl, .inl (cC (by decide))⟩
 ·exact ⟨_, rfl, .inl (cC (by decide))⟩
 ·exact ⟨_, rfl, .inl (cC (by decide))⟩
 ·exact ⟨_, rfl, .inl (cC (by decide))⟩
 ·exact ⟨_, rfl, .inl (cC (by decide))⟩
 ·exact ⟨_, rfl, .inl (cC (by decide))⟩
 ·exact ⟨_, rfl, .inl (cC (by decide))⟩
 ·exact ⟨_, rfl, .inl (cC (by decide))⟩
 ·exact ⟨_, rfl, .inl (cC (by decide))⟩
 ·exact ⟨_, rfl, .inl (cC (by decide))⟩
theorem Hw {H : Hp} {v : V} {d : D} (l : Lay H d v) (h : early 2 d \/ d = .lst (([(1, 2), (1, 3)] : List (Int × Int)).map frD)) : badMix H v 2 := by
 rcases h with h | rfl
 ·exact .inl ⟨d, l, h⟩
 ·obtain ⟨a, rfl, f⟩ := vy l
  exact .inr ⟨a, _, rfl, f, Ey, by decide⟩
def GP (more : Int) : List D := [.int (2 + more), .int (-1 - more), .bl true, .str "0", .non, .tup [.int 0]]
theorem K8 {more : Int} (h : 0 <= more) (i : Nat) (hi : i < 6) : ∃ d, (GP more)[i]? = some d /\ rQ 2 d = false := by
 have e1 : rQ 2 (.int (2 + more)) = false := by
  show (decide (0 <= 2 + more) && decide (2 + more < ((2 : Nat) : Int))) = false
  rw [decide_eq_false (show ¬ 2 + more < ((2 : Nat) : Int) by omega), Bool.and_false]
 have e2 : rQ 2 (.int (-1 - more)) = false := by
  show (decide (0 <= -1 - more) && decide (-1 - more < ((2 : Nat) : Int))) = false
  rw [decide_eq_false (show ¬ 0 <= -1 - more by omega), Bool.false_and]
 have hc : i = 0 \/ i = 1 \/ i = 2 \/ i = 3 \/ i = 4 \/ i = 5 := by omega
 rcases hc with rfl | rfl | rfl | rfl | rfl | rfl
 ·exact ⟨_, rfl, e1⟩
 ·exact ⟨_, rfl, e2⟩
 ·exact ⟨_, rfl, rfl⟩
 ·exact ⟨_, rfl, rfl⟩
 ·exact ⟨_, rfl, rfl⟩
 ·exact ⟨_, rfl, rfl⟩
theorem jB {H : Hp} {ds : List D} {v : V} (h : Lay H (.lst ds) v) : ∃ a vs, v = .ref a /\ H a = some (.lst vs) /\ Lays H ds vs := by
 unfold Lay at h
 exact h
def clsOf (CT CM CN CU : Addr) (kind : Int) : Addr := if kind = 0 then CT else if kind = 1 then CM else if kind = 2 then CN else CU
def Dt (CT CM CN CU : Addr) : Sp := fun vs H _ E => ∃ kind which more : Int, vs = [.int kind, .int which, .int more] /\ 0 <= kind /\ kind < 4 /\ 0 <= more /\ ∀ H', Same H H' -> E (.ref (clsOf CT CM CN CU kind)) none H'
abbrev nR : Stmt := top 86
theorem yX : FnScope ["_law_kind", "_law_which", "_law_more", "_law_bad"] ["_law_kind", "_law_which", "_law_more"] (aF nR) := ⟨rfl, rfl, rfl, by decide +kernel, rfl, by decide +kernel, by decide +kernel⟩
theorem zx {CT CM CN CU : Addr} (F : FunM K mg "_law_ask" nR ["_law_kind", "_law_which", "_law_more"]) (T : Blt mg) (fc : DefX P w K mg base "_law_table_asked" ["_law_door", "_law_bad"] 8 (uT CT)) (dN : DefX P w K mg base "_law_mixture_asked" ["_law_door", "_law_bad"] 8 (uK CM))
  (dB : DefX P w K mg base "beaten" ["table", "row"] 5 (rA CT CN)) (eO : DefX P w K mg base "_law_unlike_asked" ["_law_door"] 8 (vI CU)) : DefX P w K mg base "_law_ask" ["_law_kind", "_law_which", "_law_more"] 9 (Dt CT CM CN CU) := by
 have S := yX
 refine DefX.of F S (fun vs H Q E h => ?_) (fun f cdv A outer s H vs Q E hr h => ?_)
 ·obtain ⟨kind, which, more, rfl, _⟩ := h
  rfl
 ·obtain ⟨kind, which, more, rfl, k0, k4, m0, k⟩ := h
  have hd : kind = 0 \/ kind = 1 \/ kind = 2 \/ kind = 3 := by omega
  rcases hd with rfl | rfl | rfl | rfl
  ·have k : ∀ H', Same H H' -> E (.ref CT) none H' := k
   refine ⟨_, au (bj (aX bR (pv 0) pe_int (aQ _)) (au (aU (i := 3) S.nd rfl (Or.inl rfl) (Lp (m := more) (fun _ => pv 2))) (au (aU (i := 3) S.nd rfl (Or.inl rfl) (bu fj (pv 3) Kq)) (aB (aN (bz fc (hr.mono (by decide)) rfl bA (aa (bu dH (bu lX (pv 1) pe_int) pe_int) (aa (aV (ixL K) (pv 3) (bu dH (pv 1) pe_int) (fun _ _ => rfl)) pa_nil aH) bM) (he := bM)))))) aP) aY, ?_⟩
   refine ⟨_, rfl, rfl, _, rfl, ifP rfl ?_⟩
   refine ⟨rfl, fun v1 H1 s1 l1 _ => ?_⟩
   refine gB ?_
   obtain ⟨a1, xs1, rfl, ha1, hx1⟩ := jB (show Lay H1 (.lst (GC more)) v1 from l1)
   refine ⟨_, rfl, trivial, fun v2 H2 s2 l2 _ => ?_⟩
   obtain ⟨a2, xs2, rfl, ha2, hx2⟩ := jB (show Lay H2 (.lst Jy) v2 from l2)
   refine ⟨a1, a2, xs1, xs2, rfl, rfl, s2 _ _ ha1, ha2, (by rw [hx1.len, hx2.len]; show 16 <= sizeLine; decide), fun p hp => ?_⟩
   refine gB ?_
   have s3 := aq (o := .lst (xs1 ++ xs2)) hp
   have L := ((hx1.mono s2).append hx2).mono s3
   obtain ⟨i, hi⟩ : ∃ i : Nat, which % 16 = (i : Int) := ⟨(which % 16).toNat, by omega⟩
   have hi16 : i < 16 := by omega
   obtain ⟨d, ed, nd⟩ := J5 m0 i hi16
   obtain ⟨v, ev, lv⟩ := L.get ed
   refine ⟨_, rfl, _, _, rfl, rfl, ⟨by decide, by decide⟩, _, _, rfl, rfl, (by show (0 : Int) < 24; decide), _, rfl, _, rfl, _, _, rfl, rfl, (by show (0 : Int) < 16; decide), p, _, _, v, rfl, rfl, SqL.of az, (by rw [hi]; exact d_ ev), ?_⟩
   exact ⟨_, d, v, rfl, by omega, by omega, lv, nd, fun H' s' => k H' (((s1.trans s2).trans s3).trans s')⟩
  ·have k : ∀ H', Same H H' -> E (.ref CM) none H' := k
   refine ⟨_, au (bj (aX bR (pv 0) pe_int (aQ _)) aY aP) (au (bj (aX bR (pv 0) pe_int (aQ _)) (au (aU (i := 3) S.nd rfl (Or.inl rfl) K4) (au (aU (i := 3) S.nd rfl (Or.inl rfl) (bu fj (pv 3) Ke)) (au (aU (i := 3) S.nd rfl (Or.inl rfl) (bu fj (pv 3) La)) (aB (aN (bz dN (hr.mono (by decide)) rfl bA (aa (bu dH (bu lX (pv 1) pe_int) pe_int) (aa (aV (ixL K) (pv 3) (bu dH (pv 1) pe_int) (fun _ _ => rfl)) pa_nil aH) bM) (he := bM))))))) aP) aY), ?_⟩
   refine ⟨_, rfl, rfl, _, rfl, ifN (by decide) ?_⟩
   refine ⟨_, rfl, rfl, _, rfl, ifP rfl ?_⟩
   refine ⟨trivial, fun v1 H1 s1 l1 _ => ?_⟩
   refine gB ?_
   obtain ⟨a1, xs1, rfl, ha1, hx1⟩ := jB (show Lay H1 (.lst Jo) v1 from l1)
   refine ⟨_, rfl, trivial, fun v2 H2 s2 l2 _ => ?_⟩
   obtain ⟨a2, xs2, rfl, ha2, hx2⟩ := jB (show Lay H2 (.lst I_) v2 from l2)
   refine ⟨a1, a2, xs1, xs2, rfl, rfl, s2 _ _ ha1, ha2, (by rw [hx1.len, hx2.len]; show 13 <= sizeLine; decide), fun p hp => ?_⟩
   refine gB ?_
   have s3 := aq (o := .lst (xs1 ++ xs2)) hp
   have L2 := ((hx1.mono s2).append hx2).mono s3
   have e3 : upd H2 p (.lst (xs1 ++ xs2)) p = some (.lst (xs1 ++ xs2)) := az
   generalize upd H2 p (.lst (xs1 ++ xs2)) = H3 at s3 L2 e3 ⊢
   refine ⟨_, rfl, trivial, fun v4 H4 s4 l4 _ => ?_⟩
   obtain ⟨a4, xs4, rfl, ha4, hx4⟩ := jB (show Lay H4 (.lst JH) v4 from l4)
   refine ⟨p, a4, _, xs4, rfl, rfl, s4 _ _ e3, ha4, (by rw [List.length_append, hx1.len, hx2.len, hx4.len]; show 17 <= sizeLine; decide), fun q hq => ?_⟩
   refine gB ?_
   have s5 := aq (o := .lst (xs1 ++ xs2 ++ xs4)) hq
   have L := ((L2.mono s4).append hx4).mono s5
   obtain ⟨i, hi⟩ : ∃ i : Nat, which % 17 = (i : Int) := ⟨(which % 17).toNat, by omega⟩
   have hi17 : i < 17 := by omega
   obtain ⟨d, ed, nd⟩ := JS i hi17
   obtain ⟨v, ev, lv⟩ := L.get ed
   refine ⟨_, rfl, _, _, rfl, rfl, ⟨by decide, by decide⟩, _, _, rfl, rfl, (by show (0 : Int) < 3; decide), _, rfl, _, rfl, _, _, rfl, rfl, (by show (0 : Int) < 17; decide), q, _, _, v, rfl, rfl, SqL.of az, (by rw [hi]; exact d_ ev), ?_⟩
   exact ⟨_, v, rfl, by omega, by omega, Hw lv nd, fun H' s' => k H' (((((s1.trans s2).trans s3).trans s4).trans s5).trans s')⟩
  ·have k : ∀ H', Same H H' -> E (.ref CN) none H' := k
   refine ⟨_, au (bj (aX bR (pv 0) pe_int (aQ _)) aY aP) (au (bj (aX bR (pv 0) pe_int (aQ _)) aY aP) (au (bj (aX bR (pv 0) pe_int (aQ _)) (aB (aN (bz dB (hr.mono (by decide)) rfl bA (aa lt2 (aa (aV (ixL K) (KY (m := more) (fun _ => pv 2)) (bu dH (pv 1) pe_int) (fun _ _ => rfl)) pa_nil aH) aC) (he := aC)))) aP) aY)), ?_⟩
   refine ⟨_, rfl, rfl, _, rfl, ifN (by decide) ?_⟩
   refine ⟨_, rfl, rfl, _, rfl, ifN (by decide) ?_⟩
   refine ⟨_, rfl, rfl, _, rfl, ifP rfl ?_⟩
   refine ⟨trivial, fun v1 H1 s1 l1 _ => ⟨rfl, fun v2 H2 s2 l2 _ => ?_⟩⟩
   obtain ⟨a2, xs2, rfl, ha2, hx2⟩ := jB (show Lay H2 (.lst (GP more)) v2 from l2)
   obtain ⟨i, hi⟩ : ∃ i : Nat, which % 6 = (i : Int) := ⟨(which % 6).toNat, by omega⟩
   have hi6 : i < 6 := by omega
   obtain ⟨d, ed, nd⟩ := K8 m0 i hi6
   obtain ⟨v, ev, lv⟩ := hx2.get ed
   refine ⟨_, rfl, _, _, rfl, rfl, (by show (0 : Int) < 6; decide), a2, _, _, v, rfl, rfl, SqL.of ha2, (by rw [hi]; exact d_ ev), ?_⟩
   exact ⟨v1, v, rfl, .inr ⟨2, 2, d, xF (U := [[1, 2], [3, 4]]) (l1.mono s2) Ci rfl, lv, nd, fun H' s' => k H' ((s1.trans s2).trans s')⟩⟩
  ·have k : ∀ H', Same H H' -> E (.ref CU) none H' := k
   refine ⟨_, au (bj (aX bR (pv 0) pe_int (aQ _)) aY aP) (au (bj (aX bR (pv 0) pe_int (aQ _)) aY aP) (au (bj (aX bR (pv 0) pe_int (aQ _)) aY aP) (aB (aN (bz eO (hr.mono (by decide)) rfl bA (aa (bu dH (pv 1) pe_int) pa_nil bM) (he := bM)))))), ?_⟩
   refine ⟨_, rfl, rfl, _, rfl, ifN (by decide) ?_⟩
   refine ⟨_, rfl, rfl, _, rfl, ifN (by decide) ?_⟩
   refine ⟨_, rfl, rfl, _, rfl, ifN (by decide) ?_⟩
   refine ⟨_, rfl, _, _, rfl, rfl, (by show (0 : Int) < 12; decide), ?_⟩
   exact ⟨_, rfl, by omega, by omega, k⟩
theorem vQ : bootBuiltins "ValueError" = some (.type "ValueError") := by decide +kernel
def mV (kind : Int) : List Bool := [decide (kind = 0), decide (kind = 1), decide (kind = 2), decide (kind = 3), false, true]
def zF : Sp := fun vs H Q _ => ∃ kind which more : Int, vs = [.int kind, .int which, .int more] /\ 0 <= kind /\ kind < 4 /\ 0 <= more /\ ∀ l H', Same H H' -> H' l = some (.lst ((mV kind).map V.bl)) -> Q (.ref l) H'
abbrev kI : Stmt := top 87
theorem wI : FnScope ["_law_kind", "_law_which", "_law_more", "error", "_law_found"] ["_law_kind", "_law_which", "_law_more"] (aF kI) := ⟨rfl, rfl, rfl, by decide +kernel, rfl, by decide +kernel, by decide +kernel⟩
theorem wz {CT CM CN CU CX CC : Addr} (F : FunM K mg "_law_told" kI ["_law_kind", "_law_which", "_law_more"]) (T : Blt mg) (lq : mg "CardError" = some (.ref CC)) (mz : mg "BadTable" = some (.ref CT)) (jT : mg "BadMixture" = some (.ref CM)) (rz : mg "NoCard" = some (.ref CN)) (rD : mg "Unlike" = some (.ref CU)) (oE : mg "BadText" = some (.ref CX))
  (Y_BadTable : ExcT K CT) (Y_BadMixture : ExcT K CM) (Y_NoCard : ExcT K CN) (Y_Unlike : ExcT K CU)
  (Z_BadTable : PySem.W.exmOne K (.ref CT) (.ref CC) = some true) (Z_BadMixture : PySem.W.exmOne K (.ref CM) (.ref CC) = some true) (Z_NoCard : PySem.W.exmOne K (.ref CN) (.ref CC) = some true) (Z_Unlike : PySem.W.exmOne K (.ref CU) (.ref CC) = some true)
  (eY : PySem.W.kitOne K (.ref CT) (.ref CT) = some true) (dC : PySem.W.kitOne K (.ref CT) (.ref CM) = some false) (gf : PySem.W.kitOne K (.ref CT) (.ref CN) = some false) (gh : PySem.W.kitOne K (.ref CT) (.ref CU) = some false) (fG : PySem.W.kitOne K (.ref CT) (.ref CX) = some false) (dG : PySem.W.kitOne K (.ref CM) (.ref CT) = some false) (cY : PySem.W.kitOne K (.ref CM) (.ref CM) = some true) (eX : PySem.W.kitOne K (.ref CM) (.ref CN) = some false) (eQ : PySem.W.kitOne K (.ref CM) (.ref CU) = some false) (dY : PySem.W.kitOne K (.ref CM) (.ref CX) = some false) (fW : PySem.W.kitOne K (.ref CN) (.ref CT) = some false) (eU : PySem.W.kitOne K (.ref CN) (.ref CM) = some false) (iz : PySem.W.kitOne K (.ref CN) (.ref CN) = some true) (iC : PySem.W.kitOne K (.ref CN) (.ref CU) = some false) (gP : PySem.W.kitOne K (.ref CN) (.ref CX) = some false) (gb : PySem.W.kitOne K (.ref CU) (.ref CT) = some false) (eH : PySem.W.kitOne K (.ref CU) (.ref CM) = some false) (gY : PySem.W.kitOne K (.ref CU) (.ref CN) = some false) (ie : PySem.W.kitOne K (.ref CU) (.ref CU) = some true) (gR : PySem.W.kitOne K (.ref CU) (.ref CX) = some false)
  (V_BadTable : PySem.W.kitOne K (.ref CT) (.type "ValueError") = some true) (V_BadMixture : PySem.W.kitOne K (.ref CM) (.type "ValueError") = some true) (V_NoCard : PySem.W.kitOne K (.ref CN) (.type "ValueError") = some true) (V_Unlike : PySem.W.kitOne K (.ref CU) (.type "ValueError") = some true)
  (nG : DefX P w K mg base "_law_ask" ["_law_kind", "_law_which", "_law_more"] 9 (Dt CT CM CN CU)) : Def P w K mg base "_law_told" ["_law_kind", "_law_which", "_law_more"] 10 zF := by
 have S := wI
 refine Def.of F S (fun vs H Q E h => ?_) (fun f cdv A outer s H vs Q E hr h => ?_)
 ·obtain ⟨kind, which, more, rfl, _⟩ := h
  rfl
 ·obtain ⟨kind, which, more, rfl, k0, k4, m0, k⟩ := h
  have pk : ∃ (C : Addr) (b0 b1 b2 b3 : Bool), clsOf CT CM CN CU kind = C /\ ExcT K C /\ PySem.W.exmOne K (.ref C) (.ref CC) = some true /\ PySem.W.kitOne K (.ref C) (.ref CT) = some b0 /\ PySem.W.kitOne K (.ref C) (.ref CM) = some b1 /\ PySem.W.kitOne K (.ref C) (.ref CN) = some b2 /\ PySem.W.kitOne K (.ref C) (.ref CU) = some b3 /\ PySem.W.kitOne K (.ref C) (.ref CX) = some false /\ PySem.W.kitOne K (.ref C) (.type "ValueError") = some true /\ [b0, b1, b2, b3, false, true] = mV kind := by
   have hd : kind = 0 \/ kind = 1 \/ kind = 2 \/ kind = 3 := by omega
   rcases hd with rfl | rfl | rfl | rfl
   ·exact ⟨CT, _, _, _, _, rfl, Y_BadTable, Z_BadTable, eY, dC, gf, gh, fG, V_BadTable, rfl⟩
   ·exact ⟨CM, _, _, _, _, rfl, Y_BadMixture, Z_BadMixture, dG, cY, eX, eQ, dY, V_BadMixture, rfl⟩
   ·exact ⟨CN, _, _, _, _, rfl, Y_NoCard, Z_NoCard, fW, eU, iz, iC, gP, V_NoCard, rfl⟩
   ·exact ⟨CU, _, _, _, _, rfl, Y_Unlike, Z_Unlike, gb, eH, gY, ie, gR, V_Unlike, rfl⟩
  obtain ⟨C, b0, b1, b2, b3, eC, yC, zC, j0, j1, j2, j3, j4, jv, eb⟩ := pk
  refine ⟨_, au (IW (i := 3) (E := fun cls _ H1 => cls = .ref C /\ Same H H1) rfl rfl rfl S.nd rfl rfl rfl rfl lq (fun pins => aB (bw (bz nG (hr.mono (by decide)) rfl J7 (aa (pv 0) (aa (pv 1) (aa (pv 2) pa_nil aj) aj) aj) (he := aj))))
   (fun ea => au (aU (i := 4) S.nd rfl (Or.inl rfl) (bL (aa (aJ (pX K) (by rfl) T.isinstance_ bx (aa (pv 3) (aa (peC mz rfl) pa_nil aj) aj) (he := aj)) (aa (aJ (pX K) (by rfl) T.isinstance_ bx (aa (pv 3) (aa (peC jT rfl) pa_nil aj) aj) (he := aj)) (aa (aJ (pX K) (by rfl) T.isinstance_ bx (aa (pv 3) (aa (peC rz rfl) pa_nil aj) aj) (he := aj)) pa_nil aZ) aZ) aZ))) (au (aU (i := 4) S.nd rfl (Or.inl rfl) (bu fj (pv 4) (bL (aa (aJ (pX K) (by rfl) T.isinstance_ bx (aa (pv 3) (aa (peC rD rfl) pa_nil aj) aj) (he := aj)) (aa (aJ (pX K) (by rfl) T.isinstance_ bx (aa (pv 3) (aa (peC oE rfl) pa_nil aj) aj) (he := aj)) pa_nil aZ) aZ)))) (aB (aN (bu fj (pv 4) (bL (aa (aJ (pX K) (by rfl) T.isinstance_ bx (aa (pv 3) (aa (cU (v := .ty "ValueError") rfl T.ValueError_ vQ rfl) pa_nil aj) aj) (he := aj)) pa_nil aZ)))))))) aY, ?_⟩
  refine ⟨⟨_, rfl, _, rfl, _, rfl, kind, which, more, rfl, k0, k4, m0, fun H' s' => ⟨by rw [eC], s'⟩⟩, ?_⟩
  rintro cls H1 ea ⟨rfl, s1⟩ nea
  refine ⟨zC, ?_⟩
  have s2 := s1.trans (aq (o := .ext (ExcAt ea (.ref C))) nea)
  have ee : upd H1 ea (.ext (ExcAt ea (.ref C))) ea = some (.ext (ExcAt ea (.ref C))) := az
  generalize upd H1 ea (.ext (ExcAt ea (.ref C))) = H2 at s2 ee ⊢
  refine ⟨_, rfl, ea, C, _, b0, rfl, ee, yC, .inl ⟨_, rfl, j0⟩, _, rfl, ea, C, _, b1, rfl, ee, yC, .inl ⟨_, rfl, j1⟩, _, rfl, ea, C, _, b2, rfl, ee, yC, .inl ⟨_, rfl, j2⟩, (by show 3 <= sizeLine; decide), fun l1 hl1 => ?_⟩
  refine gB ?_
  have t1 := aq (o := .lst [.bl b0, .bl b1, .bl b2]) hl1
  have e1 : upd H2 l1 (.lst [.bl b0, .bl b1, .bl b2]) l1 = some (.lst [.bl b0, .bl b1, .bl b2]) := az
  generalize upd H2 l1 (.lst [.bl b0, .bl b1, .bl b2]) = H3 at t1 e1 ⊢
  have ee3 := t1 _ _ ee
  refine ⟨_, rfl, _, rfl, ea, C, _, b3, rfl, ee3, yC, .inl ⟨_, rfl, j3⟩, _, rfl, ea, C, _, false, rfl, ee3, yC, .inl ⟨_, rfl, j4⟩, (by show 2 <= sizeLine; decide), fun l2 hl2 => ?_⟩
  have t2 := aq (o := .lst [.bl b3, .bl false]) hl2
  have e2 : upd H3 l2 (.lst [.bl b3, .bl false]) l2 = some (.lst [.bl b3, .bl false]) := az
  generalize upd H3 l2 (.lst [.bl b3, .bl false]) = H4 at t2 e2 ⊢
  refine ⟨l1, l2, _, _, rfl, rfl, t2 _ _ e1, e2, (by show 5 <= sizeLine; decide), fun l3 hl3 => ?_⟩
  refine gB ?_
  have t3 := aq (o := .lst ([.bl b0, .bl b1, .bl b2] ++ [.bl b3, .bl false])) hl3
  have e3 : upd H4 l3 (.lst ([.bl b0, .bl b1, .bl b2] ++ [.bl b3, .bl false])) l3 = some (.lst ([.bl b0, .bl b1, .bl b2] ++ [.bl b3, .bl false])) := az
  generalize upd H4 l3 (.lst ([.bl b0, .bl b1, .bl b2] ++ [.bl b3, .bl false])) = H5 at t3 e3 ⊢
  have ee5 := (t2.trans t3) _ _ ee3
  refine ⟨_, rfl, _, rfl, ea, C, _, true, rfl, ee5, yC, .inr ⟨_, rfl, jv⟩, (by show 1 <= sizeLine; decide), fun l4 hl4 => ?_⟩
  have t4 := aq (o := .lst [.bl true]) hl4
  have e4 : upd H5 l4 (.lst [.bl true]) l4 = some (.lst [.bl true]) := az
  generalize upd H5 l4 (.lst [.bl true]) = H6 at t4 e4 ⊢
  refine ⟨l3, l4, _, _, rfl, rfl, t4 _ _ e3, e4, (by show 6 <= sizeLine; decide), fun l5 hl5 => ?_⟩
  refine k l5 _ (((((s2.trans t1).trans t2).trans t3).trans t4).trans (aq hl5)) ?_
  rw [az, <- eb]
  rfl
theorem vA {H : Hp} {a : Addr} : ∀ {bs : List Bool}, H a = some (.lst (bs.map V.bl)) -> Rep K H (.lst (bs.map D.bl)) (.ref a) := fun {bs} h => by
 unfold Rep
 refine ⟨a, _, rfl, SqL.of h, ?_⟩
 clear h
 induction bs with
 | nil => simp [Reps]
 | cons b r ih => simp only [List.map_cons]; unfold Reps; exact ⟨_, _, rfl, by unfold Rep; rfl, ih⟩
theorem wA {H : Hp} {p : Addr} {a b : Int} (h : H p = some (.tup [.int a, .int b])) : Rep K H (.tup [.int a, .int b]) (.ref p) := mK h
theorem Kr (a x : Int) : Fr.dot [a] [x] = a * x := by simp [Fr.dot]
theorem J6 (a b x y : Int) : Fr.dot [a, b] [x, y] = a * x + b * y := by simp [Fr.dot]
theorem Ii {N S X : Int} {ys xs : List Int} (h : SolM [[100]] 1 1 N S ys X xs) : Fr.mk N S = (100, 1) := by
 have ly := h.ly
 have lx := h.lx
 have sy := h.sy
 have sx := h.sx
 match ys, ly with
 | [y], _ =>
  match xs, lx with
  | [x], _ =>
   have e1 : y = S := by simpa using sy
   have e2 : x = X := by simpa using sx
   have r := h.rows [100] (by simp)
   have c := h.cls [100] (by simp [cols])
   rw [Kr] at r c
   subst e1
   subst e2
   have px := h.posx
   have c' : N * x <= 100 * y * x := by
    have : 100 * x * y = 100 * y * x := by grind
    omega
   have c2 := Int.le_of_mul_le_mul_right c' px
   have eN : N = 100 * y := by omega
   have := Fr.mk_cross (a := N) (b := y) (c := 100) (d := 1) h.pos (by decide) (by rw [eN]; grind)
   rw [this]
   decide
theorem KQ {N S X : Int} {ys xs : List Int} (h : SolM [[1, -1], [-1, 1]] 2 2 N S ys X xs) : Fr.mk N S = (0, 1) := by
 have ly := h.ly
 have lx := h.lx
 match ys, ly with
 | [y, y'], _ =>
  match xs, lx with
  | [x, x'], _ =>
   have r1 := h.rows [1, -1] (by simp)
   have r2 := h.rows [-1, 1] (by simp)
   have c1 := h.cls [1, -1] (by decide)
   have c2 := h.cls [-1, 1] (by decide)
   rw [J6] at r1 r2 c1 c2
   have px := h.posx
   have n0 : 0 <= N := by omega
   have cc : N * X <= 0 := by
    have e : (1 * x + -1 * x') * S + (-1 * x + 1 * x') * S = 0 := by grind
    omega
   have n1 : N <= 0 := by
    rcases Int.lt_or_le 0 N with hN | hN
    ·have := Int.mul_pos hN px
     omega
    ·exact hN
   have eN : N = 0 := by omega
   rw [eN, Fr.mk_zero h.pos]
theorem JN : Good [[-100, 100]] 1 2 := cB (by decide)
abbrev jt : Stmt := top 88
theorem JF : FnScope ["_law_script", "_law_kind", "_law_which", "_law_more"] ["_law_script"] (aF jt) := ⟨rfl, rfl, rfl, by decide +kernel, rfl, by decide +kernel, by decide +kernel⟩
theorem Jh {f CS : Addr} {fd : FuncData} (F : Fun K "law" "law" jt f fd) (T : Blt mg) (C_Solved : Cl K mg "Solved" ["value", "mine", "theirs"] [] CS) (dD : Def P w K mg base "_law_cell_at" ["_law_script", "_law_k"] 1 (Ag K)) (kZ : Def P w K mg base "_law_told" ["_law_kind", "_law_which", "_law_more"] 10 zF) (mF : Def P w K mg base "solved" ["table"] 11 (uQ CS)) (ym : Def P w K mg base "sure" ["table"] 5 zO)
  (m9 : Def P w K mg base "together" ["one", "other"] 5 CQ) (rB : Def P w K mg base "struck" ["one", "other"] 13 zA) : FnOk P w K mg base CX0 15 f fd ["_law_script"] (sS K) := by
 have S := JF
 refine F.ok S (fun vs H Q E h => ?_) (fun cdv A outer s H vs Q E hr h => ?_)
 ·obtain ⟨a, ns, rfl, _⟩ := h
  rfl
 ·obtain ⟨a, ns, rfl, hS, hlen, k⟩ := h
  have c0 := C_Solved.no "value" (by simp)
  refine ⟨_, au (aU (i := 1) S.nd rfl (Or.inl rfl) (bu dH (aK dD (hr.mono (by decide)) rfl (aa (pv 0) (aa pe_int pa_nil ao) aj) (he := aj)) pe_int))
   (au (aU (i := 2) S.nd rfl (Or.inl rfl) (bu dH (aK dD (hr.mono (by decide)) rfl (aa (pv 0) (aa pe_int pa_nil ao) aj) (he := aj)) pe_int))
   (au (aU (i := 3) S.nd rfl (Or.inl rfl) (bu dH (aK dD (hr.mono (by decide)) rfl (aa (pv 0) (aa pe_int pa_nil ao) aj) (he := aj)) pe_int))
   (au (bj (aX (Bm K hr.units) (aK kZ (hr.mono (by decide)) rfl (aa (pv 1) (aa (pv 2) (aa (pv 3) pa_nil aj) aj) aj) (he := aj)) (bL (aa (cA bR (pv 1) pe_int (aQ _)) (aa (cA bR (pv 1) pe_int (aQ _)) (aa (cA bR (pv 1) pe_int (aQ _)) (aa (cA bR (pv 1) pe_int (aQ _)) (aa pe_bl (aa pe_bl pa_nil ao) ao) jx) jx) jx) jx)) (aQ _))
    (aB (aN pe_bl)) aP)
   (au (bj (PW.pt (dO (aX (Bm K hr.units) (BX (aK mF (hr.mono (by decide)) rfl (aa Iu pa_nil aC) (he := aC)) rfl) Ld (aQ _)) (dO (aX (Bm K hr.units) (aK ym (hr.mono (by decide)) rfl (aa Ko pa_nil aC) (he := aC)) Ln (aQ _)) (du (aX (Bm K hr.units) (aK m9 (hr.mono (by decide)) rfl (aa Ir (aa KN pa_nil aC) aC) (he := aC)) Iu (aQ _))))))
    (aB (aN pe_bl)) aP)
   (aB (aN (gr (cA (t_ K hr.units) (aK rB (hr.mono (by decide)) rfl (aa lt0 (aa lt0 pa_nil aC) aC) (he := aC)) KJ (aQ _)) (gA (cA (t_ K hr.units) (BX (aK mF (hr.mono (by decide)) rfl (aa Lj pa_nil aC) (he := aC)) rfl) KH (aQ _)))))))))), ?_⟩
  refine lR (fun σ' H' => ∃ kind : Int, σ' = [some (.ref a), some (.int kind), none, none] /\ H' = H /\ 0 <= kind /\ kind < 4) (fun R hR => ⟨_, rfl, a, ns, 0, rfl, hS, by decide, _, _, rfl, rfl, (by show (0 : Int) < 4; decide), hR _ _ ⟨_, rfl, rfl, Int.emod_nonneg _ (by decide), Int.emod_lt_of_pos _ (by decide)⟩⟩) ?_
  rintro σ' H' ⟨kind, rfl, e, k0, k4⟩
  obtain rfl := e.symm
  refine lR (fun σ' H' => ∃ which : Int, σ' = [some (.ref a), some (.int kind), some (.int which), none] /\ H' = H) (fun R hR => ⟨_, rfl, a, ns, 1, rfl, hS, by decide, _, _, rfl, rfl, (by show (0 : Int) < 100000; decide), hR _ _ ⟨_, rfl, rfl⟩⟩) ?_
  rintro σ' H' ⟨which, rfl, e⟩
  obtain rfl := e.symm
  refine lR (fun σ' H' => ∃ more : Int, σ' = [some (.ref a), some (.int kind), some (.int which), some (.int more)] /\ H' = H /\ 0 <= more) (fun R hR => ⟨_, rfl, a, ns, 2, rfl, hS, by decide, _, _, rfl, rfl, (by show (0 : Int) < 1000; decide), hR _ _ ⟨_, rfl, rfl, Int.emod_nonneg _ (by decide)⟩⟩) ?_
  rintro σ' H' ⟨more, rfl, e, m0⟩
  obtain rfl := e.symm
  refine ⟨_, rfl, _, rfl, _, rfl, kind, which, more, rfl, k0, k4, m0, fun l H1 s1 hl => ?_⟩
  have de : ∀ i : Int, decide (V.int kind = V.int i) = decide (kind = i) := fun i => decide_eq_decide.mpr ⟨fun z => V.int.inj z, fun z => by rw [z]⟩
  refine ⟨_, rfl, rfl, _, rfl, rfl, _, rfl, rfl, _, rfl, rfl, (by show 6 <= sizeLine; decide), fun l2 hl2 => ?_⟩
  rw [de 0, de 1, de 2, de 3]
  have t2 := aq (o := .lst ((mV kind).map V.bl)) hl2
  have e2 : upd H1 l2 (.lst ((mV kind).map V.bl)) l2 = some (.lst ((mV kind).map V.bl)) := az
  show FQ K _ _ (upd H1 l2 (.lst ((mV kind).map V.bl))) _
  generalize upd H1 l2 (.lst ((mV kind).map V.bl)) = H2 at t2 e2 ⊢
  refine ⟨_, _, vA (t2 _ _ hl), vA e2, rfl, (by show 1 <= 40; decide), _, rfl, ?_⟩
  refine rH (dR _) ?_
  refine ⟨trivial, fun v1 H3 s3 l3 _ => ?_⟩
  obtain ⟨a3, rfl, tab3⟩ := di (T := [[100]]) l3
  refine ⟨⟨a3, [[100]], 1, 1, rfl, cB (by decide), tab3⟩, a3, [[100]], 1, 1, rfl, tab3, lY (cB (by decide)), fun x dx u k1 k2 H4 N Z ys X xs s4 _ _ _ _ hins hu _ _ sol => ?_⟩
  refine ⟨x, CS, dx, _, _, rfl, hins, C_Solved.cl, c0, rY u k1 k2, trivial, fun w1 H5 s5 l5 _ => ?_⟩
  rw [Ii sol] at hu
  refine ⟨_, _, wA (s5 _ _ hu), l5.rep, rfl, (by decide), _, rfl, ?_⟩
  refine rH (dR _) ?_
  refine ⟨trivial, fun v6 H6 s6 l6 _ => ?_⟩
  obtain ⟨a6, rfl, tab6⟩ := di (T := [[-100, 100]]) l6
  refine ⟨a6, [[-100, 100]], 1, 2, rfl, tab6, JN, fun p H7 s7 hp => ⟨trivial, fun w2 H8 s8 l8 _ => ?_⟩⟩
  refine ⟨_, _, wA (a := -100) (b := -100) (s8 _ _ hp), l8.rep, rfl, (by decide), _, rfl, ?_⟩
  refine rH (dR _) ?_
  refine ⟨trivial, fun v9 H9 s9 l9 _ => ⟨trivial, fun v10 H10 s10 l10 _ => ?_⟩⟩
  obtain ⟨a9, rfl, tab9⟩ := di (T := [[60]]) (l9.mono s10)
  obtain ⟨a10, rfl, tab10⟩ := di (T := [[40]]) l10
  refine ⟨a9, a10, [[60]], [[40]], 1, 1, 1, 1, rfl, tab9, cB (by decide), tab10, cB (by decide), cB (by decide), fun p2 H11 s11 own => ⟨trivial, fun w3 H12 s12 l12 _ => ?_⟩⟩
  refine ⟨_, _, (uy (T := [[100]]) (own.tab.mono s12)).rep, l12.rep, rfl, (by decide), _, rfl, ?_⟩
  refine rH (dR _) ?_
  refine ⟨trivial, fun v13 H13 s13 l13 _ => ⟨trivial, fun v14 H14 s14 l14 _ => ?_⟩⟩
  obtain ⟨a13, rfl, tab13⟩ := di (T := [[1]]) (l13.mono s14)
  obtain ⟨a14, rfl, tab14⟩ := di (T := [[1]]) l14
  refine ⟨a13, a14, rfl, tab13, tab14, fun p3 q1 q2 H15 s15 hp3 hq1 hq2 => ⟨trivial, fun w4 H16 s16 l16 _ => ?_⟩⟩
  have lp : Lay H16 (.tup [.lst [.int 0], .lst [.int 0]]) (.ref p3) := by
   unfold Lay
   refine ⟨p3, _, rfl, s16 _ _ hp3, ?_⟩
   unfold Lays
   refine ⟨_, _, rfl, ?_, ?_⟩
   ·unfold Lay; exact ⟨q1, _, rfl, s16 _ _ hq1, mG [0]⟩
   ·unfold Lays
    refine ⟨_, _, rfl, ?_, by unfold Lays; rfl⟩
    unfold Lay; exact ⟨q2, _, rfl, s16 _ _ hq2, mG [0]⟩
  refine ⟨_, _, lp.rep, l16.rep, rfl, (by decide), _, rfl, ?_⟩
  refine ifP (dR _) ?_
  refine ⟨trivial, fun v17 H17 s17 l17 _ => ?_⟩
  obtain ⟨a17, rfl, tab17⟩ := di (T := [[1, -1], [-1, 1]]) l17
  refine ⟨⟨a17, [[1, -1], [-1, 1]], 2, 2, rfl, cB (by decide), tab17⟩, a17, [[1, -1], [-1, 1]], 2, 2, rfl, tab17, lY (cB (by decide)), fun x dx u k1 k2 H18 N Z ys X xs s18 _ _ _ _ hins hu _ _ sol => ?_⟩
  refine ⟨x, CS, dx, _, _, rfl, hins, C_Solved.cl, c0, rY u k1 k2, trivial, fun w5 H19 s19 l19 _ => ?_⟩
  rw [KQ sol] at hu
  refine ⟨_, _, wA (s19 _ _ hu), l19.rep, rfl, (by decide), ?_⟩
  exact k _
end
theorem all_mk {l : PySem.W.OpenLaw} {w : World} {K : PySem.W.Frag} {h : Heap} {mg : Str -> Option Value} {fa fL A_Solved A_Best B_CardError B_BadTable B_BadMixture B_NoCard B_Unlike B_BadText : Addr} (X : K.In h) (G : h.Ns mainGlobals mg) (hfa : mg "law" = some (.ref fa))
  {od an : Option Addr} {sl : Array (Option Value)} {oc kV dc pm cd ct : Value}
  (F0 : FunM K mg "is_whole" jy ["thing"])
  (F1 : FunM K mg "is_within" iY ["number"])
  (F2 : FunM K mg "is_row" l_ ["thing"])
  (F3 : FunM K mg "is_table" jr ["thing"])
  (F4 : FunM K mg "check_table" gC ["thing"])
  (F5 : FunM K mg "_law_cell_at" iJ ["_law_script", "_law_k"])
  (F6 : FunM K mg "greatest_divisor" fK ["a", "b"])
  (F7 : FunM K mg "made" xJ ["a", "b"])
  (F8 : FunM K mg "plus" yj ["one", "other"])
  (F9 : FunM K mg "times" uG ["one", "other"])
  (F10 : FunM K mg "below" tR ["one", "other"])
  (F11 : FunM K mg "is_fraction" gF ["thing"])
  (F12 : FunM K mg "is_share" jq ["thing"])
  (F13 : FunM K mg "is_mixture" iH ["thing", "count"])
  (F14 : FunM K mg "sums" yf ["one", "other"])
  (F15 : FunM K mg "together" ju ["one", "other"])
  (F16 : FunM K mg "weighed" pB ["values", "mixture"])
  (F17 : FunM K mg "row_gets" mj ["row", "mixture"])
  (F18 : FunM K mg "all_get" oK ["rows", "mixture"])
  (F19 : FunM K mg "column_of" lz ["table", "column"])
  (F20 : FunM K mg "columns_of" jJ ["table"])
  (F21 : FunM K mg "from_other_side" fV ["table"])
  (F22 : FunM K mg "determinant" gH ["square"])
  (F23 : FunM K mg "with_column" jo ["square", "column", "numbers"])
  (F24 : FunM K mg "solution" nU ["square", "numbers"])
  (F25 : FunM K mg "choices" oH ["count"])
  (F26 : FunM K mg "spread" qI ["shares", "places", "count"])
  (F27 : FunM K mg "level" um ["table", "rows", "columns"])
  (F28 : FunM K mg "corner" rC ["table", "rows", "columns"])
  (F29 : FunM K mg "corners_of" jL ["table"])
  (F30 : FunM K mg "lowest" qM ["corners"])
  (F31 : FunC K A_Solved "__init__" "Solved.__init__" jg ["self", "value", "mine", "theirs"])
  (F32 : FunM K mg "evened" qP ["table"])
  (F33 : FunM K mg "solved" mH ["table"])
  (F34 : FunM K mg "of_same_counts" gJ ["one", "other"])
  (F35 : FunM K mg "check_alike" gD ["one", "other"])
  (F36 : FunC K A_Best "__init__" "Best.__init__" lD ["self", "mixture"])
  (F37 : FunM K mg "check_row" iZ ["table", "row"])
  (F38 : FunM K mg "part" xU ["table", "rows", "columns"])
  (F39 : FunM K mg "beaten" mW ["table", "row"])
  (F40 : FunM K mg "unbeaten" mC ["table", "places"])
  (F41 : FunM K mg "struck" mD ["one", "other"])
  (F42 : FunM K mg "least_of_rows" iD ["table"])
  (F43 : FunM K mg "most_of_columns" fY ["table"])
  (F44 : FunM K mg "sure" tH ["table"])
  (F45 : FunM K mg "_law_table_asked" fu ["_law_door", "_law_bad"])
  (F46 : FunM K mg "_law_mixture_asked" dI ["_law_door", "_law_bad"])
  (F47 : FunM K mg "_law_unlike_asked" eV ["_law_door"])
  (F48 : FunM K mg "_law_ask" nR ["_law_kind", "_law_which", "_law_more"])
  (F49 : FunM K mg "_law_told" kI ["_law_kind", "_law_which", "_law_more"])
  (aL : PySem.W.nsIn K mainGlobals "law" = some (some (.ref fL))) (lL : K.lookup fL = some ⟨oc, od, .func (PySem.W.fnOf "law" "law" (d8 jt) (cO jt) (aF jt) .none kV dc pm an cd ct), sl⟩) (cL : PySem.W.codeIn K cd "law" = true) (kL : PySem.W.keepIn K (.ref fL) = true)
  (F51 : FunM K mg "check_mixture" gZ ["thing", "count"])
  (F52 : FunM K mg "turned" qU ["table"])
  (F53 : FunM K mg "saddles" oM ["table"])
  (F54 : FunM K mg "written" pN ["table"])
  (F55 : FunM K mg "settled" pI ["one", "other"])
  (F56 : FunM K mg "sure_pairs" jG ["one", "other"])
  (F57 : FunM K mg "got" BV ["table", "mine", "theirs"])
  (F58 : FunM K mg "best" x_ ["table", "theirs"])
  (aC_Solved : PySem.W.nsIn K mainGlobals "Solved" = some (some (.ref A_Solved))) (pg_Solved : PySem.W.plainGet K A_Solved Str.empty = true) (hd_Solved : PySem.W.hasDictIn K A_Solved = true) (po_Solved : PySem.W.plainOver K A_Solved = true) (sa_Solved : PySem.W.findIn K (.ref A_Solved) "__setattr__" = some (some (.builtin "object.__setattr__"))) (mk_Solved : PySem.W.makesIn K A_Solved = true) (kc_Solved : PySem.W.keepIn K (.ref A_Solved) = true)
  (no_Solved_value : PySem.W.findIn K (.ref A_Solved) "value" = some none)
  (no_Solved_mine : PySem.W.findIn K (.ref A_Solved) "mine" = some none)
  (no_Solved_theirs : PySem.W.findIn K (.ref A_Solved) "theirs" = some none)
  (aC_Best : PySem.W.nsIn K mainGlobals "Best" = some (some (.ref A_Best))) (pg_Best : PySem.W.plainGet K A_Best Str.empty = true) (hd_Best : PySem.W.hasDictIn K A_Best = true) (po_Best : PySem.W.plainOver K A_Best = true) (sa_Best : PySem.W.findIn K (.ref A_Best) "__setattr__" = some (some (.builtin "object.__setattr__"))) (mk_Best : PySem.W.makesIn K A_Best = true) (kc_Best : PySem.W.keepIn K (.ref A_Best) = true)
  (no_Best_mixture : PySem.W.findIn K (.ref A_Best) "mixture" = some none)
  (aC_NCardError : PySem.W.nsIn K mainGlobals "CardError" = some (some (.ref B_CardError)))
  (aC_NBadTable : PySem.W.nsIn K mainGlobals "BadTable" = some (some (.ref B_BadTable)))
  (aC_NBadMixture : PySem.W.nsIn K mainGlobals "BadMixture" = some (some (.ref B_BadMixture)))
  (aC_NNoCard : PySem.W.nsIn K mainGlobals "NoCard" = some (some (.ref B_NoCard)))
  (aC_NUnlike : PySem.W.nsIn K mainGlobals "Unlike" = some (some (.ref B_Unlike)))
  (aC_NBadText : PySem.W.nsIn K mainGlobals "BadText" = some (some (.ref B_BadText)))
  (ia_Best : PySem.W.findIn K (.ref A_Best) "__class__" = some (some (.builtin "object.__class__"))) (ib_Best : PySem.W.specialIn K (.builtin "object.__class__") "__get__" = some (some (.builtin "getset_descriptor.__get__"))) (ic_Best : PySem.W.takesIn K (.builtin "object.__class__") = some true) (id_Best : PySem.W.mroIn K A_Best (.type "object") = some true)
  (j_Best_Best : PySem.W.kitOne K (.ref A_Best) (.ref A_Best) = some true)
  (j_BadTable_BadTable : PySem.W.kitOne K (.ref B_BadTable) (.ref B_BadTable) = some true)
  (j_BadTable_BadMixture : PySem.W.kitOne K (.ref B_BadTable) (.ref B_BadMixture) = some false)
  (j_BadTable_NoCard : PySem.W.kitOne K (.ref B_BadTable) (.ref B_NoCard) = some false)
  (j_BadTable_Unlike : PySem.W.kitOne K (.ref B_BadTable) (.ref B_Unlike) = some false)
  (j_BadTable_BadText : PySem.W.kitOne K (.ref B_BadTable) (.ref B_BadText) = some false)
  (j_BadMixture_BadTable : PySem.W.kitOne K (.ref B_BadMixture) (.ref B_BadTable) = some false)
  (j_BadMixture_BadMixture : PySem.W.kitOne K (.ref B_BadMixture) (.ref B_BadMixture) = some true)
  (j_BadMixture_NoCard : PySem.W.kitOne K (.ref B_BadMixture) (.ref B_NoCard) = some false)
  (j_BadMixture_Unlike : PySem.W.kitOne K (.ref B_BadMixture) (.ref B_Unlike) = some false)
  (j_BadMixture_BadText : PySem.W.kitOne K (.ref B_BadMixture) (.ref B_BadText) = some false)
  (j_NoCard_BadTable : PySem.W.kitOne K (.ref B_NoCard) (.ref B_BadTable) = some false)
  (j_NoCard_BadMixture : PySem.W.kitOne K (.ref B_NoCard) (.ref B_BadMixture) = some false)
  (j_NoCard_NoCard : PySem.W.kitOne K (.ref B_NoCard) (.ref B_NoCard) = some true)
  (j_NoCard_Unlike : PySem.W.kitOne K (.ref B_NoCard) (.ref B_Unlike) = some false)
  (j_NoCard_BadText : PySem.W.kitOne K (.ref B_NoCard) (.ref B_BadText) = some false)
  (j_Unlike_BadTable : PySem.W.kitOne K (.ref B_Unlike) (.ref B_BadTable) = some false)
  (j_Unlike_BadMixture : PySem.W.kitOne K (.ref B_Unlike) (.ref B_BadMixture) = some false)
  (j_Unlike_NoCard : PySem.W.kitOne K (.ref B_Unlike) (.ref B_NoCard) = some false)
  (j_Unlike_Unlike : PySem.W.kitOne K (.ref B_Unlike) (.ref B_Unlike) = some true)
  (j_Unlike_BadText : PySem.W.kitOne K (.ref B_Unlike) (.ref B_BadText) = some false)
  (xo_BadTable : PySem.W.excIn K B_BadTable [.type "ValueError", .type "Exception", .type "BaseException", .type "object"] "ValueError.__new__" = true)
  (xo_BadMixture : PySem.W.excIn K B_BadMixture [.type "ValueError", .type "Exception", .type "BaseException", .type "object"] "ValueError.__new__" = true)
  (xo_Unlike : PySem.W.excIn K B_Unlike [.type "ValueError", .type "Exception", .type "BaseException", .type "object"] "ValueError.__new__" = true)
  (xo_NoCard : PySem.W.excIn K B_NoCard [.type "ValueError", .type "Exception", .type "BaseException", .type "object"] "ValueError.__new__" = true)
  (ya_BadTable : PySem.W.findIn K (.ref B_BadTable) "__getattribute__" = some (some (.builtin "BaseException.__getattribute__"))) (yb_BadTable : PySem.W.findIn K (.ref B_BadTable) "__getattr__" = some none) (yc_BadTable : PySem.W.findIn K (.ref B_BadTable) "__class__" = some (some (.builtin "object.__class__"))) (yd_BadTable : PySem.W.specialIn K (.builtin "object.__class__") "__get__" = some (some (.builtin "getset_descriptor.__get__"))) (ye_BadTable : PySem.W.takesIn K (.builtin "object.__class__") = some true) (yf_BadTable : PySem.W.mroIn K B_BadTable (.type "object") = some true) (yg_BadTable : PySem.W.mroIn K B_BadTable (.type "BaseException") = some true)
  (ya_BadMixture : PySem.W.findIn K (.ref B_BadMixture) "__getattribute__" = some (some (.builtin "BaseException.__getattribute__"))) (yb_BadMixture : PySem.W.findIn K (.ref B_BadMixture) "__getattr__" = some none) (yc_BadMixture : PySem.W.findIn K (.ref B_BadMixture) "__class__" = some (some (.builtin "object.__class__"))) (yd_BadMixture : PySem.W.specialIn K (.builtin "object.__class__") "__get__" = some (some (.builtin "getset_descriptor.__get__"))) (ye_BadMixture : PySem.W.takesIn K (.builtin "object.__class__") = some true) (yf_BadMixture : PySem.W.mroIn K B_BadMixture (.type "object") = some true) (yg_BadMixture : PySem.W.mroIn K B_BadMixture (.type "BaseException") = some true)
  (ya_NoCard : PySem.W.findIn K (.ref B_NoCard) "__getattribute__" = some (some (.builtin "BaseException.__getattribute__"))) (yb_NoCard : PySem.W.findIn K (.ref B_NoCard) "__getattr__" = some none) (yc_NoCard : PySem.W.findIn K (.ref B_NoCard) "__class__" = some (some (.builtin "object.__class__"))) (yd_NoCard : PySem.W.specialIn K (.builtin "object.__class__") "__get__" = some (some (.builtin "getset_descriptor.__get__"))) (ye_NoCard : PySem.W.takesIn K (.builtin "object.__class__") = some true) (yf_NoCard : PySem.W.mroIn K B_NoCard (.type "object") = some true) (yg_NoCard : PySem.W.mroIn K B_NoCard (.type "BaseException") = some true)
  (ya_Unlike : PySem.W.findIn K (.ref B_Unlike) "__getattribute__" = some (some (.builtin "BaseException.__getattribute__"))) (yb_Unlike : PySem.W.findIn K (.ref B_Unlike) "__getattr__" = some none) (yc_Unlike : PySem.W.findIn K (.ref B_Unlike) "__class__" = some (some (.builtin "object.__class__"))) (yd_Unlike : PySem.W.specialIn K (.builtin "object.__class__") "__get__" = some (some (.builtin "getset_descriptor.__get__"))) (ye_Unlike : PySem.W.takesIn K (.builtin "object.__class__") = some true) (yf_Unlike : PySem.W.mroIn K B_Unlike (.type "object") = some true) (yg_Unlike : PySem.W.mroIn K B_Unlike (.type "BaseException") = some true)
  (ez_BadTable : PySem.W.exmOne K (.ref B_BadTable) (.ref B_CardError) = some true)
  (ez_BadMixture : PySem.W.exmOne K (.ref B_BadMixture) (.ref B_CardError) = some true)
  (ez_NoCard : PySem.W.exmOne K (.ref B_NoCard) (.ref B_CardError) = some true)
  (ez_Unlike : PySem.W.exmOne K (.ref B_Unlike) (.ref B_CardError) = some true)
  (ev_BadTable : PySem.W.kitOne K (.ref B_BadTable) (.type "ValueError") = some true)
  (ev_BadMixture : PySem.W.kitOne K (.ref B_BadMixture) (.type "ValueError") = some true)
  (ev_NoCard : PySem.W.kitOne K (.ref B_NoCard) (.type "ValueError") = some true)
  (ev_Unlike : PySem.W.kitOne K (.ref B_Unlike) (.type "ValueError") = some true)
  (z0 : PySem.W.nsIn K mainGlobals "ValueError" = some none)
  (z1 : PySem.W.nsIn K mainGlobals "abs" = some none)
  (z2 : PySem.W.nsIn K mainGlobals "all" = some none)
  (z3 : PySem.W.nsIn K mainGlobals "any" = some none)
  (z4 : PySem.W.nsIn K mainGlobals "bool" = some none)
  (z5 : PySem.W.nsIn K mainGlobals "enumerate" = some none)
  (z6 : PySem.W.nsIn K mainGlobals "int" = some none)
  (z7 : PySem.W.nsIn K mainGlobals "isinstance" = some none)
  (z8 : PySem.W.nsIn K mainGlobals "len" = some none)
  (z9 : PySem.W.nsIn K mainGlobals "list" = some none)
  (z10 : PySem.W.nsIn K mainGlobals "max" = some none)
  (z11 : PySem.W.nsIn K mainGlobals "min" = some none)
  (z12 : PySem.W.nsIn K mainGlobals "range" = some none)
  (z13 : PySem.W.nsIn K mainGlobals "tuple" = some none)
  (z14 : PySem.W.nsIn K mainGlobals "zip" = some none)
  {ti0 : Tok} (y0 : PySem.W.nsIn K mainGlobals "LEAST_NUMBER" = some (some (.int (-100) ti0)))
  {ti1 : Tok} (y1 : PySem.W.nsIn K mainGlobals "MOST_CARDS" = some (some (.int (4) ti1)))
  {ti2 : Tok} (y2 : PySem.W.nsIn K mainGlobals "MOST_NUMBER" = some (some (.int (100) ti2)))
  : ∃ fd : FuncData, (∀ (s : Shared) (v : Value), BindsTo s fd ⟨[v], []⟩ [("_law_script", v)]) /\ ∀ base : Heap, K.In base -> base.Ns mainGlobals mg -> FnOk l.prog w K mg base CX0 15 fa fd ["_law_script"] (sS K) := by
 have e := hfa.symm.trans (PySem.W.mg_of X G aL)
 cases e
 have T : Blt mg := { ValueError_ := PySem.W.mg_none_of X G z0, abs_ := PySem.W.mg_none_of X G z1, all_ := PySem.W.mg_none_of X G z2, any_ := PySem.W.mg_none_of X G z3, bool_ := PySem.W.mg_none_of X G z4, enumerate_ := PySem.W.mg_none_of X G z5, int_ := PySem.W.mg_none_of X G z6, isinstance_ := PySem.W.mg_none_of X G z7, len_ := PySem.W.mg_none_of X G z8, list_ := PySem.W.mg_none_of X G z9, max_ := PySem.W.mg_none_of X G z10, min_ := PySem.W.mg_none_of X G z11, range_ := PySem.W.mg_none_of X G z12, tuple_ := PySem.W.mg_none_of X G z13, zip_ := PySem.W.mg_none_of X G z14, LEAST_NUMBER := ⟨_, PySem.W.mg_of X G y0⟩, MOST_CARDS := ⟨_, PySem.W.mg_of X G y1⟩, MOST_NUMBER := ⟨_, PySem.W.mg_of X G y2⟩ }
 have lq : mg "CardError" = some (.ref B_CardError) := PySem.W.mg_of X G aC_NCardError
 have mz : mg "BadTable" = some (.ref B_BadTable) := PySem.W.mg_of X G aC_NBadTable
 have jT : mg "BadMixture" = some (.ref B_BadMixture) := PySem.W.mg_of X G aC_NBadMixture
 have rz : mg "NoCard" = some (.ref B_NoCard) := PySem.W.mg_of X G aC_NNoCard
 have rD : mg "Unlike" = some (.ref B_Unlike) := PySem.W.mg_of X G aC_NUnlike
 have oE : mg "BadText" = some (.ref B_BadText) := PySem.W.mg_of X G aC_NBadText
 have X_BadTable : Exc K mg "BadTable" B_BadTable := ⟨aC_NBadTable, PySem.W.mg_of X G aC_NBadTable, xo_BadTable⟩
 have X_BadMixture : Exc K mg "BadMixture" B_BadMixture := ⟨aC_NBadMixture, PySem.W.mg_of X G aC_NBadMixture, xo_BadMixture⟩
 have X_Unlike : Exc K mg "Unlike" B_Unlike := ⟨aC_NUnlike, PySem.W.mg_of X G aC_NUnlike, xo_Unlike⟩
 have X_NoCard : Exc K mg "NoCard" B_NoCard := ⟨aC_NNoCard, PySem.W.mg_of X G aC_NNoCard, xo_NoCard⟩
 have Y_BadTable : ExcT K B_BadTable := ⟨ya_BadTable, yb_BadTable, yc_BadTable, yd_BadTable, ye_BadTable, yf_BadTable, yg_BadTable⟩
 have Y_BadMixture : ExcT K B_BadMixture := ⟨ya_BadMixture, yb_BadMixture, yc_BadMixture, yd_BadMixture, ye_BadMixture, yf_BadMixture, yg_BadMixture⟩
 have Y_NoCard : ExcT K B_NoCard := ⟨ya_NoCard, yb_NoCard, yc_NoCard, yd_NoCard, ye_NoCard, yf_NoCard, yg_NoCard⟩
 have Y_Unlike : ExcT K B_Unlike := ⟨ya_Unlike, yb_Unlike, yc_Unlike, yd_Unlike, ye_Unlike, yf_Unlike, yg_Unlike⟩
 have Z_BadTable := ez_BadTable
 have Z_BadMixture := ez_BadMixture
 have Z_NoCard := ez_NoCard
 have Z_Unlike := ez_Unlike
 have V_BadTable := ev_BadTable
 have V_BadMixture := ev_BadMixture
 have V_NoCard := ev_NoCard
 have V_Unlike := ev_Unlike
 have I_Best : Isi K A_Best := ⟨ia_Best, ib_Best, ic_Best, id_Best⟩
 have lu := j_Best_Best
 have eY := j_BadTable_BadTable
 have dC := j_BadTable_BadMixture
 have gf := j_BadTable_NoCard
 have gh := j_BadTable_Unlike
 have fG := j_BadTable_BadText
 have dG := j_BadMixture_BadTable
 have cY := j_BadMixture_BadMixture
 have eX := j_BadMixture_NoCard
 have eQ := j_BadMixture_Unlike
 have dY := j_BadMixture_BadText
 have fW := j_NoCard_BadTable
 have eU := j_NoCard_BadMixture
 have iz := j_NoCard_NoCard
 have iC := j_NoCard_Unlike
 have gP := j_NoCard_BadText
 have gb := j_Unlike_BadTable
 have eH := j_Unlike_BadMixture
 have gY := j_Unlike_NoCard
 have ie := j_Unlike_Unlike
 have gR := j_Unlike_BadText
 have C_Solved : Cl K mg "Solved" ["value", "mine", "theirs"] [] A_Solved := ⟨⟨pg_Solved, hd_Solved, po_Solved, sa_Solved⟩, (fun f hf => by rcases List.mem_cons.mp hf with e | hf; (rw [e]; exact no_Solved_value); rcases List.mem_cons.mp hf with e | hf; (rw [e]; exact no_Solved_mine); rcases List.mem_cons.mp hf with e | hf; (rw [e]; exact no_Solved_theirs); cases hf), PySem.W.mg_of X G aC_Solved, mk_Solved, kc_Solved⟩
 have C_Best : Cl K mg "Best" ["mixture"] [] A_Best := ⟨⟨pg_Best, hd_Best, po_Best, sa_Best⟩, (fun f hf => by rcases List.mem_cons.mp hf with e | hf; (rw [e]; exact no_Best_mixture); cases hf), PySem.W.mg_of X G aC_Best, mk_Best, kc_Best⟩
 have FL := wG (st := jt) lL cL kL
 refine ⟨PySem.W.fnOf "law" "law" (d8 jt) (cO jt) (aF jt) .none kV dc pm an cd ct, fun s v => .of_eq rfl, fun base _ _ => ?_⟩
 have bV := yQ (P := l.prog) (w := w) (base := base) F0 T
 have gk := xG (P := l.prog) (w := w) (base := base) F1 T
 have jV := CK (P := l.prog) (w := w) (base := base) F2 T bV gk
 have fP := yP (P := l.prog) (w := w) (base := base) F3 T jV
 have bB := ur (P := l.prog) (w := w) (base := base) F4 T fP
 have dD := rF (P := l.prog) (w := w) (base := base) F5 T
 have cz := ud (P := l.prog) (w := w) (base := base) F0 T
 have iI := rR (P := l.prog) (w := w) (base := base) F1 T
 have kW := v7 (P := l.prog) (w := w) (base := base) F2 T cz iI
 have dj := uC (P := l.prog) (w := w) (base := base) F3 T kW
 have aM := qg (P := l.prog) (w := w) (base := base) F4 T X_BadTable dj
 have bO := n_ (P := l.prog) (w := w) (base := base) F6 T
 have iw := Hm (P := l.prog) (w := w) (base := base) F7 T bO
 have gU := G9 (P := l.prog) (w := w) (base := base) F8 T iw
 have uE := Ew (P := l.prog) (w := w) (base := base) F9 T iw
 have cT := FT (P := l.prog) (w := w) (base := base) F10 T
 have dZ := uv (P := l.prog) (w := w) (base := base) F11 T bV bO
 have iG := yZ (P := l.prog) (w := w) (base := base) F12 T dZ cT
 have jN := vK (P := l.prog) (w := w) (base := base) F13 T iG gU
 have gM := qd (P := l.prog) (w := w) (base := base) F11 T cz bO
 have jn := uI (P := l.prog) (w := w) (base := base) F12 T gM cT
 have iu := rE (P := l.prog) (w := w) (base := base) F13 T jn gU
 have cg := n8 (P := l.prog) (w := w) (base := base) F51 T X_BadMixture jN iu
 have lQ := Hi (P := l.prog) (w := w) (base := base) F14 T
 have m9 := yR (P := l.prog) (w := w) (base := base) F15 T bB lQ fP
 have o6 := Bd (P := l.prog) (w := w) (base := base) F16 T gU uE
 have m7 := y_ (P := l.prog) (w := w) (base := base) F17 T o6
 have pG := Bo (P := l.prog) (w := w) (base := base) F18 T m7
 have kY := xT (P := l.prog) (w := w) (base := base) F19 T
 have cD := vU (P := l.prog) (w := w) (base := base) F20 T kY
 have fZ := o7 (P := l.prog) (w := w) (base := base) F21 T cD
 have dq := uw (P := l.prog) (w := w) (base := base) F22 T
 have jk := tY (P := l.prog) (w := w) (base := base) F23 T
 have mZ := zf (P := l.prog) (w := w) (base := base) F24 T dq jk iw
 have jZ := Ax (P := l.prog) (w := w) (base := base) F25 T
 have iK := Ej (P := l.prog) (w := w) (base := base) F26 T
 have ut := Gg (P := l.prog) (w := w) (base := base) F27 T mZ
 have qL := Du (P := l.prog) (w := w) (base := base) F28 T ut cT iK pG
 have h_ := vV (P := l.prog) (w := w) (base := base) F29 T jZ qL
 have m5 := DW (P := l.prog) (w := w) (base := base) F30 T cT
 have jm := uf (P := l.prog) (w := w) (base := base) F31 T C_Solved
 have qF := Cu (P := l.prog) (w := w) (base := base) F32 T C_Solved m5 h_ fZ jm
 have mF := Ep (P := l.prog) (w := w) (base := base) F33 T bB qF
 have cH := qe (P := l.prog) (w := w) (base := base) F34 T
 have jj := tU (P := l.prog) (w := w) (base := base) F35 T bB cH
 have lA := yz (P := l.prog) (w := w) (base := base) F36 T C_Best
 have kJ := wk (P := l.prog) (w := w) (base := base) F37 T bV
 have sO := HW (P := l.prog) (w := w) (base := base) F38 T
 have qQ := Dd (P := l.prog) (w := w) (base := base) F39 T C_Best bB kJ iK lA
 have jw := zp (P := l.prog) (w := w) (base := base) F40 T C_Best I_Best lu qQ
 have rB := CZ (P := l.prog) (w := w) (base := base) F41 T jj sO jw cD
 have ir := qW (P := l.prog) (w := w) (base := base) F42 T
 have fX := pJ (P := l.prog) (w := w) (base := base) F43 T cD
 have ym := Hq (P := l.prog) (w := w) (base := base) F44 T bB ir fX
 have G_turned__B := xK (P := l.prog) (w := w) (base := base) F52 T aM
 have G_sure__B := Av (P := l.prog) (w := w) (base := base) F44 T aM
 have G_saddles__B := vX (P := l.prog) (w := w) (base := base) F53 T aM
 have G_solved__B := xW (P := l.prog) (w := w) (base := base) F33 T aM
 have G_written__B := vM (P := l.prog) (w := w) (base := base) F54 T aM
 have bU := p_ (P := l.prog) (w := w) (base := base) F35 T X_Unlike aM cH
 have G_settled__B := vO (P := l.prog) (w := w) (base := base) F55 T bU
 have G_sure_pairs__B := qJ (P := l.prog) (w := w) (base := base) F56 T bU
 have G_struck__B := yr (P := l.prog) (w := w) (base := base) F41 T bU
 have G_together__B := tX (P := l.prog) (w := w) (base := base) F15 T X_Unlike aM lQ dj
 have gO := Ea (P := l.prog) (w := w) (base := base) F57 T aM cg
 have fB := Bx (P := l.prog) (w := w) (base := base) F58 T aM cg
 have iQ := sH (P := l.prog) (w := w) (base := base) F37 T X_NoCard cz
 have dB := wL (P := l.prog) (w := w) (base := base) F39 T aM iQ
 have fc := ou (P := l.prog) (w := w) (base := base) F45 T G_turned__B G_sure__B G_saddles__B G_solved__B G_written__B gO fB dB G_settled__B G_sure_pairs__B G_struck__B G_together__B
 have dN := lJ (P := l.prog) (w := w) (base := base) F46 T gO fB
 have eO := mX (P := l.prog) (w := w) (base := base) F47 T G_settled__B G_sure_pairs__B G_struck__B G_together__B
 have nG := zx (P := l.prog) (w := w) (base := base) F48 T fc dN dB eO
 have kZ := wz (P := l.prog) (w := w) (base := base) F49 T lq mz jT rz rD oE Y_BadTable Y_BadMixture Y_NoCard Y_Unlike Z_BadTable Z_BadMixture Z_NoCard Z_Unlike eY dC gf gh fG dG cY eX eQ dY fW eU iz iC gP gb eH gY ie gR V_BadTable V_BadMixture V_NoCard V_Unlike nG
 exact Jh FL T C_Solved dD kZ mF ym m9 rB
theorem walk {l : PySem.W.OpenLaw} {q : Program} {loose : List Str} {XP : (Str -> Option Value) -> Heap -> Prop} {YP : World -> Heap -> Prop} {d : DefRec} {K : Params -> PySem.W.Frag} (hn : l.most = some 63) (hdf : d.params.defaults = [])
  (hY : ∀ (w : World) (h : Heap), YP w h -> (K w.params).In h)
  (F : ∀ (w : World) (mg : Str -> Option Value) (fa : Addr) (h : Heap), (K w.params).In h -> h.Ns mainGlobals mg -> mg d.name = some (.ref fa) ->
   ∃ fd : FuncData, (∀ (s : Shared) (u : Value), BindsTo s fd ⟨[u], []⟩ [("_law_script", u)]) /\ ∀ base : Heap, (K w.params).In base -> base.Ns mainGlobals mg -> FnOk l.prog w (K w.params) mg base CX0 15 fa fd ["_law_script"] (sS (K w.params))) :
  PySem.W.WalkO q loose XP YP l.row.toRowW d [] (fun f vs => PySem.call f vs) :=
 L2.walk_of (n := 63) (k := 15) (x := "_law_script") (CX := fun _ => CX0) (sp := fun w => sS (K w.params)) hn (by decide) hdf ⟨rfl, by decide, by decide⟩ hY F (fun _ _ a ns hl _ hS => ⟨a, ns, rfl, hS, hl, fun _ => rfl⟩) fun _ _ _ _ _ z => z
end K14
namespace PySem.W.Fast
def tw4586686061141249094:=0
def tw730157857258243005:=0
def tw9184125978568033878:=0
def tw2883186689976335403:=0
def tw17539871412956703757:=0
def tw9471133077000215203:=0
def tw16238479628280996174:=0
def tw10701304795731445138:=0
def tw6062721716045544741:=0
def tw16536326704919784755:=0
def tw14716110558018741002:=0
def tw9469824782030696829:=0
def tw15865548260271985242:=0
def tw13412801738985043455:=0
def tw6450693211641722241:=0
def tw13300147804408509182:=0
def tw14117531583649640168:=0
def tw5923901209357158567:=0
def tw2060322157589224245:=0
def tw14470285762672406789:=0
def tw15516651159745791629:=0
def tw3976277156089303408:=0
def tw14738058704947325677:=0
def tw5171134559786441721:=0
def tw11389483003315235668:=0
def tw8170896690786840547:=0
def tw13110206671023827883:=0
def tw16426640882047756054:=0
def tw11107933298801403105:=0
def tw17309355231517454884:=0
def tw15367379714518600648:=0
def tw12409676825032552974:=0
def tw12373014294951915715:=0
def tw8592054072164978230:=0
def tw2697467304236318629:=0
def tw4452387277295095102:=0
def tw11083735227668108099:=0
def tw17194800637190109855:=0
def tw4988446276658220007:=0
def tw5053462148884609827:=0
def tw14213089084589787041:=0
def tw2212180093337218326:=0
def tw14983457068470948961:=0
def tw5736798467969583943:=0
def tw8963022899410862214:=0
def tw1930113066180124738:=0
def tw14505497601647581923:=0
def tw8807766542171343720:=0
def tw13613522853940790691:=0
def tw2847491520316348692:=0
def tw11479470953189943692:=0
def tw2890353913192310629:=0
def tw1856693952931035887:=0
def tw12878691134058875123:=0
def tw9227035776699231246:=0
def tw13544869779212482107:=0
def tw4433753811786499064:=0
def tw2768304730052735961:=0
def tw15591823901518146426:=0
def tw17374677487311191338:=0
def tw8546772553185304912:=0
def tw2620495223415759594:=0
def tw15868498373838140564:=0
def tw7485654224001340286:=0
def tw2159904037887331760:=0
def tw16253907728486295835:=0
def tw7611847156887986586:=0
def tw15414278007317441557:=0
def tw11376943643075902378:=0
def tw2576054955169729754:=0
def tw7139888650134702288:=0
def tw7014495796978948414:=0
def tw6563410221982732900:=0
def tw15137801214562714221:=0
def tw7312974753900519362:=0
def tw8498847490786671701:=0
def tw11148352856484723081:=0
def tw11513456059002189073:=0
def tw8380724379078605262:=0
def tw13560653701263766597:=0
def tw1697606648731051585:=0
def tw10186811363713800102:=0
def tw12285654720790967300:=0
def tw9772849476086377328:=0
def tw7743980861608855448:=0
def tw532528259149257399:=0
def tw14707341236480704967:=0
def tw48223747807978958:=0
def tw3803365543679326258:=0
def tw11051126702322682198:=0
def tw2371302931343301246:=0
def tw2440933122343038109:=0
def tw6861117415264832875:=0
def tw11585371280773230881:=0
def tw1678421878328876360:=0
def tw1947405320182314267:=0
def tw4310719249024514064:=0
def tw16456225717141049691:=0
def tw12925503848664099327:=0
def tw14870464252337942569:=0
def tw6677967693001181427:=0
def tw847892493987696574:=0
def tw17239258161094736705:=0
def tw18237668131226357938:=0
def tw9946486876109483065:=0
def tw9307885648729505511:=0
def tw10256806082439159866:=0
def tw4075798944915966727:=0
def tw13740763449090009381:=0
def tw7658299365172268220:=0
def tw9079120055238500499:=0
def tw12401398306824655477:=0
def tw17420880404494596561:=0
def tw3565389716127331473:=0
def tw4808166869282068954:=0
def tw12141390909744879469:=0
def tw2275382633516677825:=0
def tw11924007724198321281:=0
def tw2642641981270923539:=0
def tw16217793532153136673:=0
def tw17576466152084239124:=0
def tw10168367526730616305:=0
def tw10505062165702611416:=0
def tw4453146367021070404:=0
def tw7530674170814555479:=0
def tw3725943136833644659:=0
def tw5579018691473767976:=0
def tw13616660653544044435:=0
def tw8216331077001213933:=0
def tw18427808718920294523:=0
def tw3294641957896391801:=0
def tw9810212581644251795:=0
def tw4269615613957502132:=0
def tw2337401557594051472:=0
def tw10654644819243529312:=0
def tw14526695745982680007:=0
def tw9799712423702207983:=0
def tw8406376320090827766:=0
def tw6889286100859778564:=0
def tw11488697118721110573:=0
def tw15783957160422028653:=0
def tw1859053091306909495:=0
def tw3273403189418826219:=0
def tw13323159309471262937:=0
def tw4098718918320214704:=0
def tw2530430237692973260:=0
def tw7942785049214002842:=0
def tw5164160336014859612:=0
def tw3831849087332361758:=0
def tw10444091423485493668:=0
def tw14093896413470736085:=0
def tw9561284796789534505:=0
def tw12037643474934043656:=0
def tw3773741892965091762:=0
def tw16099027920702602864:=0
def tw10497920609703108326:=0
def tw13046001098451931923:=0
def tw15530781631421914823:=0
def tw8735359590058801457:=0
def tw4773101104159029015:=0
def tw5991348333332659511:=0
def tw10275526494193880806:=0
def tw1279231256211911798:=0
def tw12310644928570202486:=0
def tw13149002920027612952:=0
def tw206812299390236418:=0
def tw10485606064595405100:=0
def tw9639684168244173709:=0
def tw10060610925880321182:=0
def tw1359124563106800891:=0
def tw3859215146174385679:=0
def tw7096220186246144438:=0
def tw4374299402631560188:=0
def tw11615016711735178256:=0
def tw8916401190727425078:=0
def tw10177884148599197343:=0
def tw10310180095496600617:=0
def tw18249847054731994649:=0
def tw5103727245055199095:=0
def tw17202994906403703215:=0
def tw17387150155756319107:=0
def tw10808811894955681313:=0
def tw9468664048297143505:=0
def tw6048732261919540089:=0
def tw18276452772258861599:=0
def tw1238579432206737406:=0
def tw844587258768853722:=0
def tw10798255559127135987:=0
def tw10250369332581052996:=0
def tw411343975889481571:=0
def tw7264736024541303153:=0
def tw13457215500650230606:=0
def tw17289921067092565285:=0
def tw5269974244654739308:=0
def tw12597842084533056093:=0
def tw659658902557293758:=0
def tw10248294081995124517:=0
def tw4212352483658010183:=0
def tw14549296356679095370:=0
def tw1042109921318789632:=0
def tw1550115052016223179:=0
def tw18305902867531774001:=0
def tw12607824078623195985:=0
def tw12940916939672393493:=0
def tw12584006345663752080:=0
def tw9185570781535586092:=0
def tw1063960853955476005:=0
def tw9688171908439348560:=0
def tw6409550695714226600:=0
def tw18094659432166406197:=0
def tw12351631565406119807:=0
def tw18138384317294108502:=0
def tw15583464789442143826:=0
def tw15746125373609413333:=0
def tw7408049287189091673:=0
def tw17305186926186959191:=0
def tw15637760397244491458:=0
def tw12603020516807225970:=0
def tw2017986480415687077:=0
def tw6370696890462711465:=0
def tw11715950190076967324:=0
def tw13246286136915913817:=0
def tw4968317161813500924:=0
def tw2746234363582161315:=0
def tw186014583669661138:=0
def tw3701646845549494085:=0
def tw9698117771491810507:=0
def tw9996066555398811962:=0
def tw17453057593905369530:=0
def tw503606128679168484:=0
def tw3470128133103128900:=0
def tw17436442011034846448:=0
def tw5820349949908666154:=0
def tw2252111122842718997:=0
def tw8879474399760480075:=0
def tw18120790839364604744:=0
def tw14903197429227836875:=0
def tw17923671637041379097:=0
def tw11971125330058058265:=0
def tw14305658203693134577:=0
def tw17907274921576589527:=0
def tw7917544957799636967:=0
def tw3740064762402046845:=0
def tw4189086842722352264:=0
def tw11650060252275407085:=0
def tw9420243251149719296:=0
def tw14280508046599202121:=0
def tw6894386251001476503:=0
def tw6140372627947133165:=0
def tw16092239974198419565:=0
def tw8188579476520781985:=0
def tw285233549937944076:=0
def tw17455709346265544032:=0
def tw6709427121035337048:=0
def tw12313047546750428600:=0
def tw18023881616133142371:=0
def tw5598866631063336733:=0
def tw17463523231866181029:=0
def tw2621100946846560590:=0
def tw4510349696310603733:=0
def tw14139587028157512460:=0
def tw16935777897986070624:=0
def tw9849053337295061381:=0
def tw4364107276422991063:=0
def tw10401912299504916936:=0
def tw18275648924698399642:=0
def tw5016545018491809792:=0
def tw11515151738246493144:=0
def tw7017884679438704549:=0
def tw1276052594814427248:=0
def tw9674047226992939264:=0
def tw17677388323595422445:=0
def tw39337870430006995:=0
def tw17131558435109516426:=0
def tw10101834504143243481:=0
def tw6758756038517885239:=0
def tw7512127064912010583:=0
def tw9634552177678811058:=0
def tw4014107251823416804:=0
def tw2715186981683884027:=0
def tw6984811243379535692:=0
def tw1834776388514690741:=0
def tw13256847037890474713:=0
def tw2024512327799539262:=0
def tw17813481693060200952:=0
def tw5356564756025459973:=0
def tw11982397112578520646:=0
def tw1835688152748512808:=0
def tw13146069627997727391:=0
def tw34065961611365308:=0
def tw13701781455417367824:=0
def tw4498112380489281684:=0
def tw13328971450881170220:=0
def tw3253913096482145952:=0
def tw2466483164975469384:=0
def tw2101483412308543851:=0
def tw15967999781329148571:=0
def tw13403736985054882650:=0
def tw4621379941983754622:=0
def tw8476042654821598107:=0
def tw14646567248767989021:=0
def tw10422594992439240806:=0
def tw5770463712544176857:=0
def tw15401401553245560592:=0
def tw11317728892365507957:=0
def tw7489159615850780553:=0
def tw10229442281401985180:=0
def tw14358929213537442517:=0
def tw13768739618319172414:=0
def tw4634376098695885668:=0
def tw15611437819406705389:=0
def tw13763486583093592400:=0
def tw3505680819660229028:=0
def tw17615164103400367421:=0
def tw11859294439840417861:=0
def tw9802518239649073657:=0
def tw14355620241729261936:=0
def tw15257917896266111180:=0
def tw2989351442539419772:=0
def tw12657293328709811057:=0
def tw15082430106981007693:=0
def tw14337481662936438113:=0
def tw7424361932829022935:=0
def tw16167789580915908493:=0
def tw15720882774676690645:=0
def tw3612247787184787319:=0
def tw15599781377073597724:=0
def tw17707207118588180132:=0
def tw5222983511443800068:=0
def tw17579750878873773715:=0
def tw16537532215587075318:=0
def tw14911380535080096041:=0
def tw18321805415959258290:=0
def tw6446042547785022878:=0
def tw8973163564858933970:=0
def tw15382299098694567144:=0
def tw6300353041767792098:=0
def tw12853220860052866174:=0
def tw14060236328251942457:=0
def tw4549227618633131899:=0
def tw5384475942991810836:=0
def tw11398796329602837463:=0
def tw6275287599236650703:=0
def tw7862882018772927608:=0
def tw9919627141802244710:=0
def tw17148075642077196761:=0
def tw15288301536468593988:=0
def tw12984498833440937597:=0
def tw3380225787905326706:=0
def tw11109763050882063978:=0
def tw9369101076556733447:=0
def tw15197782488990534910:=0
def tw9344223540634692236:=0
def tw9512811078013200129:=0
def tw9242710618220904566:=0
def tw15613563467323220782:=0
def tw15196767386824354506:=0
def tw8489495443787331015:=0
def tw13122322081914394229:=0
def tw5010368815950224794:=0
def tw9008058999302484284:=0
def tw17425874693937072458:=0
def tw12586338341999335549:=0
def tw9611413689704288600:=0
def tw9280806099374495280:=0
def tw2344606013192305716:=0
def tw1663634948263492424:=0
def tw5734561232162841637:=0
def tw11907942500766567485:=0
def tw11737880492828998500:=0
def tw1080831310146204336:=0
def tw5325146885064047985:=0
def tw10301780492588125938:=0
def tw17013467184432583076:=0
def tw3480318477738474987:=0
def tw5586545669331263278:=0
def tw12541382584246678580:=0
def tw1684959993805311041:=0
def tw15963814574509969510:=0
def tw9663207526177034914:=0
def tw7241999054553759575:=0
def tw10131627938689554668:=0
def tw11376649830783271859:=0
def tw8065060352782644496:=0
def tw4544432062280136533:=0
def tw4698173169094514897:=0
def tw11874738100578966540:=0
def tw7631273457682569380:=0
def tw12161909324440030303:=0
def tw7529385845582404774:=0
def tw16431664575278814057:=0
def tw15727989047929309343:=0
def tw8446529248549376942:=0
def tw554924434004391859:=0
def tw12022683942680429529:=0
def tw7814452136116394415:=0
def tw3841520953857280500:=0
def tw4547868523727876369:=0
def tw6507610414506314248:=0
def tw10950671569489511307:=0
def tw8471512205422081147:=0
def tw8794611434135204853:=0
def tw3812749385171363854:=0
def tw16735712419687113282:=0
def tw11982589541255981581:=0
def tw888471873617712369:=0
def tw13144366256430734515:=0
def tw6392089440608313865:=0
def tw16697316690238904984:=0
def tw3393298143416817355:=0
def tw9819948854883403112:=0
def tw9880043997258293060:=0
def tw14834890204183935079:=0
def tw6401671780240033519:=0
def tw18319385687603870082:=0
def tw10270969276742829737:=0
def tw9658030531471306211:=0
def tw15334657210071078352:=0
def tw10916561071812266715:=0
def tw13547446395474601223:=0
def tw12096477395268152173:=0
def tw4918147231464662438:=0
def tw10267271613226439342:=0
def tw6055531796623762527:=0
def tw4444415838151550304:=0
def tw4454917638510624515:=0
def tw18211189820724142515:=0
def tw4219718258684544571:=0
def tw2874851593992650299:=0
def tw1565801164081638488:=0
def tw16497830757265037538:=0
def tw1002145377554137804:=0
def tw13926703579191010050:=0
def tw13824123031787536858:=0
def tw17692382645687921390:=0
def tw10809114015780774948:=0
def tw8428459445071894799:=0
def tw13618769262730816803:=0
def tw13584627705190125586:=0
def tw9529506794053908735:=0
def tw125935247370326041:=0
def tw16989875695657703210:=0
def tw13114509744588736401:=0
def tw7893077510709595409:=0
def tw17616513556225979488:=0
def tw3268347656354722673:=0
def tw16799969741104117753:=0
def tw8129701392540065487:=0
def tw11790971717624274030:=0
def tw1818817281031339234:=0
def tw2104483711223641727:=0
def tw16783722294562208616:=0
def tw8713867455160531117:=0
def tw16715647468077109823:=0
def tw7068917369152276383:=0
def tw13620733153810923759:=0
def tw6976055950633048731:=0
def tw15530615638739077079:=0
def tw5244630015180483651:=0
def tw4866680909899833998:=0
def tw11421639070425543270:=0
def tw8937133038944710963:=0
def tw1005551861406871945:=0
def tw3882248514889572590:=0
def tw2905293327534588160:=0
def tw17280113502973866911:=0
def tw15165105400260768099:=0
def tw5058383488093337710:=0
def tw3253726868816968034:=0
def tw15480494996232900818:=0
def tw16697427045533537890:=0
def tw15845992708193092800:=0
def tw15990760731397102190:=0
def tw10718894338089874315:=0
def tw1010467838547973010:=0
def tw342119961402611248:=0
def tw13775262857386235420:=0
def tw11737101077158753728:=0
def tw3962415634123929744:=0
def tw12689766667670232953:=0
def tw9318736289884261993:=0
def tw1046799729348598376:=0
def tw17970677270142352614:=0
def tw1242124014846002267:=0
def tw8673789057221320393:=0
def tw13651086944920244218:=0
def tw15821626833623855051:=0
def tw8043249790915708329:=0
def tw5734280110344068028:=0
def tw10350822131510197523:=0
def tw8054891839791390237:=0
def tw13266961971526966505:=0
def tw10573067967833834864:=0
def tw9856794278954482708:=0
def tw15766713465689278616:=0
def tw1512219137867048137:=0
def tw13186354609796886791:=0
def tw10394576093632636345:=0
def tw14960040900765078550:=0
def tw15626459354232472063:=0
def tw12713920104347019762:=0
def tw2812149125690261372:=0
def tw6081922654377647128:=0
def tw7846954646504293118:=0
def tw6894338618198350456:=0
def tw4067345978662978532:=0
def tw18257564581187584798:=0
def tw16768747351175398773:=0
def tw13674359536060197947:=0
def tw3587531659684195081:=0
def tw319693196598326143:=0
def tw4907508221517373157:=0
def tw8247941590648673888:=0
def tw17595467240958795152:=0
def tw9345961688630086424:=0
def tw6893015496075676898:=0
def tw1683764457778255809:=0
def tw2051856714250577129:=0
def tw1889324173873797569:=0
def tw12974922152337465666:=0
def tw4850838263599590894:=0
def tw3374845505533380548:=0
def tw15780059670530912020:=0
def tw11958611135378402933:=0
def tw7273080600791866771:=0
def tw13444194088498659433:=0
def tw7169120563642538669:=0
def tw855596911157984232:=0
def tw11387835097273776761:=0
def tw15849064785649118090:=0
def tw880233974114158429:=0
def tw9285982314054996227:=0
def tw217132594658191788:=0
def tw17753110350264826636:=0
def tw17399280527691970062:=0
def tw15242338077810531167:=0
def tw6623566350681807621:=0
def tw11148246297346716559:=0
def tw7536093841514549286:=0
def tw13858478871722657715:=0
def tw6746385892944308948:=0
def tw7129964195546165567:=0
def tw7485364909818758111:=0
def tw2542614139389331921:=0
def tw8695612121146620734:=0
def tw7462470879865508465:=0
def tw13222361119330011731:=0
def tw13127765536503987159:=0
def tw5113696432791531240:=0
def tw11448522008602545863:=0
def tw3946256961239130978:=0
def tw12837924394106951615:=0
def tw18025268647286599930:=0
def tw10548416660828474609:=0
def tw12721909380609629277:=0
def tw9341581432086819610:=0
def tw7761100453257040420:=0
def tw11742716008014747157:=0
def tw6044880296002416391:=0
def tw5192282722920344370:=0
def tw6873749398720297926:=0
def tw9762734122570795242:=0
def tw3235103839221769271:=0
def tw9830141601947983882:=0
def tw868734938064842869:=0
def tw3656732364778409925:=0
def tw11090390505098411787:=0
def tw14041531962457535374:=0
def tw7909172699097251781:=0
def tw7870878023399792754:=0
def tw3449364803436789910:=0
def tw6482761636696088822:=0
def tw15687115390080750693:=0
def tw18387962385191391102:=0
def tw14437005300565628479:=0
def tw7225355311924618636:=0
end PySem.W.Fast
open PySem PySem.W PyProof.Rows
set_option maxRecDepth 100000 in
set_option maxHeartbeats 0 in
theorem PySem.Challenge.cw_unseen_k14_refused_holds : PySem.Challenge.rw_unseen_k14_refused.Holds := by
 w_on; o_law; k_head; (case hw => w_witness2)
 k_fill
 refine K14.walk (l := PySem.Challenge.rw_unseen_k14_refused) rfl rfl (fun w h Y => PySem.W.kIn_of Y) ?F
 case F =>
  intro w mg fa h KX G hmg
  refine' K14.all_mk KX G hmg (L2.fun_m KX G ?_ ?_ ?_ ?_ (fun _ _ _ _ _ _ us hl => match us, hl with | [_], _ => rfl)) (L2.fun_m KX G ?_ ?_ ?_ ?_ (fun _ _ _ _ _ _ us hl => match us, hl with | [_], _ => rfl)) (L2.fun_m KX G ?_ ?_ ?_ ?_ (fun _ _ _ _ _ _ us hl => match us, hl with | [_], _ => rfl)) (L2.fun_m KX G ?_ ?_ ?_ ?_ (fun _ _ _ _ _ _ us hl => match us, hl with | [_], _ => rfl)) (L2.fun_m KX G ?_ ?_ ?_ ?_ (fun _ _ _ _ _ _ us hl => match us, hl with | [_], _ => rfl)) (L2.fun_m KX G ?_ ?_ ?_ ?_ (fun _ _ _ _ _ _ us hl => match us, hl with | [_, _], _ => rfl)) (L2.fun_m KX G ?_ ?_ ?_ ?_ (fun _ _ _ _ _ _ us hl => match us, hl with | [_, _], _ => rfl)) (L2.fun_m KX G ?_ ?_ ?_ ?_ (fun _ _ _ _ _ _ us hl => match us, hl with | [_, _], _ => rfl)) (L2.fun_m KX G ?_ ?_ ?_ ?_ (fun _ _ _ _ _ _ us hl => match us, hl with | [_, _], _ => rfl)) (L2.fun_m KX G ?_ ?_ ?_ ?_ (fun _ _ _ _ _ _ us hl => match us, hl with | [_, _], _ => rfl)) (L2.fun_m KX G ?_ ?_ ?_ ?_ (fun _ _ _ _ _ _ us hl => match us, hl with | [_, _], _ => rfl)) (L2.fun_m KX G ?_ ?_ ?_ ?_ (fun _ _ _ _ _ _ us hl => match us, hl with | [_], _ => rfl)) (L2.fun_m KX G ?_ ?_ ?_ ?_ (fun _ _ _ _ _ _ us hl => match us, hl with | [_], _ => rfl)) (L2.fun_m KX G ?_ ?_ ?_ ?_ (fun _ _ _ _ _ _ us hl => match us, hl with | [_, _], _ => rfl)) (L2.fun_m KX G ?_ ?_ ?_ ?_ (fun _ _ _ _ _ _ us hl => match us, hl with | [_, _], _ => rfl)) (L2.fun_m KX G ?_ ?_ ?_ ?_ (fun _ _ _ _ _ _ us hl => match us, hl with | [_, _], _ => rfl)) (L2.fun_m KX G ?_ ?_ ?_ ?_ (fun _ _ _ _ _ _ us hl => match us, hl with | [_, _], _ => rfl)) (L2.fun_m KX G ?_ ?_ ?_ ?_ (fun _ _ _ _ _ _ us hl => match us, hl with | [_, _], _ => rfl)) (L2.fun_m KX G ?_ ?_ ?_ ?_ (fun _ _ _ _ _ _ us hl => match us, hl with | [_, _], _ => rfl)) (L2.fun_m KX G ?_ ?_ ?_ ?_ (fun _ _ _ _ _ _ us hl => match us, hl with | [_, _], _ => rfl)) (L2.fun_m KX G ?_ ?_ ?_ ?_ (fun _ _ _ _ _ _ us hl => match us, hl with | [_], _ => rfl)) (L2.fun_m KX G ?_ ?_ ?_ ?_ (fun _ _ _ _ _ _ us hl => match us, hl with | [_], _ => rfl)) (L2.fun_m KX G ?_ ?_ ?_ ?_ (fun _ _ _ _ _ _ us hl => match us, hl with | [_], _ => rfl)) (L2.fun_m KX G ?_ ?_ ?_ ?_ (fun _ _ _ _ _ _ us hl => match us, hl with | [_, _, _], _ => rfl)) (L2.fun_m KX G ?_ ?_ ?_ ?_ (fun _ _ _ _ _ _ us hl => match us, hl with | [_, _], _ => rfl)) (L2.fun_m KX G ?_ ?_ ?_ ?_ (fun _ _ _ _ _ _ us hl => match us, hl with | [_], _ => rfl)) (L2.fun_m KX G ?_ ?_ ?_ ?_ (fun _ _ _ _ _ _ us hl => match us, hl with | [_, _, _], _ => rfl)) (L2.fun_m KX G ?_ ?_ ?_ ?_ (fun _ _ _ _ _ _ us hl => match us, hl with | [_, _, _], _ => rfl)) (L2.fun_m KX G ?_ ?_ ?_ ?_ (fun _ _ _ _ _ _ us hl => match us, hl with | [_, _, _], _ => rfl)) (L2.fun_m KX G ?_ ?_ ?_ ?_ (fun _ _ _ _ _ _ us hl => match us, hl with | [_], _ => rfl)) (L2.fun_m KX G ?_ ?_ ?_ ?_ (fun _ _ _ _ _ _ us hl => match us, hl with | [_], _ => rfl)) (L2.fun_c ?_ ?_ ?_ ?_ ?_ (fun _ _ _ _ _ _ us hl => match us, hl with | [_, _, _, _], _ => rfl)) (L2.fun_m KX G ?_ ?_ ?_ ?_ (fun _ _ _ _ _ _ us hl => match us, hl with | [_], _ => rfl)) (L2.fun_m KX G ?_ ?_ ?_ ?_ (fun _ _ _ _ _ _ us hl => match us, hl with | [_], _ => rfl)) (L2.fun_m KX G ?_ ?_ ?_ ?_ (fun _ _ _ _ _ _ us hl => match us, hl with | [_, _], _ => rfl)) (L2.fun_m KX G ?_ ?_ ?_ ?_ (fun _ _ _ _ _ _ us hl => match us, hl with | [_, _], _ => rfl)) (L2.fun_c ?_ ?_ ?_ ?_ ?_ (fun _ _ _ _ _ _ us hl => match us, hl with | [_, _], _ => rfl)) (L2.fun_m KX G ?_ ?_ ?_ ?_ (fun _ _ _ _ _ _ us hl => match us, hl with | [_, _], _ => rfl)) (L2.fun_m KX G ?_ ?_ ?_ ?_ (fun _ _ _ _ _ _ us hl => match us, hl with | [_, _, _], _ => rfl)) (L2.fun_m KX G ?_ ?_ ?_ ?_ (fun _ _ _ _ _ _ us hl => match us, hl with | [_, _], _ => rfl)) (L2.fun_m KX G ?_ ?_ ?_ ?_ (fun _ _ _ _ _ _ us hl => match us, hl with | [_, _], _ => rfl)) (L2.fun_m KX G ?_ ?_ ?_ ?_ (fun _ _ _ _ _ _ us hl => match us, hl with | [_, _], _ => rfl)) (L2.fun_m KX G ?_ ?_ ?_ ?_ (fun _ _ _ _ _ _ us hl => match us, hl with | [_], _ => rfl)) (L2.fun_m KX G ?_ ?_ ?_ ?_ (fun _ _ _ _ _ _ us hl => match us, hl with | [_], _ => rfl)) (L2.fun_m KX G ?_ ?_ ?_ ?_ (fun _ _ _ _ _ _ us hl => match us, hl with | [_], _ => rfl)) (L2.fun_m KX G ?_ ?_ ?_ ?_ (fun _ _ _ _ _ _ us hl => match us, hl with | [_, _], _ => rfl)) (L2.fun_m KX G ?_ ?_ ?_ ?_ (fun _ _ _ _ _ _ us hl => match us, hl with | [_, _], _ => rfl)) (L2.fun_m KX G ?_ ?_ ?_ ?_ (fun _ _ _ _ _ _ us hl => match us, hl with | [_], _ => rfl)) (L2.fun_m KX G ?_ ?_ ?_ ?_ (fun _ _ _ _ _ _ us hl => match us, hl with | [_, _, _], _ => rfl)) (L2.fun_m KX G ?_ ?_ ?_ ?_ (fun _ _ _ _ _ _ us hl => match us, hl with | [_, _, _], _ => rfl)) ?_ ?_ ?_ ?_ (L2.fun_m KX G ?_ ?_ ?_ ?_ (fun _ _ _ _ _ _ us hl => match us, hl with | [_, _], _ => rfl)) (L2.fun_m KX G ?_ ?_ ?_ ?_ (fun _ _ _ _ _ _ us hl => match us, hl with | [_], _ => rfl)) (L2.fun_m KX G ?_ ?_ ?_ ?_ (fun _ _ _ _ _ _ us hl => match us, hl with | [_], _ => rfl)) (L2.fun_m KX G ?_ ?_ ?_ ?_ (fun _ _ _ _ _ _ us hl => match us, hl with | [_], _ => rfl)) (L2.fun_m KX G ?_ ?_ ?_ ?_ (fun _ _ _ _ _ _ us hl => match us, hl with | [_, _], _ => rfl)) (L2.fun_m KX G ?_ ?_ ?_ ?_ (fun _ _ _ _ _ _ us hl => match us, hl with | [_, _], _ => rfl)) (L2.fun_m KX G ?_ ?_ ?_ ?_ (fun _ _ _ _ _ _ us hl => match us, hl with | [_, _, _], _ => rfl)) (L2.fun_m KX G ?_ ?_ ?_ ?_ (fun _ _ _ _ _ _ us hl => match us, hl with | [_, _], _ => rfl)) ?aC_Solved ?_ ?_ ?_ ?_ ?_ ?_ ?_ ?_ ?_ ?aC_Best ?_ ?_ ?_ ?_ ?_ ?_ ?_ ?aC_NCardError ?aC_NBadTable ?aC_NBadMixture ?aC_NNoCard ?aC_NUnlike ?aC_NBadText ?_ ?_ ?_ ?_ ?_ ?_ ?_ ?_ ?_ ?_ ?_ ?_ ?_ ?_ ?_ ?_ ?_ ?_ ?_ ?_ ?_ ?_ ?_ ?_ ?_ ?_ ?_ ?_ ?_ ?_ ?_ ?_ ?_ ?_ ?_ ?_ ?_ ?_ ?_ ?_ ?_ ?_ ?_ ?_ ?_ ?_ ?_ ?_ ?_ ?_ ?_ ?_ ?_ ?_ ?_ ?_ ?_ ?_ ?_ ?_ ?_ ?_ ?_ ?_ ?_ ?_ ?_ ?_ ?_ ?_ ?_ ?_ ?_ ?_ ?_ ?_ ?_ ?_ ?_ ?_ ?_ ?_ ?_
  (case aC_Solved => k_is)
  (case aC_Best => k_is)
  (case aC_NCardError => k_is)
  (case aC_NBadTable => k_is)
  (case aC_NBadMixture => k_is)
  (case aC_NNoCard => k_is)
  (case aC_NUnlike => k_is)
  (case aC_NBadText => k_is)
  all_goals (try (first | k_is | kit_is | k_exc | kts_exm))
#print axioms PySem.Challenge.cw_unseen_k14_refused_holds
