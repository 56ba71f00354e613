import PyProof.Rows.All
import Wide.All
import OpenK.AllK
import Wide.FinOn
import Lean
import PyProof.EqAt
import PyProof.EqKinds
import PyProof.TupleCall
import PySem.Challenge.RW_unseen_k11_answers_by_hand
set_option Elab.async false
set_option linter.all false
set_option maxRecDepth 100000
namespace L2
open PySem PySem.Spec PyProof.Rows
abbrev Key := Sum Int Str
def GF : Key -> Value -> Bool
 | .inl k, v => Value.isInt k v
 | .inr x, v => Value.isStrOf x v
def Ko (w : World) : Key -> Int
 | .inl k => hashInt k
 | .inr x => hashStr w x
theorem cY : ∀ {k : Key} {v : Value}, GF k v = true -> (∃ i t, k = Sum.inl i /\ v = Value.int i t) \/ (∃ x t, k = Sum.inr x /\ v = Value.str x t)
 | .inl i, v, h => by
  obtain ⟨t, e⟩ := Value.isInt_shape (k := i) (v := v) h
  exact .inl ⟨i, t, rfl, e⟩
 | .inr x, v, h => by
  obtain ⟨t, e⟩ := Value.isStrOf_shape (x := x) (v := v) h
  exact .inr ⟨x, t, rfl, e⟩
theorem Ir (a b : Int) : decide ((Sum.inl a : Key) = Sum.inl b) = (a == b) := by
 by_cases e : a = b
 ·subst e; simp
 ·have h : ¬ (Sum.inl a : Key) = Sum.inl b := fun q => e (Sum.inl.inj q)
  rw [decide_eq_false h]
  exact (beq_eq_false_iff_ne.mpr e).symm
theorem Jm (a b : Str) : decide ((Sum.inr a : Key) = Sum.inr b) = decide (a = b) := by
 by_cases e : a = b
 ·subst e; simp
 ·have h : ¬ (Sum.inr a : Key) = Sum.inr b := fun q => e (Sum.inr.inj q)
  rw [decide_eq_false h, decide_eq_false e]
theorem JN (a : Int) (b : Str) : decide ((Sum.inl a : Key) = Sum.inr b) = false := decide_eq_false (fun q => nomatch q)
theorem IW (a : Str) (b : Int) : decide ((Sum.inr a : Key) = Sum.inl b) = false := decide_eq_false (fun q => nomatch q)
def Bd (prog : Program) (w : World) : PySem.KeyKind prog w Key where
 is := GF
 hash := Ko w
 inj := fun v a b ha hb => by
  rcases cY ha with ⟨i, t, rfl, rfl⟩ | ⟨x, t, rfl, rfl⟩
  ·rcases cY hb with ⟨j, u, rfl, e⟩ | ⟨y, u, rfl, e⟩
   ·injection e with e1 _; rw [e1]
   ·exact nomatch e
  ·rcases cY hb with ⟨j, u, rfl, e⟩ | ⟨y, u, rfl, e⟩
   ·exact nomatch e
   ·injection e with e1 _; rw [e1]
 byValue := fun k v h => by
  rcases cY h with ⟨i, t, rfl, rfl⟩ | ⟨x, t, rfl, rfl⟩ <;> rfl
 pyHash := fun hv h => by
  rcases cY hv with ⟨i, t, rfl, rfl⟩ | ⟨x, t, rfl, rfl⟩
  ·exact wpAny_pyHash_int h
  ·exact wpAny_pyHash_str h
 eqBool := fun hu hv h => by
  rcases cY hu with ⟨i, t, rfl, rfl⟩ | ⟨x, t, rfl, rfl⟩
  ·rcases cY hv with ⟨j, u, rfl, rfl⟩ | ⟨y, u, rfl, rfl⟩
   ·rw [Ir] at h; exact wpAny_eqBool_int h
   ·rw [JN] at h; exact SeqAt.EqAt.int_str i t y u _ _ _ _ h
  ·rcases cY hv with ⟨j, u, rfl, rfl⟩ | ⟨y, u, rfl, rfl⟩
   ·rw [IW] at h; exact SeqAt.EqAt.str_int x t j u _ _ _ _ h
   ·rw [Jm] at h; exact wpAny_eqBool_str h
 «strs» := fun k x t v h => by
  rcases cY h with ⟨i, u, rfl, e⟩ | ⟨y, u, rfl, e⟩
  ·exact nomatch e
  ·injection e with e1 _
   subst e1
   cases v <;> rfl
end L2
namespace L2
open PySem PySem.Spec PyProof.Rows
inductive V where
 | non | bl (b : Bool) | int (i : Int) | str (x : Str) | byt (b : Array UInt8) | flt (b : UInt64) | ref (a : Addr) | ty (n : String)
 deriving DecidableEq
def RelV : V -> Value -> Prop
 | .non, u => u = Value.none
 | .bl b, u => u = Value.bool b
 | .int i, u => ∃ t, u = Value.int i t
 | .str x, u => ∃ t, u = Value.str x t
 | .byt b, u => ∃ t, u = Value.bytes b t
 | .flt b, u => ∃ t, u = Value.float b t
 | .ref a, u => u = Value.ref a
 | .ty n, u => u = Value.type n
abbrev Vals : List V -> List Value -> Prop := Paired RelV
theorem Vals.length {xs : List V} {us : List Value} (r : Vals xs us) : xs.length = us.length := Paired.length r
theorem Vals.get : ∀ {xs : List V} {us : List Value} {i : Nat} {x : V}, Vals xs us -> xs[i]? = some x -> ∃ u, us[i]? = some u /\ RelV x u
 | _, _, _, _, .nil, e => by simp at e
 | _, _, 0, _, .cons r _, e => by simp at e; subst e; exact ⟨_, rfl, r⟩
 | _, _, i + 1, x, .cons _ t, e => by
  obtain ⟨u, h1, h2⟩ := Vals.get (i := i) (x := x) t (by simpa using e)
  exact ⟨u, by simpa using h1, h2⟩
theorem Vals.set {x : V} {u : Value} (r : RelV x u) : ∀ {xs : List V} {us : List Value} (i : Nat), Vals xs us -> Vals (xs.set i x) (us.set i u)
 | _, _, _, .nil => .nil
 | _, _, 0, .cons _ t => .cons r t
 | _, _, i + 1, .cons q t => .cons q (Vals.set r i t)
theorem Vals.append : ∀ {xs ys : List V} {us ws : List Value}, Vals xs us -> Vals ys ws -> Vals (xs ++ ys) (us ++ ws)
 | _, _, _, _, .nil, s => s
 | _, _, _, _, .cons r t, s => .cons r (Vals.append t s)
theorem Vals.take : ∀ {xs : List V} {us : List Value} (n : Nat), Vals xs us -> Vals (xs.take n) (us.take n)
 | _, _, 0, _ => .nil
 | _, _, _ + 1, .nil => .nil
 | _, _, n + 1, .cons r t => .cons r (Vals.take n t)
theorem Vals.drop : ∀ {xs : List V} {us : List Value} (n : Nat), Vals xs us -> Vals (xs.drop n) (us.drop n)
 | _, _, 0, r => r
 | _, _, _ + 1, .nil => .nil
 | _, _, n + 1, .cons _ t => Vals.drop n t
theorem Vals.none_of : ∀ {xs : List V} {us : List Value} {i : Nat}, Vals xs us -> xs[i]? = none -> us[i]? = none := fun {xs us i} r e => by
 have h1 := r.length
 have h2 : xs.length <= i := List.getElem?_eq_none_iff.mp e
 exact List.getElem?_eq_none_iff.mpr (by omega)
def RelO : Option V -> Option Value -> Prop
 | some v, some u => RelV v u
 | none, none => True
 | _, _ => False
def KV {κ : Type} : List (κ × V) -> List (κ × Value) -> Prop := Paired fun (p : κ × V) (q : κ × Value) => p.1 = q.1 /\ RelV p.2 q.2
def kV : Key -> V
 | .inl i => .int i
 | .inr x => .str x
inductive HO where
 | lst (xs : List V)
 | tup (xs : List V)
 | dK (kvs : List (Key × V)) | dT (kvs : List (List Key × V))
 | set (S : Int -> Bool) (n : Nat)
 | ins (C dx : Addr) (fs : List (Str × V))
 | own (x : Addr)
 | xd (fs : List (Str × V))
 | met (f x : Addr)
 | rng (lo hi : Int)
 | frz (o : Obj) (u : HO)
 | tbl (ps : Array Value)
 | ext (φ : Heap -> Prop)
abbrev Hp := Addr -> Option HO
def upd (H : Hp) (a : Addr) (o : HO) : Hp := fun b => if b = a then some o else H b
theorem aq {H : Hp} {a : Addr} {o : HO} : upd H a o a = some o := by unfold upd; rw [if_pos rfl]
theorem aJ {H : Hp} {a b : Addr} {o : HO} (h : b ≠ a) : upd H a o b = H b := by unfold upd; rw [if_neg h]
theorem fB {H : Hp} {a b : Addr} {o u : HO} (h : H a = some o) (h' : H b = some u) (d : o ≠ u) : a ≠ b := by
 intro e; subst e; rw [h] at h'; exact d (Option.some.inj h')
theorem aV {H : Hp} {a b : Addr} {o : HO} (h : H a = some o) (h' : H b = none) : a ≠ b := by
 intro e; subst e; rw [h] at h'; cases h'
section
variable (P : Program) (w : World)
def ObjOk (H : Hp) (h : Heap) (a : Addr) : HO -> Prop
 | .lst xs => xs.length <= sizeLine /\ ∃ (its : List Value) (n : Nat), Vals xs its /\ h.get? a = some { cls := .type "list", data := .seq its.toArray n }
 | .tup xs => xs.length <= sizeLine /\ ∃ its : List Value, Vals xs its /\ IsTup h a its.toArray
 | .dK kvs => kvs.length <= sizeLine /\ (a == sysModules) = false /\ ∃ vs, KV kvs vs /\ h.DictOf (Bd P w) a vs
 | .dT kvs => kvs.length <= sizeLine /\ (a == sysModules) = false /\ ∃ xs : List (List Key × Addr × Value),
   Paired (fun (p : List Key × V) (q : List Key × Addr × Value) => p.1 = q.1 /\ H q.2.1 = some (.tup (p.1.map kV)) /\ RelV p.2 q.2.2) kvs xs /\
   ∃ o es ep, h.get? a = some o /\ o.ExactDict /\ o.data = .dict es ep /\ es.toList = xs.map (entryOfKey (tupleKind (Bd P w))) /\ (xs.map (·.1)).Nodup
 | .set S n => h.SetOf (intKind P w) a S n
 | .ins C dx fs => H dx = some (.own a) /\ fs.length <= 1000 /\ dx ≠ a /\ h.get? a = some (PySem.W.instObj C dx) /\
   ∃ mA, h.Ns1 dx mA /\ (∀ f, RelO (fs.lookup f) (mA f)) /\ PySem.Within mA (fs.map (·.1))
 | .own _ => ∃ o, h.get? a = some o
 | .xd fs => ∃ mA, h.Ns1 a mA /\ ∀ f, RelO (fs.lookup f) (mA f)
 | .rng lo hi => ∃ t u v, h.get? a = some { cls := .type "range", data := .fields #[.int lo t, .int hi u, .int 1 v] }
 | .frz o u => h.get? a = some o /\ ObjOk H h a u
 | .tbl ps => h.get? a = some { cls := .none, data := .fields ps }
 | .met f x => h.get? a = some (PySem.W.methodObj (.ref f) (.ref x))
 | .ext φ => φ h /\ (∃ o, h.get? a = some o) /\ ∀ h1 h2 : Heap, φ h1 -> (∀ o, h1.get? a = some o -> h2.get? a = some o) -> φ h2
def HOk (H : Hp) (h : Heap) : Prop := ∀ a o, H a = some o -> ObjOk P w H h a o
end
section
variable {P : Program} {w : World} {H H' : Hp} {h h' : Heap} {a : Addr} {o : HO}
theorem ObjOk.lt (x : ObjOk P w H h a o) : a < h.objs.size := by
 cases o with
 | lst xs => obtain ⟨_, _, _, _, e⟩ := x; exact Heap.lt_size e
 | tup xs => obtain ⟨_, _, _, p⟩ := x; exact p.lt
 | dK kvs => obtain ⟨_, _, _, _, o, _, _, e, _⟩ := x; exact Heap.lt_size e
 | dT kvs => obtain ⟨_, _, _, _, o, _, _, e, _⟩ := x; exact Heap.lt_size e
 | set S n => obtain ⟨o, _, _, _, e, _⟩ := x; exact Heap.lt_size e
 | ins C dx fs => obtain ⟨_, _, _, e, _⟩ := x; exact Heap.lt_size e
 | own y => obtain ⟨_, e⟩ := x; exact Heap.lt_size e
 | xd fs => obtain ⟨_, ⟨_, _, _, e, _⟩, _⟩ := x; exact Heap.lt_size e
 | rng lo hi => obtain ⟨_, _, _, e⟩ := x; exact Heap.lt_size e
 | frz ob u => obtain ⟨e, _⟩ := x; exact Heap.lt_size e
 | tbl ps => exact Heap.lt_size (show h.get? a = some _ from x)
 | met f y => exact Heap.lt_size (show h.get? a = some _ from x)
 | ext φ => obtain ⟨_, ⟨_, e⟩, _⟩ := x; exact Heap.lt_size e
theorem Paired.mapP {α β : Type} {F G : α -> β -> Prop} : ∀ {l₁ : List α} {l₂ : List β}, Paired F l₁ l₂ -> (∀ a b, F a b -> G a b) -> Paired G l₁ l₂
 | _, _, .nil, _ => .nil
 | _, _, .cons r t, f => .cons (f _ _ r) (Paired.mapP t f)
theorem ObjOk.stay (x : ObjOk P w H h a o) (k : ∀ b u, (b = a \/ H b = some (.own a)) -> h.get? b = some u -> h'.get? b = some u)
  (ho : ∀ b, H b = some (.own a) -> H' b = some (.own a)) (ht : ∀ b xs, H b = some (.tup xs) -> H' b = some (.tup xs)) : ObjOk P w H' h' a o := by
 induction o with
 | lst xs => obtain ⟨z, its, n, r, e⟩ := x; exact ⟨z, its, n, r, k _ _ (.inl rfl) e⟩
 | tup xs => obtain ⟨z, its, r, ob, e, c⟩ := x; exact ⟨z, its, r, ob, k _ _ (.inl rfl) e, c⟩
 | dK kvs => obtain ⟨z, y, vs, r, ob, es, ep, e, c⟩ := x; exact ⟨z, y, vs, r, ob, es, ep, k _ _ (.inl rfl) e, c⟩
 | dT kvs =>
  obtain ⟨z, y, xs, r, ob, es, ep, e, c⟩ := x
  exact ⟨z, y, xs, Paired.mapP r fun p q z => ⟨z.1, ht _ _ z.2.1, z.2.2⟩, ob, es, ep, k _ _ (.inl rfl) e, c⟩
 | set S n => obtain ⟨ob, es, ep, t, e, c⟩ := x; exact ⟨ob, es, ep, t, k _ _ (.inl rfl) e, c⟩
 | ins C dx fs =>
  obtain ⟨d, z, ne, e, mA, ⟨od, es, ep, e2, c⟩, r⟩ := x
  exact ⟨ho _ d, z, ne, k _ _ (.inl rfl) e, mA, ⟨od, es, ep, k _ _ (.inr d) e2, c⟩, r⟩
 | own y => obtain ⟨ob, e⟩ := x; exact ⟨ob, k _ _ (.inl rfl) e⟩
 | xd fs => obtain ⟨mA, ⟨od, es, ep, e, c⟩, r⟩ := x; exact ⟨mA, ⟨od, es, ep, k _ _ (.inl rfl) e, c⟩, r⟩
 | rng lo hi => obtain ⟨t, u, v, e⟩ := x; exact ⟨t, u, v, k _ _ (.inl rfl) e⟩
 | frz ob u ih => obtain ⟨e, q⟩ := x; exact ⟨k _ _ (.inl rfl) e, ih q⟩
 | tbl ps =>
  have e : h.get? a = some { cls := .none, data := .fields ps } := x
  show h'.get? a = some { cls := .none, data := .fields ps }
  exact k a _ (.inl rfl) e
 | met f y =>
  have e : h.get? a = some (PySem.W.methodObj (.ref f) (.ref y)) := x
  show h'.get? a = some (PySem.W.methodObj (.ref f) (.ref y))
  exact k a _ (.inl rfl) e
 | ext φ => obtain ⟨p, ⟨o, e⟩, st⟩ := x; exact ⟨st _ _ p fun o q => k _ _ (.inl rfl) q, ⟨o, k _ _ (.inl rfl) e⟩, st⟩
theorem HOk.lt (x : HOk P w H h) (e : H a = some o) : a < h.objs.size := (x a o e).lt
theorem HOk.fresh (x : HOk P w H h) (e : h.objs.size <= a) : H a = none := by
 cases q : H a with
 | none => rfl
 | some u => exact absurd (Nat.lt_of_lt_of_le (x.lt q) e) (Nat.lt_irrefl _)
theorem HOk.kept (x : HOk P w H h) (k : ∀ b u, h.get? b = some u -> h'.get? b = some u) : HOk P w H h' := fun a o e =>
 (x a o e).stay (fun b u _ q => k b u q) (fun _ q => q) fun _ _ q => q
theorem HOk.laid (x : HOk P w H h) (k : ∀ b u, h.get? b = some u -> h'.get? b = some u) (hp : h.objs.size <= a) (new : ObjOk P w (upd H a o) h' a o) : HOk P w (upd H a o) h' := fun b u e => by
 have hn := x.fresh hp
 by_cases hb : b = a
 ·subst hb; rw [aq] at e; cases e; exact new
 ·rw [aJ hb] at e
  exact (x b u e).stay (fun c v _ q => k c v q) (fun c q => by rw [aJ (aV q hn)]; exact q) fun c xs q => by rw [aJ (aV q hn)]; exact q
end
def Rd (H : Hp) (a : Addr) (u : HO) : Prop := H a = some u \/ ∃ o, H a = some (.frz o u)
theorem Rd.of {H : Hp} {a : Addr} {u : HO} (h : H a = some u) : Rd H a u := .inl h
theorem Rd.ok {P : Program} {w : World} {H : Hp} {h : Heap} {a : Addr} {u : HO} (r : Rd H a u) (x : HOk P w H h) : ObjOk P w H h a u := by
 rcases r with r | ⟨o, r⟩
 ·exact x a u r
 ·obtain ⟨_, q⟩ := x a _ r
  exact q
def Mut : Option HO -> Prop
 | some (.lst _) => True
 | some (.dK _) => True
 | some (.dT _) => True
 | some (.set _ _) => True
 | some (.ins _ _ _) => True
 | some (.ext _) => True
 | _ => False
section
variable {P : Program} {w : World} {H : Hp} {h h' : Heap} {x e : Addr} {o' : HO}
theorem HOk.write (ok : HOk P w H h) (mu : Mut (H x)) (he : e = x \/ H e = some (.own x)) (k : ∀ b u, b ≠ e -> h.get? b = some u -> h'.get? b = some u) (heo : ∃ u, h'.get? e = some u)
  (new : ObjOk P w (upd H x o') h' x o') : HOk P w (upd H x o') h' := fun b u q => by
 have nown : ∀ c y, H c = some (.own y) -> c ≠ x := fun c y r z => by subst z; rw [r] at mu; exact mu
 have ntup : ∀ c xs, H c = some (.tup xs) -> c ≠ x := fun c xs r z => by subst z; rw [r] at mu; exact mu
 by_cases hb : b = x
 ·subst hb; rw [aq] at q; cases q; exact new
 ·rw [aJ hb] at q
  by_cases hbe : b = e
  ·have q' : H b = some (.own x) := by
    rcases he with z | z
    ·exact absurd (hbe.trans z) hb
    ·rw [hbe]; exact z
   rw [q] at q'; cases q'
   obtain ⟨v, hv⟩ := heo
   exact ⟨v, by rw [hbe]; exact hv⟩
  ·refine (ok b u q).stay (fun c v hc r => k c v ?_ r) (fun c r => by rw [aJ (nown c b r)]; exact r) fun c xs r => by rw [aJ (ntup c xs r)]; exact r
   rcases hc with rfl | hc
   ·exact hbe
   ·rintro rfl
    rcases he with z | z
    ·exact nown c b hc z
    ·rw [hc] at z; cases z; exact hb rfl
end
structure Un (fs ex : List Addr) (H H' : Hp) (h h' : Heap) : Prop where
 keep : ∀ b o, h.get? b = some o -> H b = none -> b ∉ fs -> b ∉ ex -> h'.get? b = some o
 slot : ∀ b o, h.get? b = some o -> H b = none -> b ∈ fs -> b ∉ ex -> ∃ sl, h'.get? b = some { o with slots := sl }
 free : ∀ b o, h.get? b = some o -> H b = none -> b ∉ ex -> H' b = none
 there : ∀ b o, h.get? b = some o -> b ∉ ex -> ∃ o', h'.get? b = some o'
 tups : ∀ b xs, H b = some (.tup xs) -> H' b = some (.tup xs)
 frzs : ∀ b o u, H b = some (.frz o u) -> H' b = some (.frz o u)
 tbls : ∀ b ps, H b = some (.tbl ps) -> ∃ more, H' b = some (.tbl (ps ++ more))
section
variable {fs fs' ex ex' : List Addr} {H H1 H2 : Hp} {h h1 h2 h' : Heap} {a x e : Addr} {o : HO}
theorem Un.any (u : Un fs ex H H1 h h1) {b : Addr} {ob : Obj} (q : h.get? b = some ob) (n : H b = none) (hx : b ∉ ex) : ∃ sl, h1.get? b = some { ob with slots := sl } := by
 by_cases hb : b ∈ fs
 ·exact u.slot b ob q n hb hx
 ·exact ⟨ob.slots, u.keep b ob q n hb hx⟩
theorem Un.trans (a : Un fs ex H H1 h h1) (b : Un fs ex H1 H2 h1 h2) : Un fs ex H H2 h h2 where
 keep := fun c ob q n hc hx => b.keep c ob (a.keep c ob q n hc hx) (a.free c ob q n hx) hc hx
 slot := fun c ob q n hc hx => by
  obtain ⟨sl, e1⟩ := a.slot c ob q n hc hx
  obtain ⟨sl', e2⟩ := b.slot c _ e1 (a.free c ob q n hx) hc hx
  exact ⟨sl', e2⟩
 free := fun c ob q n hx => by
  obtain ⟨o', e1⟩ := a.there c ob q hx
  exact b.free c o' e1 (a.free c ob q n hx) hx
 there := fun c ob q hx => by
  obtain ⟨o', e1⟩ := a.there c ob q hx
  exact b.there c o' e1 hx
 tups := fun c xs q => b.tups c xs (a.tups c xs q)
 frzs := fun c ob xs q => b.frzs c ob xs (a.frzs c ob xs q)
 tbls := fun c ps q => by
  obtain ⟨m1, e1⟩ := a.tbls c ps q
  obtain ⟨m2, e2⟩ := b.tbls c _ e1
  exact ⟨m1 ++ m2, by rw [e2, Array.append_assoc]⟩
theorem Un.kept (k : ∀ b u, h.get? b = some u -> h'.get? b = some u) : Un fs ex H H h h' :=
 ⟨fun b ob q _ _ _ => k b ob q, fun b ob q _ _ _ => ⟨ob.slots, k b ob q⟩, fun _ _ _ n _ => n, fun b ob q _ => ⟨ob, k b ob q⟩, fun _ _ q => q, fun _ _ _ q => q, fun _ ps q => ⟨#[], by rw [q]; simp⟩⟩
theorem Un.refl : Un fs ex H H h h := Un.kept fun _ _ q => q
theorem Un.laid (k : ∀ b u, h.get? b = some u -> h'.get? b = some u) (hp : h.objs.size <= a) (hn : H a = none) : Un fs ex H (upd H a o) h h' where
 keep := fun b u q _ _ _ => k b u q
 slot := fun b u q _ _ _ => ⟨u.slots, k b u q⟩
 free := fun b u q n _ => by rw [aJ (Nat.ne_of_lt (Nat.lt_of_lt_of_le (Heap.lt_size q) hp))]; exact n
 there := fun b u q _ => ⟨u, k b u q⟩
 tups := fun b xs q => by rw [aJ (aV q hn)]; exact q
 frzs := fun b u xs q => by rw [aJ (aV q hn)]; exact q
 tbls := fun b ps q => ⟨#[], by rw [aJ (aV q hn), q]; simp⟩
theorem Un.write (mu : Mut (H x)) (he : e = x \/ H e = some (.own x)) (k : ∀ b u, b ≠ e -> h.get? b = some u -> h'.get? b = some u) (heo : ∃ u, h'.get? e = some u) : Un fs ex H (upd H x o) h h' := by
 have hx : ∀ b, H b = none -> b ≠ x := fun b n z => by subst z; rw [n] at mu; exact mu
 have hb : ∀ b, H b = none -> b ≠ e := fun b n z => by
  subst z
  rcases he with r | r
  ·exact hx b n r
  ·rw [n] at r; cases r
 have hm : ∀ b u, H b = some u -> ¬ Mut (some u) -> b ≠ x := fun b u q nm z => by subst z; rw [q] at mu; exact nm mu
 refine ⟨fun b u q n _ _ => k b u (hb b n) q, fun b u q n _ _ => ⟨u.slots, k b u (hb b n) q⟩, fun b u q n _ => by rw [aJ (hx b n)]; exact n, fun b u q _ => ?_,
  fun b xs q => by rw [aJ (hm b _ q fun z => z)]; exact q, fun b u xs q => by rw [aJ (hm b _ q fun z => z)]; exact q, fun b ps q => ⟨#[], by rw [aJ (hm b _ q fun z => z), q]; simp⟩⟩
 by_cases hbe : b = e
 ·subst hbe; exact heo
 ·exact ⟨u, k b u hbe q⟩
theorem Un.mono (u : Un fs ex H H1 h h1) (hs : ∀ b ∈ fs, b ∈ fs') (hx : ∀ b ∈ ex, b ∈ ex') : Un fs' ex' H H1 h h1 :=
 ⟨fun b ob q n hb he => u.keep b ob q n (fun z => hb (hs b z)) fun z => he (hx b z), fun _ _ q n _ he => u.any q n fun z => he (hx _ z), fun b ob q n he => u.free b ob q n fun z => he (hx b z), fun b ob q he => u.there b ob q fun z => he (hx b z), u.tups, u.frzs, u.tbls⟩
end
def trk (h : Heap) (H : Hp) : List Addr := (List.range h.objs.size).filter fun a => (H a).isSome
def nW (h : Heap) (H : Hp) : Heap := PySem.W.hideAll h (trk h H)
theorem Eu (h : Heap) (H : Hp) : (nW h H).objs.size = h.objs.size := PySem.W.hideAll_size _ _
theorem FZ {h : Heap} {H : Hp} {b : Addr} {o : Obj} (e : h.get? b = some o) (n : H b = none) : (nW h H).get? b = some o :=
 PySem.W.hideAll_get _ e fun hm => by
  have q : (H b).isSome = true := (List.mem_filter.mp hm).2
  rw [n] at q; simp at q
theorem Hy {h : Heap} {H : Hp} {b : Addr} {o : Obj} (e : (nW h H).get? b = some o) : h.get? b = some o /\ H b = none := by
 have e' : h.get? b = some o := PySem.W.of_hideAll (trk h H) e
 refine ⟨e', ?_⟩
 cases q : H b with
 | none => rfl
 | some x =>
  have hm : b ∈ trk h H := List.mem_filter.mpr ⟨List.mem_range.mpr (Heap.lt_size e'), by simp [q]⟩
  have z : (nW h H).get? b = none := PySem.W.hideAll_none (trk h H) hm
  rw [z] at e; cases e
def HJ (g h : Heap) (L : Addr) : List (Addr × Obj) := (List.range h.objs.size).filterMap fun a => if a = L \/ (g.get? a).isSome = true then none else (h.get? a).map fun o => (a, o)
def rest (g h : Heap) (L d : Addr) : List (Addr × Obj) := (HJ g h L).filter fun p => decide (p.1 ≠ d)
end L2
namespace L2
open PySem PySem.Spec PyProof.Rows
structure Mod (K : PySem.W.Frag) (mg : Str -> Option Value) (base : Heap) : Prop where
 kin : K.In base
 glob : base.Ns mainGlobals mg
 blt : ∃ mb, base.Ns builtinsNs mb /\ ∀ x : Str, x ≠ "__name__" -> mb x = bootBuiltins x
 nolimit : base.NoLimit
structure Cx where
 prog : Program
 w : World
 K : PySem.W.Frag
 mg : Str -> Option Value
 base : Heap
 A : Around
 N : List Str
 s₀ : Shared
 H₀ : Hp
 env : Env
 outer : List Env
 stack : List Env
 ex : List Addr
 fn : Str -> Bool
 calm : Bool
 pn : List (Addr × Obj)
 xe : Value -> Shared -> Prop
def frs (l : List Env) : List Addr := l.filterMap (·.frame)
abbrev Cx.fs (X : Cx) : List Addr := frs X.outer
def Vis (sc : Scope) (x : Str) : Prop := sc.names.lookup x = some .local \/ sc.names.lookup x = some .cell \/ sc.names.lookup x = some .free
def Loc (sc : Scope) (x : Str) : Prop := sc.names.lookup x = some .local \/ sc.names.lookup x = some .cell
def Look (env : Env) (h : Heap) (m : Str -> Option Value) (x : Str) (u : Value) : Prop :=
 (env.kindOf x = some .local /\ m x = some u) \/ ((env.kindOf x = some .cell \/ env.kindOf x = some .free) /\ ∃ c, env.cells.lookup x = some c /\ h.IsCell c (some u))
structure Cx.Ok (X : Cx) : Prop where
 mod : Mod X.K X.mg X.base
 kind : X.env.scope.kind = .function
 glob : X.env.globals = mainGlobals
 blt : X.env.builtins = builtinsNs
 above : X.s₀.heap.objs.size <= X.env.locals
 inj : ∀ x y c, X.env.cells.lookup x = some c -> X.env.cells.lookup y = some c -> x = y
 has : ∀ x, (X.env.kindOf x = some .cell \/ X.env.kindOf x = some .free) -> ∃ c, X.env.cells.lookup x = some c
 cab : ∀ x c, X.fn x = true -> X.env.cells.lookup x = some c -> X.s₀.heap.objs.size <= c
 hd : X.calm = true -> X.A.handled = none
 frames : X.A.frames = some X.stack
 stk : X.stack = X.outer \/ (X.stack = X.env :: X.outer /\ X.env.frame = some X.env.locals)
 exf : ∀ b ∈ X.ex, b ≠ X.env.locals /\ ∀ x c, X.env.cells.lookup x = some c -> c ≠ b
 bs : ∀ b o, X.base.get? b = some o -> X.s₀.heap.get? b = some o /\ X.H₀ b = none
 bsz : X.base.objs.size <= X.s₀.heap.objs.size
 noex : ∀ b o, X.base.get? b = some o -> b ∉ X.ex
 exfs : ∀ b ∈ X.ex, b ∉ X.fs
 funs : X.s₀.heap.FunFrames X.base X.outer
 frf : ∀ b ∈ X.fs, X.H₀ b = none
structure Inv (X : Cx) (pins : List (Addr × Obj)) (σ : List (Option V)) (H : Hp) (s : Shared) : Prop where
 ok : X.Ok
 os : s.os = X.s₀.os
 bare : AllBare s.gens
 base : Un X.fs X.ex X.H₀ H X.s₀.heap s.heap
 loc : ∃ m, s.heap.Ns X.env.locals m /\ ∀ (i : Nat) (x : Str) (v : V), X.N[i]? = some x -> σ[i]? = some (some v) -> Vis X.env.scope x -> ∃ u, RelV v u /\ Look X.env s.heap m x u
 cell : ∀ x c, X.env.cells.lookup x = some c -> ∃ v, s.heap.IsCell c v
 free : H X.env.locals = none
 freeC : ∀ x c, X.env.cells.lookup x = some c -> H c = none
 pin : ∀ p ∈ X.pn ++ pins, s.heap.get? p.1 = some p.2 /\ H p.1 = none /\ p.1 ≠ X.env.locals /\ p.1 ∉ X.fs /\ ∀ v, p.2.data ≠ .cell v
 hok : HOk X.prog X.w H s.heap
 len : σ.length = X.N.length
section
variable {X : Cx} {pins : List (Addr × Obj)} {σ : List (Option V)} {H H' : Hp} {s : Shared} {h' : Heap}
theorem Cx.Ok.nofr (ok : X.Ok) {b : Addr} {o : Obj} (e : X.base.get? b = some o) : b ∉ X.fs := fun hb => by
 have := (ok.funs.mem hb).1
 rw [e] at this; cases this
theorem Inv.bs (I : Inv X pins σ H s) : ∀ b o, X.base.get? b = some o -> s.heap.get? b = some o /\ H b = none := fun b o e =>
 ⟨I.base.keep b o (I.ok.bs b o e).1 (I.ok.bs b o e).2 (I.ok.nofr e) (I.ok.noex b o e), I.base.free b o (I.ok.bs b o e).1 (I.ok.bs b o e).2 (I.ok.noex b o e)⟩
theorem Inv.bk (I : Inv X pins σ H s) : ∀ b o, X.base.get? b = some o -> s.heap.get? b = some o := fun b o e => (I.bs b o e).1
theorem Inv.mod (I : Inv X pins σ H s) : Mod X.K X.mg X.base := I.ok.mod
theorem Inv.kIn (I : Inv X pins σ H s) : X.K.In s.heap := I.ok.mod.kin.keeps I.bk
theorem Inv.nolimit (I : Inv X pins σ H s) : s.heap.NoLimit := I.ok.mod.nolimit.keeps I.bk
theorem Inv.lt (I : Inv X pins σ H s) : X.env.locals < s.heap.objs.size := let ⟨_, hn, _⟩ := I.loc; hn.lt
theorem Inv.sz (I : Inv X pins σ H s) : X.s₀.heap.objs.size <= s.heap.objs.size := Nat.le_trans I.ok.above (Nat.le_of_lt I.lt)
theorem Inv.nofs (I : Inv X pins σ H s) {a : Addr} (h : s.heap.objs.size <= a) : a ∉ X.fs := fun hb => by
 obtain ⟨_, o, ho, _⟩ := I.ok.funs.mem hb
 exact absurd (Nat.lt_of_lt_of_le (Heap.lt_size ho) (Nat.le_trans I.sz h)) (Nat.lt_irrefl _)
theorem Inv.cne (I : Inv X pins σ H s) : ∀ x c, X.env.cells.lookup x = some c -> c ≠ X.env.locals := fun x c e z => by
 obtain ⟨v, o, ho, hd⟩ := I.cell x c e
 obtain ⟨m, ⟨o', es, ep, ho', hd', _⟩, _⟩ := I.loc
 rw [z, ho'] at ho; cases ho; rw [hd'] at hd; cases hd
theorem Inv.funs (I : Inv X pins σ H s) : s.heap.FunFrames X.base X.outer := by
 have all : ∀ (l : List Env), (∀ b ∈ frs l, b ∈ X.fs) -> X.s₀.heap.FunFrames X.base l -> s.heap.FunFrames X.base l := by
  intro l
  induction l with
  | nil => intro _ _; trivial
  | cons env r ih =>
   intro hs hl
   obtain ⟨hk, ⟨L, o, hf, hn, ho, hd⟩, hr⟩ := hl
   have hL : L ∈ X.fs := hs L (by unfold frs; rw [List.filterMap_cons, hf]; exact List.mem_cons_self)
   obtain ⟨sl, e⟩ := I.base.slot L o ho (I.ok.frf L hL) hL fun z => I.ok.exfs L z hL
   exact ⟨hk, ⟨L, _, hf, hn, e, hd⟩, ih (fun b hb => hs b (by unfold frs; rw [List.filterMap_cons, hf]; exact List.mem_cons_of_mem _ hb)) hr⟩
 exact all X.outer (fun _ hb => hb) I.ok.funs
theorem Inv.stack (I : Inv X pins σ H s) : s.heap.FunFrames X.base X.stack := by
 rcases I.ok.stk with e | ⟨e, hf⟩
 ·rw [e]; exact I.funs
 ·rw [e]
  obtain ⟨m, hn, _⟩ := I.loc
  refine .cons (by rw [I.ok.kind]; decide) hf hn ?_ I.funs
  exact Heap.get?_none_of_le (Nat.le_trans I.ok.bsz I.ok.above)
theorem Inv.stkSub (I : Inv X pins σ H s) : ∀ b ∈ frs X.stack, b ∈ X.env.locals :: X.fs := fun b hb => by
 rcases I.ok.stk with e | ⟨e, hf⟩
 ·rw [e] at hb; exact List.mem_cons_of_mem _ hb
 ·rw [e] at hb
  unfold frs at hb
  rw [List.filterMap_cons, hf] at hb
  exact hb
theorem Inv.stkFree (I : Inv X pins σ H s) : ∀ b ∈ frs X.stack, H b = none := fun b hb => by
 rcases List.mem_cons.mp (I.stkSub b hb) with e | hb
 ·rw [e]; exact I.free
 ·obtain ⟨_, o, ho, _⟩ := I.ok.funs.mem hb
  exact I.base.free b o ho (I.ok.frf b hb) fun z => I.ok.exfs b z hb
theorem Inv.step {g' : Array GenState} {t' : Nat} {d' : Drawn} {ch : List Addr} (I : Inv X pins σ H s)
  (hch : ∀ b ∈ ch, (b ∈ X.ex \/ X.s₀.heap.objs.size <= b) /\ b ≠ X.env.locals /\ (∀ x c, X.env.cells.lookup x = some c -> c ≠ b) /\ ∀ p ∈ X.pn ++ pins, p.1 ≠ b)
  (keep : ∀ b o, b ≠ X.env.locals -> b ∉ X.fs -> b ∉ ch -> s.heap.get? b = some o -> H b = none -> h'.get? b = some o)
  (slot : ∀ b o, b ≠ X.env.locals -> b ∈ X.fs -> b ∉ ch -> s.heap.get? b = some o -> H b = none -> ∃ sl, h'.get? b = some { o with slots := sl }) (free : ∀ b o, b ∉ ch -> s.heap.get? b = some o -> H b = none -> H' b = none)
  (there : ∀ b o, b ∉ ch -> s.heap.get? b = some o -> ∃ o', h'.get? b = some o')
  (tups : ∀ b xs, H b = some (.tup xs) -> H' b = some (.tup xs)) (frzs : ∀ b o u, H b = some (.frz o u) -> H' b = some (.frz o u)) (tbls : ∀ b ps, H b = some (.tbl ps) -> ∃ more, H' b = some (.tbl (ps ++ more)))
  (ns : ∀ m, s.heap.Ns X.env.locals m -> h'.Ns X.env.locals m) (hok : HOk X.prog X.w H' h') (hg : AllBare g') :
  Inv X pins σ H' { s with heap := h', gens := g', drawn := d', toks := t' } := by
 have neL : ∀ b o, X.s₀.heap.get? b = some o -> b ≠ X.env.locals := fun b o e => Nat.ne_of_lt (Nat.lt_of_lt_of_le (Heap.lt_size e) I.ok.above)
 have neC : ∀ b o, X.s₀.heap.get? b = some o -> b ∉ X.ex -> b ∉ ch := fun b o e hx hb => by
  rcases (hch b hb).1 with z | z
  ·exact hx z
  ·exact absurd (Nat.lt_of_lt_of_le (Heap.lt_size e) z) (Nat.lt_irrefl _)
 have cellK : ∀ x c, X.env.cells.lookup x = some c -> ∀ v, s.heap.IsCell c v -> h'.IsCell c v := fun x c e v ⟨o, ho, hd⟩ => by
  have nch : c ∉ ch := fun z => (hch c z).2.2.1 x c e rfl
  by_cases hc : c ∈ X.fs
  ·obtain ⟨sl, q⟩ := slot c o (I.cne x c e) hc nch ho (I.freeC x c e)
   exact ⟨_, q, hd⟩
  ·exact ⟨o, keep c o (I.cne x c e) hc nch ho (I.freeC x c e), hd⟩
 refine ⟨I.ok, I.os, hg, ⟨fun b o e n hb hx => ?_, fun b o e n hb hx => ?_, fun b o e n hx => ?_, fun b o e hx => ?_, fun b xs e => tups b xs (I.base.tups b xs e), fun b o xs e => frzs b o xs (I.base.frzs b o xs e), fun b ps e => ?_⟩, ?_, fun x c e => ?_, ?_, fun x c e => ?_, fun p hp => ?_, hok, I.len⟩
 ·exact keep b o (neL b o e) hb (neC b o e hx) (I.base.keep b o e n hb hx) (I.base.free b o e n hx)
 ·obtain ⟨sl, e1⟩ := I.base.slot b o e n hb hx
  obtain ⟨sl', e2⟩ := slot b _ (neL b o e) hb (neC b o e hx) e1 (I.base.free b o e n hx)
  exact ⟨sl', e2⟩
 ·obtain ⟨o', e1⟩ := I.base.there b o e hx
  exact free b o' (neC b o e hx) e1 (I.base.free b o e n hx)
 ·obtain ⟨o', e1⟩ := I.base.there b o e hx
  exact there b o' (neC b o e hx) e1
 ·obtain ⟨m1, e1⟩ := I.base.tbls b ps e
  obtain ⟨m2, e2⟩ := tbls b _ e1
  exact ⟨m1 ++ m2, by rw [e2, Array.append_assoc]⟩
 ·obtain ⟨m, hn, hl⟩ := I.loc
  refine ⟨m, ns m hn, fun i x v e1 e2 e3 => ?_⟩
  obtain ⟨u, r, l⟩ := hl i x v e1 e2 e3
  refine ⟨u, r, ?_⟩
  rcases l with l | ⟨k, c, e, z⟩
  ·exact .inl l
  ·exact .inr ⟨k, c, e, cellK x c e _ z⟩
 ·obtain ⟨v, z⟩ := I.cell x c e
  exact ⟨v, cellK x c e v z⟩
 ·obtain ⟨m, ⟨o, _, _, ho, _⟩, _⟩ := I.loc
  exact free _ o (fun z => (hch _ z).2.1 rfl) ho I.free
 ·obtain ⟨v, o, ho, hd⟩ := I.cell x c e
  exact free c o (fun z => (hch c z).2.2.1 x c e rfl) ho (I.freeC x c e)
 ·obtain ⟨e, n, ne, nf, d⟩ := I.pin p hp
  have nch : p.1 ∉ ch := fun z => (hch p.1 z).2.2.2 p hp rfl
  exact ⟨keep p.1 p.2 ne nf nch e n, free p.1 p.2 nch e n, ne, nf, d⟩
theorem Inv.un {t' : Nat} (I : Inv X pins σ H s) (u : Un X.fs [] H H' s.heap h') (hok : HOk X.prog X.w H' h') : Inv X pins σ H' { s with heap := h', toks := t' } := by
 obtain ⟨m, ⟨o, es, ep, ho, r⟩, _⟩ := id I.loc
 obtain ⟨sl, hL⟩ := u.any ho I.free (by simp)
 exact I.step (g' := s.gens) (d' := s.drawn) (ch := []) (fun _ z => nomatch z) (fun b o _ hb _ e n => u.keep b o e n hb (by simp)) (fun b o _ hb _ e n => u.slot b o e n hb (by simp)) (fun b o _ e n => u.free b o e n (by simp)) (fun b o _ e => u.there b o e (by simp)) u.tups u.frzs u.tbls (fun m' hm => by
  obtain ⟨o', es', ep', ho', r'⟩ := hm
  rw [ho] at ho'; cases ho'
  exact ⟨_, es', ep', hL, r'⟩) hok I.bare
theorem Inv.call {g' : Array GenState} {t' : Nat} {d' : Drawn} {ch : List Addr} (I : Inv X pins σ H s) (u : Un (frs X.stack) ch H H' s.heap h') (hok : HOk X.prog X.w H' h') (hg : AllBare g')
  (hch : ∀ b ∈ ch, (b ∈ X.ex \/ X.s₀.heap.objs.size <= b) /\ b ≠ X.env.locals /\ (∀ x c, X.env.cells.lookup x = some c -> c ≠ b) /\ ∀ p ∈ X.pn ++ pins, p.1 ≠ b) :
  Inv X pins σ H' { s with heap := h', gens := g', drawn := d', toks := t' } := by
 obtain ⟨m, ⟨o, es, ep, ho, r⟩, _⟩ := id I.loc
 obtain ⟨sl, hL⟩ := u.any ho I.free fun z => (hch _ z).2.1 rfl
 exact I.step (ch := ch) hch (fun b o hL hb hc e n => u.keep b o e n (fun z => (List.mem_cons.mp (I.stkSub b z)).elim hL hb) hc) (fun b o _ _ hc e n => u.any e n hc) (fun b o hc e n => u.free b o e n hc) (fun b o hc e => u.there b o e hc) u.tups u.frzs u.tbls (fun m' hm => by
  obtain ⟨o', es', ep', ho', r'⟩ := hm
  rw [ho] at ho'; cases ho'
  exact ⟨_, es', ep', hL, r'⟩) hok hg
theorem Inv.turned {t' : Nat} {it : Addr} (I : Inv X pins σ H s) (k : ∀ b o, b ≠ it -> s.heap.get? b = some o -> h'.get? b = some o) (hn : H it = none) (hL : it ≠ X.env.locals)
  (h1 : it ∈ X.ex \/ X.s₀.heap.objs.size <= it) (h2 : ∀ x c, X.env.cells.lookup x = some c -> c ≠ it) (h3 : ∀ p ∈ X.pn ++ pins, p.1 ≠ it) : Inv X pins σ H { s with heap := h', toks := t' } := by
 have nit : ∀ b u, H b = some u -> b ≠ it := fun b u e z => by rw [z, hn] at e; cases e
 refine I.step (g' := s.gens) (d' := s.drawn) (ch := [it]) (fun b hb => ?_) (fun b o _ _ hc e _ => k b o (fun z => hc (by simp [z])) e) (fun b o _ _ hc e _ => ⟨o.slots, k b o (fun z => hc (by simp [z])) e⟩) (fun _ _ _ _ n => n)
  (fun b o hc e => ⟨o, k b o (fun z => hc (by simp [z])) e⟩) (fun _ _ e => e) (fun _ _ _ e => e) (fun b ps e => ⟨#[], by rw [e]; simp⟩) (fun m hm => ?_) (fun b u e => ?_) I.bare
 ·have e : b = it := by simpa using hb
  subst e
  exact ⟨h1, hL, h2, h3⟩
 ·obtain ⟨o, es, ep, ho, r⟩ := hm
  exact ⟨o, es, ep, k _ o (Ne.symm hL) ho, r⟩
 ·refine (I.hok b u e).stay (fun c v hc q => k c v ?_ q) (fun _ q => q) fun _ _ q => q
  rcases hc with z | z
  ·rw [z]; exact nit b u e
  ·exact nit c _ z
theorem Inv.tok (I : Inv X pins σ H s) (t : Nat) : Inv X pins σ H { s with toks := t } := I.un (h' := s.heap) (t' := t) Un.refl I.hok
theorem Inv.kept {t' : Nat} (I : Inv X pins σ H s) (k : ∀ b u, s.heap.get? b = some u -> h'.get? b = some u) : Inv X pins σ H { s with heap := h', toks := t' } := I.un (Un.kept k) (I.hok.kept k)
theorem Inv.laid {a : Addr} {o : HO} {t' : Nat} (I : Inv X pins σ H s) (k : ∀ b u, s.heap.get? b = some u -> h'.get? b = some u) (hp : s.heap.objs.size <= a) (new : ObjOk X.prog X.w (upd H a o) h' a o) :
  Inv X pins σ (upd H a o) { s with heap := h', toks := t' } := I.un (Un.laid k hp (I.hok.fresh hp)) (I.hok.laid k hp new)
theorem Inv.write {x e : Addr} {o : HO} {t' : Nat} (I : Inv X pins σ H s) (mu : Mut (H x)) (he : e = x \/ H e = some (.own x)) (k : ∀ b u, b ≠ e -> s.heap.get? b = some u -> h'.get? b = some u) (heo : ∃ u, h'.get? e = some u)
  (new : ObjOk X.prog X.w (upd H x o) h' x o) : Inv X pins σ (upd H x o) { s with heap := h', toks := t' } := I.un (Un.write mu he k heo) (I.hok.write mu he k heo new)
theorem Inv.pins_of {pins' : List (Addr × Obj)} (I : Inv X pins σ H s) (h : ∀ p ∈ pins', s.heap.get? p.1 = some p.2 /\ H p.1 = none /\ p.1 ≠ X.env.locals /\ p.1 ∉ X.fs /\ ∀ v, p.2.data ≠ .cell v) : Inv X pins' σ H s :=
 ⟨I.ok, I.os, I.bare, I.base, I.loc, I.cell, I.free, I.freeC, fun p hp => (List.mem_append.mp hp).elim (fun z => I.pin p (List.mem_append_left _ z)) (h p), I.hok, I.len⟩
theorem zA {N : List Str} (hN : N.Nodup) {i j : Nat} {x : Str} (a : N[i]? = some x) (b : N[j]? = some x) : i = j := by
 obtain ⟨h1, e1⟩ := List.getElem?_eq_some_iff.mp a
 obtain ⟨h2, e2⟩ := List.getElem?_eq_some_iff.mp b
 exact (List.getElem_inj hN).mp (e1.trans e2.symm)
theorem vZ {M : Model} {A : Around} {E : Value -> Shared -> Prop} {i : Nat} {x : Str} {v : V} {u : Value} {Q : Unit -> Shared -> Prop} (I : Inv X pins σ H s) (hN : X.N.Nodup) (hi : X.N[i]? = some x) (hx : Loc X.env.scope x) (r : RelV v u)
  (h : ∀ s', Inv X pins (σ.set i (some v)) H s' -> (∃ a, Heap.SameBut a s.heap s'.heap /\ (a = X.env.locals \/ X.env.cells.lookup x = some a)) -> Q () s') (hf : X.fn x = true \/ X.env.scope.names.lookup x = some .local := by first | exact .inl rfl | exact .inr rfl | assumption) : wpAny M A (storeName X.env x u) Q E s := by
 obtain ⟨m, hn, hl⟩ := id I.loc
 have hcls : (X.env.scope.kind == .class || (X.env.scope.kind == .module && X.env.locals != X.env.globals)) = false := by rw [I.ok.kind]; rfl
 have hiσ : i < σ.length := by rw [I.len]; exact (List.getElem?_eq_some_iff.mp hi).1
 have cne := I.cne
 have tracked : ∀ {a : Addr} {h' : Heap}, (∃ o, s.heap.get? a = some o /\ H a = none) -> Heap.SameBut a s.heap h' -> HOk X.prog X.w H h' := fun {a h'} ha hs b ob e => by
  obtain ⟨_, _, hfree⟩ := ha
  refine (I.hok b ob e).stay (fun c w' hc q => (hs.2 c ?_).trans q) (fun _ q => q) fun _ _ q => q
  rintro rfl
  rcases hc with rfl | hc
  ·rw [hfree] at e; cases e
  ·rw [hfree] at hc; cases hc
 rcases hx with hk | hk
 ·refine wpAny_storeName_local hk hn (fun h' hn' hs => ?_) hcls
  obtain ⟨oL, _, _, hoL, _⟩ := id hn
  refine h _ ⟨I.ok, I.os, I.bare, ⟨fun b o e n hb hx => ?_, fun b o e n hb hx => ?_, I.base.free, fun b o e hx => ?_, I.base.tups, I.base.frzs, I.base.tbls⟩, ⟨_, hn', fun j y v' e1 e2 e3 => ?_⟩, fun y c e => ?_, I.free, I.freeC, fun p hp => ?_, tracked ⟨oL, hoL, I.free⟩ hs, by simpa using I.len⟩ ⟨_, hs, .inl rfl⟩
  ·exact (hs.2 b (Nat.ne_of_lt (Nat.lt_of_lt_of_le (Heap.lt_size e) I.ok.above))).trans (I.base.keep b o e n hb hx)
  ·obtain ⟨sl, e1⟩ := I.base.slot b o e n hb hx
   exact ⟨sl, (hs.2 b (Nat.ne_of_lt (Nat.lt_of_lt_of_le (Heap.lt_size e) I.ok.above))).trans e1⟩
  ·obtain ⟨o', e1⟩ := I.base.there b o e hx
   exact ⟨o', (hs.2 b (Nat.ne_of_lt (Nat.lt_of_lt_of_le (Heap.lt_size e) I.ok.above))).trans e1⟩
  ·by_cases hj : j = i
   ·subst hj
    rw [hi] at e1; cases e1
    rw [List.getElem?_set_self hiσ] at e2
    cases e2
    exact ⟨u, r, .inl ⟨hk, by simp⟩⟩
   ·rw [List.getElem?_set_ne (Ne.symm hj)] at e2
    obtain ⟨u', r', q⟩ := hl j y v' e1 e2 e3
    refine ⟨u', r', ?_⟩
    rcases q with ⟨k, e⟩ | ⟨k, c, e, z⟩
    ·refine .inl ⟨k, ?_⟩
     have : y ≠ x := fun e => hj (zA hN e1 (e ▸ hi))
     simp [this, e]
    ·exact .inr ⟨k, c, e, z.sameBut hs (cne y c e)⟩
  ·obtain ⟨w', z⟩ := I.cell y c e
   exact ⟨w', z.sameBut hs (cne y c e)⟩
  ·obtain ⟨e, n, ne, nf, d⟩ := I.pin p hp
   exact ⟨(hs.2 p.1 ne).trans e, n, ne, nf, d⟩
 ·have hfn : X.fn x = true := by
   rcases hf with z | z
   ·exact z
   ·rw [z] at hk; cases hk
  obtain ⟨c, hc⟩ := I.ok.has x (.inl hk)
  obtain ⟨w', z⟩ := I.cell x c hc
  refine wpAny_storeName_cell I.ok.kind hk hc z (fun h' hc' hs => ?_)
  obtain ⟨oc, hoc, hocd⟩ := id z
  refine h { s with heap := h' } ⟨I.ok, I.os, I.bare, ⟨fun b o e n hb hx => ?_, fun b o e n hb hx => ?_, I.base.free, fun b o e hx => ?_, I.base.tups, I.base.frzs, I.base.tbls⟩, ⟨m, hn.sameBut hs (Ne.symm (cne x c hc)), fun j y v' e1 e2 e3 => ?_⟩, fun y c' e => ?_, I.free, I.freeC, fun p hp => ?_, tracked ⟨oc, hoc, I.freeC x c hc⟩ hs, by simpa using I.len⟩ ⟨c, hs, .inr hc⟩
  ·exact (hs.2 b (Nat.ne_of_lt (Nat.lt_of_lt_of_le (Heap.lt_size e) (I.ok.cab x c hfn hc)))).trans (I.base.keep b o e n hb hx)
  ·obtain ⟨sl, e1⟩ := I.base.slot b o e n hb hx
   exact ⟨sl, (hs.2 b (Nat.ne_of_lt (Nat.lt_of_lt_of_le (Heap.lt_size e) (I.ok.cab x c hfn hc)))).trans e1⟩
  ·obtain ⟨o', e1⟩ := I.base.there b o e hx
   exact ⟨o', (hs.2 b (Nat.ne_of_lt (Nat.lt_of_lt_of_le (Heap.lt_size e) (I.ok.cab x c hfn hc)))).trans e1⟩
  ·by_cases hj : j = i
   ·subst hj
    rw [hi] at e1; cases e1
    rw [List.getElem?_set_self hiσ] at e2
    cases e2
    exact ⟨u, r, .inr ⟨.inl hk, c, hc, hc'⟩⟩
   ·rw [List.getElem?_set_ne (Ne.symm hj)] at e2
    obtain ⟨u', r', q⟩ := hl j y v' e1 e2 e3
    refine ⟨u', r', ?_⟩
    rcases q with q | ⟨k, c', e, z'⟩
    ·exact .inl q
    ·refine .inr ⟨k, c', e, z'.sameBut hs ?_⟩
     rintro rfl
     exact hj (zA hN e1 (I.ok.inj _ _ _ e hc ▸ hi))
  ·by_cases hcc : c' = c
   ·subst hcc; exact ⟨_, hc'⟩
   ·obtain ⟨w2, z2⟩ := I.cell y c' e
    exact ⟨w2, z2.sameBut hs hcc⟩
  ·obtain ⟨e, n, ne, nf, d⟩ := I.pin p hp
   refine ⟨(hs.2 p.1 ?_).trans e, n, ne, nf, d⟩
   intro q
   rw [q, hoc] at e
   have q' : oc = p.2 := Option.some.inj e
   exact d w' (by rw [<- q']; exact hocd)
theorem nZ {M : Model} {A : Around} {E : Value -> Shared -> Prop} {i : Nat} {x : Str} {v : V} {u : Value} {Q : Unit -> Shared -> Prop} (I : Inv X pins σ H s) (hN : X.N.Nodup) (hi : X.N[i]? = some x) (hx : Loc X.env.scope x) (r : RelV v u)
  (h : ∀ s', Inv X pins (σ.set i (some v)) H s' -> Q () s') (hf : X.fn x = true \/ X.env.scope.names.lookup x = some .local := by first | exact .inl rfl | exact .inr rfl | assumption) : wpAny M A (storeName X.env x u) Q E s :=
 vZ I hN hi hx r (fun s' I' _ => h s' I') hf
theorem Inv.call' {s' : Shared} {ch : List Addr} (I : Inv X pins σ H s) (ho : s'.os = s.os) (u : Un (frs X.stack) ch H H' s.heap s'.heap) (hok : HOk X.prog X.w H' s'.heap) (hg : AllBare s'.gens)
  (hch : ∀ b ∈ ch, (b ∈ X.ex \/ X.s₀.heap.objs.size <= b) /\ b ≠ X.env.locals /\ (∀ x c, X.env.cells.lookup x = some c -> c ≠ b) /\ ∀ p ∈ X.pn ++ pins, p.1 ≠ b) : Inv X pins σ H' s' := by
 obtain ⟨h', g', d', t', o'⟩ := s'
 have e : o' = s.os := ho
 subst e
 exact I.call (g' := g') (t' := t') (d' := d') u hok hg hch
end
abbrev XK := Value -> Option Addr -> Hp -> Prop
abbrev St := List (Option V)
abbrev VK := V -> Hp -> Prop
abbrev TE := St -> Hp -> VK -> Prop
abbrev TT := St -> Hp -> (Bool -> Hp -> Prop) -> Prop
abbrev TA := St -> Hp -> (List V -> Hp -> Prop) -> Prop
structure Ends where
 nx : St -> Hp -> Prop
 rt : VK
 bk : St -> Hp -> Prop := fun _ _ => False
 ct : St -> Hp -> Prop := fun _ _ => False
abbrev TS := Ends -> St -> Hp -> Prop
def EP (X : Cx) (pins : List (Addr × Obj)) (σ : St) (Q : VK) (u : Value) (s' : Shared) : Prop := ∃ v H', Inv X pins σ H' s' /\ RelV v u /\ Q v H'
def TP (X : Cx) (pins : List (Addr × Obj)) (σ : St) (Q : Bool -> Hp -> Prop) (b : Bool) (s' : Shared) : Prop := ∃ H', Inv X pins σ H' s' /\ Q b H'
def AP (X : Cx) (pins : List (Addr × Obj)) (σ : St) (Q : List V -> Hp -> Prop) (us : List Value) (s' : Shared) : Prop := ∃ vs H', Inv X pins σ H' s' /\ Vals vs us /\ Q vs H'
def SP (X : Cx) (pins : List (Addr × Obj)) (D : Ends) (f : Flow) (s' : Shared) : Prop :=
 match f with
 | .next => ∃ σ' H', Inv X pins σ' H' s' /\ D.nx σ' H'
 | .brk => ∃ σ' H', Inv X pins σ' H' s' /\ D.bk σ' H'
 | .cont => ∃ σ' H', Inv X pins σ' H' s' /\ D.ct σ' H'
 | .ret u => ∃ v σ' H', Inv X pins σ' H' s' /\ RelV v u /\ D.rt v H'
def PE (X : Cx) (e : Expr) (t : TE) : Prop :=
 ∀ (pins : List (Addr × Obj)) (s : Shared) (σ : St) (H : Hp) (Q : VK), Inv X pins σ H s -> t σ H Q -> wpAny (model X.prog X.w) X.A (eval e X.env) (EP X pins σ Q) X.xe s
def PT (X : Cx) (e : Expr) (t : TT) : Prop :=
 ∀ (pins : List (Addr × Obj)) (s : Shared) (σ : St) (H : Hp) (Q : Bool -> Hp -> Prop), Inv X pins σ H s -> t σ H Q -> wpAny (model X.prog X.w) X.A (isTrue e X.env (eval e X.env)) (TP X pins σ Q) X.xe s
def PW (X : Cx) (e : Expr) (t : TT) : Prop :=
 ∀ (whole : Sem Value) (pins : List (Addr × Obj)) (s : Shared) (σ : St) (H : Hp) (Q : Bool -> Hp -> Prop), Inv X pins σ H s -> t σ H Q -> wpAny (model X.prog X.w) X.A (isTrue e X.env whole) (TP X pins σ Q) X.xe s
theorem PW.pt {X : Cx} {e : Expr} {t : TT} (h : PW X e t) : PT X e t := h _
def PA (X : Cx) (es : List Expr) (t : TA) : Prop :=
 ∀ (pos : Pos) (pins : List (Addr × Obj)) (s : Shared) (σ : St) (H : Hp) (Q : List V -> Hp -> Prop), Inv X pins σ H s -> t σ H Q -> wpAny (model X.prog X.w) X.A (spliced (backTo pos (starEach es X.env))) (AP X pins σ Q) X.xe s
def PS (X : Cx) (st : Stmt) (t : TS) : Prop :=
 ∀ (pins : List (Addr × Obj)) (s : Shared) (σ : St) (H : Hp) (D : Ends), Inv X pins σ H s -> t D σ H -> wpAny (model X.prog X.w) X.A (exec st X.env) (SP X pins D) X.xe s
def PSs (X : Cx) (st : List Stmt) (t : TS) : Prop :=
 ∀ (pins : List (Addr × Obj)) (s : Shared) (σ : St) (H : Hp) (D : Ends), Inv X pins σ H s -> t D σ H -> wpAny (model X.prog X.w) X.A (execs st X.env) (SP X pins D) X.xe s
theorem thn {α : Type} {t : Sem α} {Q Q' : α -> Shared -> Prop} {M : Model} {A : Around} {E : Value -> Shared -> Prop} {s : Shared} (h : wpAny M A t Q E s) (hQ : ∀ a s, Q a s -> Q' a s) : wpAny M A t Q' E s := wpAny_mono h hQ fun _ _ x => x
end L2
namespace L2
open PySem PySem.Spec PyProof.Rows
section
variable {X : Cx}
def Im (i : Nat) : TE := fun σ H Q => ∃ v, σ[i]? = some (some v) /\ Q v H
def tC (v : V) : TE := fun _ H Q => Q v H
theorem Jt {i : Nat} {x : Str} {pos : Pos} (hN : X.N[i]? = some x) (hv : Vis X.env.scope x) (hd : (x == ("__debug__" : Str)) = false := by decide) (hcd : (x == ("__classdict__" : Str)) = false := by decide) : PE X (.Name x pos) (Im i) := by
 intro pins s σ H Q I h
 obtain ⟨v, e, h⟩ := h
 obtain ⟨m, hn, hl⟩ := I.loc
 obtain ⟨u, r, l⟩ := hl i x v hN e hv
 have fin : EP X pins σ Q u s := ⟨v, H, I, r, h⟩
 rcases l with ⟨hk, hm⟩ | ⟨hk, c, hc, hcell⟩
 ·exact wpAny_Name (wpAny_loadName_local I.ok.kind hk hn hm fin) hd
 ·rcases hk with hk | hk
  ·exact wpAny_Name (wpAny_loadName_cell I.ok.kind hk hc hcell fin) hd
  ·exact wpAny_Name (wpAny_loadName_free I.ok.kind hk hc hcell fin hcd) hd
theorem aA {i j pos} : PE X (.Constant (.int i) j pos) (tC (.int i)) := fun _ _ _ H _ I h => wpAny_Constant_int ⟨.int i, H, I.tok _, ⟨_, rfl⟩, h⟩
theorem bQ {b j pos} : PE X (.Constant (.bool b) j pos) (tC (.bl b)) := fun _ _ _ H _ I h => Constant_bool ⟨.bl b, H, I, rfl, h⟩
theorem pG {j pos} : PE X (.Constant .none j pos) (tC .non) := fun _ _ _ H _ I h => Constant_none ⟨.non, H, I, rfl, h⟩
def Gl (X : Cx) (x : Str) : Prop := X.env.kindOf x = some .globalImplicit
theorem uV {E : Value -> Shared -> Prop} {pins : List (Addr × Obj)} {s : Shared} {σ : St} {H : Hp} {x : Str} {u : Value} {pos : Pos} {Q : Value -> Shared -> Prop} (I : Inv X pins σ H s) (hg : Gl X x) (hm : X.mg x = some u) (h : Q u s)
  (hd : (x == ("__debug__" : Str)) = false := by decide) : wpAny (model X.prog X.w) X.A (eval (.Name x pos) X.env) Q E s :=
 Calls.Name_function_global I.ok.kind hg (Calls.loadGlobal_global (by rw [I.ok.glob]; exact I.mod.glob.keeps I.bk) hm h) hd
theorem lY {E : Value -> Shared -> Prop} {pins : List (Addr × Obj)} {s : Shared} {σ : St} {H : Hp} {x : Str} {u : Value} {pos : Pos} {Q : Value -> Shared -> Prop} (I : Inv X pins σ H s) (hg : Gl X x) (hm : X.mg x = none) (hv : bootBuiltins x = some u) (h : Q u s)
  (hn : x ≠ "__name__" := by decide) (hd : (x == ("__debug__" : Str)) = false := by decide) : wpAny (model X.prog X.w) X.A (eval (.Name x pos) X.env) Q E s := by
 obtain ⟨mb, h1, h2⟩ := I.mod.blt
 exact Calls.Name_function_global I.ok.kind hg (Calls.loadGlobal_builtin (by rw [I.ok.glob]; exact I.mod.glob.keeps I.bk) hm (by rw [I.ok.blt]; exact h1.keeps I.bk) ((h2 x hn).trans hv) h) hd
theorem Hm {x : Str} {v : V} {u : Value} {pos : Pos} (hg : Gl X x) (hm : X.mg x = some u) (r : RelV v u) (hd : (x == ("__debug__" : Str)) = false := by decide) : PE X (.Name x pos) (tC v) :=
 fun _ _ _ H _ I h => uV I hg hm ⟨v, H, I, r, h⟩ hd
theorem dU {x : Str} {v : V} {u : Value} {pos : Pos} (hg : Gl X x) (hm : X.mg x = none) (hv : bootBuiltins x = some u) (r : RelV v u) (hn : x ≠ "__name__" := by decide) (hd : (x == ("__debug__" : Str)) = false := by decide) : PE X (.Name x pos) (tC v) :=
 fun _ _ _ H _ I h => lY I hg hm hv ⟨v, H, I, r, h⟩ hn hd
def t2I (ta tb : TE) (k : Int -> Int -> Hp -> Prop) : St -> Hp -> Prop := fun σ H => ta σ H fun x H1 => tb σ H1 fun y H2 => ∃ i j, x = .int i /\ y = .int j /\ k i j H2
def Ml (ta tb : TE) : TE := fun σ H Q => t2I ta tb (fun i j H2 => Q (.int (i + j)) H2) σ H
def LK (ta tb : TE) : TE := fun σ H Q => t2I ta tb (fun i j H2 => Q (.int (i - j)) H2) σ H
def LC (ta tb : TE) : TE := fun σ H Q => t2I ta tb (fun i j H2 => (-(2 ^ 64) < i /\ i < 2 ^ 64) /\ Q (.int (i * j)) H2) σ H
variable {a b : Expr} {ta tb : TE} {pos : Pos}
def PC (X : Cx) (op : CmpOp) (a b : Expr) (t : TE) : Prop :=
 ∀ (pins : List (Addr × Obj)) (s : Shared) (σ : St) (H : Hp) (Q : VK), Inv X pins σ H s -> t σ H Q ->
  wpAny (model X.prog X.w) X.A (eval a X.env) (fun v s₁ => wpAny (model X.prog X.w) X.A (eval b X.env) (fun u s₂ => wpAny (model X.prog X.w) X.A (compareOp op v u) (EP X pins σ Q) X.xe s₂) X.xe s₁) X.xe s
def uz (p : Int -> Int -> Bool) (ta tb : TE) : TE := fun σ H Q => t2I ta tb (fun i j H2 => Q (.bl (p i j)) H2) σ H
abbrev tLt : TE -> TE -> TE := uz fun i j => decide (i < j)
abbrev tLe : TE -> TE -> TE := uz fun i j => decide (i <= j)
abbrev tGt : TE -> TE -> TE := uz fun i j => decide (j < i)
abbrev tGe : TE -> TE -> TE := uz fun i j => decide (j <= i)
abbrev LR : TE -> TE -> TE := uz fun i j => decide (i = j)
abbrev Lr : TE -> TE -> TE := uz fun i j => !decide (i = j)
def Ma (ta : TE) : TE := fun σ H Q => ta σ H fun x H1 => Q (.bl (decide (x = .non))) H1
def Lk (ta : TE) : TE := fun σ H Q => ta σ H fun x H1 => Q (.bl (!decide (x = .non))) H1
def tB (t : TE) : TT := fun σ H Q => t σ H fun x H1 => ∃ c, x = .bl c /\ Q c H1
theorem bA {e : Expr} {t : TE} (h : PE X e t) (he : ∀ whole, isTrue e X.env whole = (do let v <- whole; standAt e.pos; holding [v] (truthy v)) := by intro _; rfl) : PT X e (tB t) := by
 intro pins s σ H Q I hw
 refine isTrue_plain (thn (h pins s σ H _ I hw) fun v s1 ⟨x, H1, I1, r1, q1⟩ => ?_) (he _)
 obtain ⟨d, rfl, q⟩ := q1
 cases r1
 exact wpAny_truthy_bool ⟨H1, I1, q⟩
variable {tA tB' : TT} {rest : List Expr}
def Kz (t u : TT) : TT := fun σ H Q => t σ H fun c H1 => if c = true then u σ H1 Q else Q false H1
def tOr (t u : TT) : TT := fun σ H Q => t σ H fun c H1 => if c = true then Q true H1 else u σ H1 Q
def KH (t : TT) : TT := fun σ H Q => t σ H fun c H1 => Q (!c) H1
theorem mG (ha : PT X a tA) : PW X (.BoolOp .And [a] pos) tA := by
 intro wh pins s σ H Q I h
 refine isTrue_and (thn (ha pins s σ H Q I h) fun c s1 e => ?_)
 cases c with
 | true => exact isTrue_and_nil e
 | false => exact e
theorem cH (ha : PT X a tA) : PW X (.BoolOp .Or [a] pos) tA := by
 intro wh pins s σ H Q I h
 refine isTrue_or (thn (ha pins s σ H Q I h) fun c s1 e => ?_)
 cases c with
 | false => exact isTrue_or_nil e
 | true => exact e
theorem oU (ha : PT X a tA) (hb : PW X (.BoolOp .And (b :: rest) pos) tB') : PW X (.BoolOp .And (a :: b :: rest) pos) (Kz tA tB') := by
 intro wh pins s σ H Q I h
 refine isTrue_and (thn (ha pins s σ H _ I h) fun c s1 ⟨H1, I1, q1⟩ => ?_)
 cases c with
 | true => exact hb wh pins s1 σ H1 Q I1 q1
 | false => exact ⟨H1, I1, q1⟩
theorem cR (ha : PT X a tA) (hb : PW X (.BoolOp .Or (b :: rest) pos) tB') : PW X (.BoolOp .Or (a :: b :: rest) pos) (tOr tA tB') := by
 intro wh pins s σ H Q I h
 refine isTrue_or (thn (ha pins s σ H _ I h) fun c s1 ⟨H1, I1, q1⟩ => ?_)
 cases c with
 | true => exact ⟨H1, I1, q1⟩
 | false => exact hb wh pins s1 σ H1 Q I1 q1
theorem bJ (ha : PT X a tA) : PT X (.UnaryOp .Not a pos) (KH tA) := by
 intro pins s σ H Q I h
 exact isTrue_not (ha pins s σ H (fun c H1 => Q (!c) H1) I h)
def J5 (ta tb : TE) : TE := fun σ H Q => ta σ H fun x H1 => ∃ c, x = .bl c /\ if c = true then tb σ H1 Q else Q (.bl false) H1
def KY (ta tb : TE) : TE := fun σ H Q => ta σ H fun x H1 => ∃ c, x = .bl c /\ if c = true then Q (.bl true) H1 else tb σ H1 Q
def JT (ta : TE) : TE := fun σ H Q => ta σ H fun x H1 => ∃ c, x = .bl c /\ Q (.bl (!c)) H1
theorem gR {op} {t : TE} (h : PE X a t) : PE X (.BoolOp op [a] pos) t := fun pins s σ H Q I hw => BoolOp_one (h pins s σ H Q I hw)
theorem jo (ha : PE X a ta) (hb : PE X (.BoolOp .And (b :: rest) pos) tb) : PE X (.BoolOp .And (a :: b :: rest) pos) (J5 ta tb) := by
 intro pins s σ H Q I h
 refine BoolOp_and (thn (ha pins s σ H _ I h) fun v s1 ⟨x, H1, I1, r1, q1⟩ => ?_)
 obtain ⟨c, rfl, q1⟩ := q1
 cases r1
 refine wpAny_truthy_bool ?_
 cases c with
 | true => exact hb pins s1 σ H1 Q I1 q1
 | false => exact ⟨.bl false, H1, I1, rfl, q1⟩
theorem J0 (ha : PE X a ta) (hb : PE X (.BoolOp .Or (b :: rest) pos) tb) : PE X (.BoolOp .Or (a :: b :: rest) pos) (KY ta tb) := by
 intro pins s σ H Q I h
 refine BoolOp_or (thn (ha pins s σ H _ I h) fun v s1 ⟨x, H1, I1, r1, q1⟩ => ?_)
 obtain ⟨c, rfl, q1⟩ := q1
 cases r1
 refine wpAny_truthy_bool ?_
 cases c with
 | false => exact hb pins s1 σ H1 Q I1 q1
 | true => exact ⟨.bl true, H1, I1, rfl, q1⟩
theorem lW (ha : PE X a ta) : PE X (.UnaryOp .Not a pos) (JT ta) := by
 intro pins s σ H Q I h
 refine UnaryOp_ (thn (ha pins s σ H _ I h) fun v s1 ⟨x, H1, I1, r1, q1⟩ => ?_)
 obtain ⟨c, rfl, q1⟩ := q1
 cases r1
 exact not_of (wpAny_truthy_bool ⟨.bl (!c), H1, I1, rfl, q1⟩)
def tIf (t : TT) (ta tb : TE) : TE := fun σ H Q => t σ H fun c H1 => if c = true then ta σ H1 Q else tb σ H1 Q
theorem Fy {c : Expr} (hc : PT X c tA) (ha : PE X a ta) (hb : PE X b tb) : PE X (.IfExp c a b pos) (tIf tA ta tb) := by
 intro pins s σ H Q I h
 refine wpAny_IfExp (thn (hc pins s σ H _ I h) fun d s1 ⟨H1, I1, q1⟩ => ?_)
 cases d with
 | true => exact ha pins s1 σ H1 Q I1 q1
 | false => exact hb pins s1 σ H1 Q I1 q1
end
end L2
namespace L2
open PySem PySem.Spec PyProof.Rows
def SqL (K : PySem.W.Frag) (H : Hp) (a : Addr) (xs : List V) : Prop :=
 Rd H a (.lst xs) \/
  ∃ (o : Obj) (its : Array Value) (n : Nat), K.lookup a = some o /\ o.cls = .type "list" /\ o.dict = none /\ o.data = .seq its n /\ its.size <= sizeLine /\ Vals xs its.toList
def SqT (K : PySem.W.Frag) (H : Hp) (a : Addr) (xs : List V) : Prop :=
 Rd H a (.tup xs) \/
  ∃ (o : Obj) (its : Array Value) (n : Nat), K.lookup a = some o /\ o.cls = .type "tuple" /\ o.data = .seq its n /\ its.size <= sizeLine /\ Vals xs its.toList
def K9 : Value -> Option V
 | .none => some .non
 | .bool b => some (.bl b)
 | .int i _ => some (.int i)
 | .str x _ => some (.str x)
 | .bytes b _ => some (.byt b)
 | .float b _ => some (.flt b)
 | .ref a => some (.ref a)
 | .type n => some (.ty n)
 | _ => none
theorem RelV.abs {x : V} {u : Value} (r : RelV x u) : K9 u = some x := by
 cases x with
 | non => cases r; rfl
 | bl _ => cases r; rfl
 | int _ => obtain ⟨t, rfl⟩ := r; rfl
 | str _ => obtain ⟨t, rfl⟩ := r; rfl
 | byt _ => obtain ⟨t, rfl⟩ := r; rfl
 | flt _ => obtain ⟨t, rfl⟩ := r; rfl
 | ref _ => cases r; rfl
 | ty _ => cases r; rfl
theorem RelV.inj {x y : V} {u : Value} (r : RelV x u) (q : RelV y u) : x = y := Option.some.inj (r.abs.symm.trans q.abs)
theorem Vals.inj : ∀ {xs ys : List V} {us : List Value}, Vals xs us -> Vals ys us -> xs = ys
 | _, _, _, .nil, .nil => rfl
 | _, _, _, .cons r t, .cons r' t' => by rw [r.inj r', Vals.inj t t']
section
variable {X : Cx} {pins : List (Addr × Obj)} {σ : St} {H : Hp} {s : Shared} {a : Addr} {xs ys : List V}
theorem SqL.of {K : PySem.W.Frag} (h : H a = some (.lst xs)) : SqL K H a xs := .inl (.inl h)
theorem SqT.of {K : PySem.W.Frag} (h : H a = some (.tup xs)) : SqT K H a xs := .inl (.inl h)
theorem Inv.list (I : Inv X pins σ H s) (h : SqL X.K H a xs) : ∃ its : List Value, Vals xs its /\ PlainL s.heap a its.toArray /\ xs.length <= sizeLine := by
 rcases h with h | ⟨o, its, n, hk, hc, hd, hs, hz, r⟩
 ·obtain ⟨z, its, n, r, e⟩ := h.ok I.hok
  exact ⟨its, r, ⟨_, n, e, rfl, rfl, rfl⟩, z⟩
 ·refine ⟨its.toList, r, ⟨o, n, I.kIn a o hk, hc, hd, by simpa using hs⟩, ?_⟩
  have e := r.length
  simp only [Array.length_toList] at e
  omega
theorem Inv.tuple (I : Inv X pins σ H s) (h : SqT X.K H a xs) : ∃ its : List Value, Vals xs its /\ IsTup s.heap a its.toArray /\ xs.length <= sizeLine := by
 rcases h with h | ⟨o, its, n, hk, hc, hs, hz, r⟩
 ·obtain ⟨z, its, r, p⟩ := h.ok I.hok
  exact ⟨its, r, p, z⟩
 ·refine ⟨its.toList, r, ⟨o, I.kIn a o hk, hc, n, by simpa using hs⟩, ?_⟩
  have e := r.length
  simp only [Array.length_toList] at e
  omega
theorem Inv.list_inj (I : Inv X pins σ H s) (h : SqL X.K H a xs) (h' : SqL X.K H a ys) : xs = ys := by
 obtain ⟨its, r, ⟨o, n, e, _, _, d⟩, _⟩ := I.list h
 obtain ⟨its', r', ⟨o', n', e', _, _, d'⟩, _⟩ := I.list h'
 rw [e] at e'; cases e'
 rw [d] at d'
 injection d' with d1 _
 have : its = its' := by simpa using congrArg Array.toList d1
 subst this
 exact r.inj r'
theorem Inv.tuple_inj (I : Inv X pins σ H s) (h : SqT X.K H a xs) (h' : SqT X.K H a ys) : xs = ys := by
 obtain ⟨its, r, ⟨o, e, _, n, d⟩, _⟩ := I.tuple h
 obtain ⟨its', r', ⟨o', e', _, n', d'⟩, _⟩ := I.tuple h'
 rw [e] at e'; cases e'
 rw [d] at d'
 injection d' with d1 _
 have : its = its' := by simpa using congrArg Array.toList d1
 subst this
 exact r.inj r'
end
abbrev Cx.wish (X : Cx) (E : Value -> Shared -> Prop) : Cx := { X with xe := E }
abbrev Cx.nox (X : Cx) : Cx := X.wish fun _ _ => False
theorem Cx.Ok.wish {X : Cx} (ok : X.Ok) (E : Value -> Shared -> Prop) : (X.wish E).Ok :=
 ⟨ok.mod, ok.kind, ok.glob, ok.blt, ok.above, ok.inj, ok.has, ok.cab, ok.hd, ok.frames, ok.stk, ok.exf, ok.bs, ok.bsz, ok.noex, ok.exfs, ok.funs, ok.frf⟩
theorem Cx.Ok.unwish {X : Cx} {E : Value -> Shared -> Prop} (ok : (X.wish E).Ok) : X.Ok :=
 ⟨ok.mod, ok.kind, ok.glob, ok.blt, ok.above, ok.inj, ok.has, ok.cab, ok.hd, ok.frames, ok.stk, ok.exf, ok.bs, ok.bsz, ok.noex, ok.exfs, ok.funs, ok.frf⟩
section
variable {X : Cx} {pins : List (Addr × Obj)} {σ : St} {H : Hp} {s : Shared} {E : Value -> Shared -> Prop}
theorem Inv.wish (I : Inv X pins σ H s) (E : Value -> Shared -> Prop) : Inv (X.wish E) pins σ H s := ⟨I.ok.wish E, I.os, I.bare, I.base, I.loc, I.cell, I.free, I.freeC, I.pin, I.hok, I.len⟩
theorem Inv.unwish (I : Inv (X.wish E) pins σ H s) : Inv X pins σ H s := ⟨I.ok.unwish, I.os, I.bare, I.base, I.loc, I.cell, I.free, I.freeC, I.pin, I.hok, I.len⟩
theorem SP.unwish {D : Ends} {f : Flow} {s' : Shared} (h : SP (X.wish E) pins D f s') : SP X pins D f s' := by
 cases f with
 | next => obtain ⟨σ', H', I, q⟩ := h; exact ⟨σ', H', I.unwish, q⟩
 | brk => obtain ⟨σ', H', I, q⟩ := h; exact ⟨σ', H', I.unwish, q⟩
 | cont => obtain ⟨σ', H', I, q⟩ := h; exact ⟨σ', H', I.unwish, q⟩
 | ret u => obtain ⟨v, σ', H', I, r, q⟩ := h; exact ⟨v, σ', H', I.unwish, r, q⟩
theorem PE.nox {e : Expr} {t : TE} (h : PE X.nox e t) : PE X e t := fun pins s σ H Q I hw =>
 wpAny_mono (h pins s σ H Q (I.wish _) hw) (fun _ _ ⟨v, H', I', r, q⟩ => ⟨v, H', I'.unwish, r, q⟩) fun _ _ z => False.elim z
theorem PT.nox {e : Expr} {t : TT} (h : PT X.nox e t) : PT X e t := fun pins s σ H Q I hw =>
 wpAny_mono (h pins s σ H Q (I.wish _) hw) (fun _ _ ⟨H', I', q⟩ => ⟨H', I'.unwish, q⟩) fun _ _ z => False.elim z
theorem PSs.nox {st : List Stmt} {t : TS} (h : PSs X.nox st t) : PSs X st t := fun pins s σ H D I hw =>
 wpAny_mono (h pins s σ H D (I.wish _) hw) (fun _ _ q => q.unwish) fun _ _ z => False.elim z
end
section
variable {X : Cx} {st : Stmt} {rest : List Stmt} {t u : TS} {e : Expr} {te : TE} {pos : Pos}
def J_ : TS := fun D σ H => D.nx σ H
def Iw (t u : TS) : TS := fun D σ H => t { D with nx := u D } σ H
theorem aZ : PSs X [] J_ := fun _ _ σ H _ I h => wpAny_execs_nil ⟨σ, H, I, h⟩
theorem aB (h1 : PS X st t) (h2 : PSs X rest u) : PSs X (st :: rest) (Iw t u) := by
 intro pins s σ H D I h
 refine wpAny_execs_cons (thn (h1 pins s σ H { D with nx := u D } I h) fun f s1 q => ?_)
 cases f with
 | next =>
  obtain ⟨σ', H', I', q⟩ := q
  exact h2 pins s1 σ' H' D I' q
 | ret v => exact q
 | brk => exact q
 | cont => exact q
theorem aC (h1 : PS X st t) : PSs X [st] t := by
 intro pins s σ H D I h
 refine wpAny_execs_cons (thn (h1 pins s σ H D I h) fun f s1 q => ?_)
 cases f with
 | next => exact wpAny_execs_nil q
 | ret v => exact q
 | brk => exact q
 | cont => exact q
def Lf : TS := fun D σ H => D.bk σ H
def Lh : TS := fun D σ H => D.ct σ H
theorem Inv.quiet {pins : List (Addr × Obj)} {σ : St} {H : Hp} {s : Shared} (I : Inv X pins σ H s) : interactive X.env = false := by simp [interactive, I.ok.kind]
def JZ (te : TE) : TS := fun D σ H => te σ H fun _ H1 => D.nx σ H1
theorem cN (he : PE X e te) (hs : swapsWith e none pos.line X.env = pure false := by rfl) : PS X (.Expr e pos) (JZ te) := by
 intro pins s σ H D I h
 exact wpAny_Expr_any (thn (he pins s σ H _ I h) fun v s1 ⟨x, H1, I1, r1, q1⟩ => ⟨σ, H1, I1, q1⟩) I.quiet hs
def K3 (te : TE) : TS := fun D σ H => te σ H D.rt
theorem aM (he : PE X e te) : PS X (.Return (some e) pos) (K3 te) := by
 intro pins s σ H D I h
 exact wpAny_Return_some (thn (he pins s σ H _ I h) fun v s1 ⟨x, H1, I1, r1, q1⟩ => ⟨x, σ, H1, I1, r1, q1⟩)
def Lj : TS := fun D _ H => D.rt .non H
def Kq (c : TT) (t u : TS) : TS := fun D σ H => c σ H fun b H1 => if b = true then t D σ H1 else u D σ H1
theorem bu {c : Expr} {a b : List Stmt} {tc : TT} (hc : PT X c tc) (ha : PSs X a t) (hb : PSs X b u) : PS X (.If c a b pos) (Kq tc t u) := by
 intro pins s σ H D I h
 refine wpAny_If (thn (hc pins s σ H _ I h) fun d s1 ⟨H1, I1, q1⟩ => ?_)
 cases d with
 | true => exact ha pins s1 σ H1 D I1 q1
 | false => exact hb pins s1 σ H1 D I1 q1
def Je : TS := fun _ _ _ => False
theorem xT : PS X st Je := fun _ _ _ _ _ _ h => h.elim
end
abbrev TG := V -> St -> Hp -> (St -> Hp -> Prop) -> Prop
abbrev TGs := List V -> St -> Hp -> (St -> Hp -> Prop) -> Prop
def PG (X : Cx) (target : Expr) (t : TG) : Prop :=
 ∀ (pins : List (Addr × Obj)) (s : Shared) (σ : St) (H : Hp) (v : V) (u : Value) (Q : St -> Hp -> Prop), Inv X pins σ H s -> RelV v u -> t v σ H Q ->
  wpAny (model X.prog X.w) X.A (assign target X.env u) (fun _ s' => ∃ σ' H', Inv X pins σ' H' s' /\ Q σ' H') X.xe s
def PGs (X : Cx) (ts : List Expr) (t : TGs) : Prop :=
 ∀ (pins : List (Addr × Obj)) (s : Shared) (σ : St) (H : Hp) (vs : List V) (us : List Value) (Q : St -> Hp -> Prop), Inv X pins σ H s -> Vals vs us -> t vs σ H Q ->
  wpAny (model X.prog X.w) X.A (assignInOrder ((assignEach ts X.env).map (·.2)) us) (fun _ s' => ∃ σ' H', Inv X pins σ' H' s' /\ Q σ' H') X.xe s
abbrev xQ := V -> V -> V -> Hp -> (Hp -> Prop) -> Prop
def Fi (X : Cx) (t : xQ) : Prop :=
 ∀ (pins : List (Addr × Obj)) (s : Shared) (σ : St) (H : Hp) (o i v : V) (ov iv u : Value) (Q : Hp -> Prop), Inv X pins σ H s -> RelV o ov -> RelV i iv -> RelV v u -> t o i v H Q ->
  wpAny (model X.prog X.w) X.A (setItem ov iv u) (fun _ s' => ∃ H', Inv X pins σ H' s' /\ Q H') X.xe s
abbrev TIp := V -> V -> Hp -> VK -> Prop
def PIp (X : Cx) (op : Operator) (t : TIp) : Prop :=
 ∀ (pins : List (Addr × Obj)) (s : Shared) (σ : St) (H : Hp) (x y : V) (v u : Value) (Q : VK), Inv X pins σ H s -> RelV x v -> RelV y u -> t x y H Q ->
  wpAny (model X.prog X.w) X.A (inplaceOp op v u) (EP X pins σ Q) X.xe s
section
variable {X : Cx} {pos : Pos}
def fW (i : Nat) : TG := fun v σ H Q => Q (σ.set i (some v)) H
theorem aP {i : Nat} {x : Str} (hN : X.N.Nodup) (hi : X.N[i]? = some x) (hx : Loc X.env.scope x) (hf : X.fn x = true \/ X.env.scope.names.lookup x = some .local := by first | exact .inl rfl | exact .inr rfl | assumption) : PG X (.Name x pos) (fW i) := by
 intro pins s σ H v u Q I r h
 exact wpAny_assign_Name (nZ I hN hi hx r (fun s' I' => ⟨_, H, I', h⟩) hf)
def K5 : TGs := fun vs σ H Q => vs = [] /\ Q σ H
def Kc (t : TG) (u : TGs) : TGs := fun vs σ H Q => ∃ v r, vs = v :: r /\ t v σ H fun σ' H' => u r σ' H' Q
theorem dY : PGs X [] K5 := by
 intro pins s σ H vs us Q I r h
 obtain ⟨e, h⟩ := h
 subst e
 cases r
 exact assignInOrder_nil ⟨σ, H, I, h⟩
theorem bC {e : Expr} {es : List Expr} {t : TG} {u : TGs} (h1 : PG X e t) (h2 : PGs X es u)
  (hs : (assignEach (e :: es) X.env).map (·.2) = assign e X.env :: (assignEach es X.env).map (·.2) := by rfl) : PGs X (e :: es) (Kc t u) := by
 intro pins s σ H vs us Q I r h
 obtain ⟨v, vr, e1, h⟩ := h
 subst e1
 cases r with
 | cons r rr =>
  rw [hs]
  refine assignInOrder_cons (thn (h1 pins s σ H _ _ _ I r h) fun _ s1 ⟨σ1, H1, I1, q1⟩ => ?_)
  exact h2 pins s1 σ1 H1 _ _ Q I1 rr q1
def IK (K : PySem.W.Frag) (n : Nat) (t : TGs) : TG := fun v σ H Q => ∃ a xs, v = .ref a /\ SqT K H a xs /\ xs.length = n /\ t xs σ H Q
theorem Jv {es : List Expr} {k : Nat} {t : TGs} {n : Nat} (hc : X.calm = true) (h : PGs X es t)
  (hn : (assignEach es X.env).length = n := by rfl) (hst : (assignEach es X.env).findIdx? (·.1) = none := by rfl) : PG X (.Tuple es k pos) (IK X.K n t) := by
 intro pins s σ H v u Q I r hw
 obtain ⟨a, xs, e1, hq, hl, hw⟩ := hw
 subst e1
 cases r
 obtain ⟨its, rv, ht, hz⟩ := I.tuple hq
 refine assign_Tuple_tuple (I.ok.hd hc) ht (by simp [hn, <- hl, rv.length]) hst fun h' hx => ?_
 have I1 : Inv X pins σ H { s with heap := h' } := I.kept (t' := s.toks) fun b o e => hx b o (Nat.ne_of_lt (Heap.lt_size e)) e
 exact h pins _ σ H xs _ Q I1 (by simpa using rv) hw
def K1 (to ti : TE) (t : xQ) : TG := fun v σ H Q => to σ H fun o H1 => ti σ H1 fun i H2 => t o i v H2 fun H3 => Q σ H3
theorem zB {o i : Expr} {to ti : TE} {t : xQ} (ho : PE X o to) (hi : PE X i ti) (hs : Fi X t)
  (ha : ∀ v, assign (.Subscript o i pos) X.env v = (do
   let ov <- holding [v] (eval o X.env)
   let iv <- holding [v, ov] (eval i X.env)
   standAt pos
   holding [v, ov, iv] (setItem ov iv v)
   release [v, ov, iv] []) := by intro _; rfl) : PG X (.Subscript o i pos) (K1 to ti t) := by
 intro pins s σ H v u Q I r h
 rw [ha]
 refine wpAny_bind (wpAny_holding (thn (ho pins s σ H _ I h) fun ov s1 ⟨x, H1, I1, r1, q1⟩ => ?_))
 refine wpAny_bind (wpAny_holding (thn (hi pins s1 σ H1 _ I1 q1) fun iv s2 ⟨y, H2, I2, r2, q2⟩ => ?_))
 refine wpAny_bind (wpAny_standAt (wpAny_bind (wpAny_holding (thn (hs pins s2 σ H2 x y v ov iv u _ I2 r1 r2 r q2) fun _ s3 ⟨H3, I3, q3⟩ => ?_))))
 exact wpAny_release ⟨σ, H3, I3, q3⟩
def Gw (te : TE) (g : TG) : TS := fun D σ H => te σ H fun x H1 => g x σ H1 D.nx
theorem tX {tg e : Expr} {te : TE} {g : TG} (he : PE X e te) (hg : PG X tg g) (hs : swapsWithSole [tg] e pos.line X.env = pure false := by rfl) (hw : swappedStores [tg] e X.env = pure none := by rfl)
  (h1 : (assignEach [tg] X.env).map (·.2) = [assign tg X.env] := by rfl) : PS X (.Assign [tg] e pos) (Gw te g) := by
 intro pins s σ H D I h
 refine wpAny_Assign_stores (thn (he pins s σ H _ I h) fun v s1 ⟨x, H1, I1, r1, q1⟩ => ?_) hs hw
 rw [h1]
 exact thn (hg pins s1 σ H1 x v _ I1 r1 q1) fun _ s2 q => q
theorem aY {i : Nat} {x : Str} {e : Expr} {te : TE} {pos' : Pos} (hN : X.N.Nodup) (hi : X.N[i]? = some x) (hx : Loc X.env.scope x) (he : PE X e te) (hs : swapsWith e (some (.Name x pos')) pos.line X.env = pure false := by rfl) (hf : X.fn x = true \/ X.env.scope.names.lookup x = some .local := by first | exact .inl rfl | exact .inr rfl | assumption) :
  PS X (.Assign [.Name x pos'] e pos) (Gw te (fW i)) := by
 intro pins s σ H D I h
 refine wpAny_Assign_Name (thn (he pins s σ H _ I h) fun v s1 ⟨y, H1, I1, r1, q1⟩ => ?_) hs
 exact nZ I1 hN hi hx r1 (fun s2 I2 => ⟨_, H1, I2, q1⟩) hf
def Ku (i j : Nat) (ta : TA) : TS := fun D σ H => ta σ H fun vs H1 => ∃ v w, vs = [v, w] /\ D.nx ((σ.set i (some v)).set j (some w)) H1
theorem tQ {i j : Nat} {x y : Str} {a b : Expr} {ta : TA} {px py pt : Pos} {kt k2 pt2} (hc : X.calm = true) (hN : X.N.Nodup) (hi : X.N[i]? = some x) (hj : X.N[j]? = some y) (hij : i ≠ j)
  (hx : X.env.scope.names.lookup x = some .local) (hy : X.env.scope.names.lookup y = some .local) (ha : PA X [a, b] ta)
  (hw : swappedStores [.Tuple [.Name x px, .Name y py] kt pt] (.Tuple [a, b] k2 pt2) X.env = pure (some [x, y]))
  (hs : swapsWithSole [.Tuple [.Name x px, .Name y py] kt pt] (.Tuple [a, b] k2 pt2) pos.line X.env = pure false := by rfl) :
  PS X (.Assign [.Tuple [.Name x px, .Name y py] kt pt] (.Tuple [a, b] k2 pt2) pos) (Ku i j ta) := by
 intro pins s σ H D I h
 rw [exec_Assign_arm]
 refine wpAny_bind (wpAny_standAt ?_)
 rw [hs]
 refine wpAny_bind (wpAny_pure ?_)
 rw [if_neg (by decide)]
 refine wpAny_bind (Tuple_ (thn (ha _ pins s σ H _ I h) fun us s1 ⟨vs, H1, I1, r1, q1⟩ => ?_))
 obtain ⟨v, w, e1, q1⟩ := q1
 subst e1
 obtain ⟨u1, u2, rfl, rv, rw'⟩ : ∃ u1 u2, us = [u1, u2] /\ RelV v u1 /\ RelV w u2 := by
  cases r1 with
  | cons p q =>
   cases q with
   | cons p' q' =>
    cases q'
    exact ⟨_, _, rfl, p, p'⟩
 refine wpAny_newObj_type ?_ (by show 2 <= sizeLine; decide)
 have I2 : Inv X pins σ H1 { s1 with heap := s1.heap.push { cls := .type "tuple", data := .seq [u1, u2].toArray } } := I1.kept (t' := s1.toks) fun b o e => Heap.get?_push_of_some _ e
 rw [hw]
 refine wpAny_bind (wpAny_pure ?_)
 show wpAny (model X.prog X.w) X.A (do rule "assign.swapped-stores"; let items <- unpackItems (.ref s1.heap.objs.size) 2 none; assignInOrder [fun v => bindName X.env y v, fun v => bindName X.env x v] items.reverse; pure Flow.next) _ _ _
 refine wpAny_bind (wpAny_rule (wpAny_bind (unpackItems_tuple (items := #[u1, u2]) (I.ok.hd hc) (IsTup.new s1.heap _) fun h' hx' => ?_)))
 have I3 := I2.kept (h' := h') (t' := s1.toks) fun b o e => hx' b o (Nat.ne_of_lt (Heap.lt_size e)) e
 show wpAny _ _ (assignInOrder [fun v => bindName X.env y v, fun v => bindName X.env x v] [u2, u1] >>= fun _ => pure Flow.next) _ _ _
 refine wpAny_bind (assignInOrder_cons (wpAny_bindName (nZ I3 hN hj (.inl hy) rw' (fun s2 I4 => ?_) (.inr hy))))
 refine assignInOrder_cons (wpAny_bindName (nZ I4 hN hi (.inl hx) rv (fun s3 I5 => assignInOrder_nil (wpAny_pure ?_)) (.inr hx)))
 rw [List.set_comm _ _ (Ne.symm hij)] at I5
 exact ⟨_, H1, I5, q1⟩
def Mi (i : Nat) (te : TE) (ti : TIp) : TS := fun D σ H => ∃ x, σ[i]? = some (some x) /\ te σ H fun y H1 => ti x y H1 fun z H2 => D.nx (σ.set i (some z)) H2
def J3 (to ti te : TE) (tget : V -> V -> Hp -> VK -> Prop) (tip : TIp) (tset : xQ) : TS := fun D σ H => to σ H fun o H1 => ti σ H1 fun i H2 => tget o i H2 fun x H3 => te σ H3 fun y H4 => tip x y H4 fun z H5 => tset o i z H5 fun H6 => D.nx σ H6
def FQ (X : Cx) (t : V -> V -> Hp -> VK -> Prop) : Prop :=
 ∀ (pins : List (Addr × Obj)) (s : Shared) (σ : St) (H : Hp) (o i : V) (ov iv : Value) (Q : VK), Inv X pins σ H s -> RelV o ov -> RelV i iv -> t o i H Q ->
  wpAny (model X.prog X.w) X.A (getItem ov iv) (EP X pins σ Q) X.xe s
theorem HS {o i e : Expr} {to ti te : TE} {tget : V -> V -> Hp -> VK -> Prop} {tip : TIp} {tset : xQ} {op : Operator} {tpos : Pos} (ho : PE X o to) (hi : PE X i ti) (hg : FQ X tget) (he : PE X e te) (hp : PIp X op tip) (hs : Fi X tset)
  (ha : ∀ ov iv new, augStore i ov iv new = (do holding [new, ov, iv] (setItem ov iv new); release [new, ov, iv] []; pure .next) := by intros; rfl) : PS X (.AugAssign (.Subscript o i tpos) op e pos) (J3 to ti te tget tip tset) := by
 intro pins s σ H D I h
 refine wpAny_AugAssign_SubscriptAny (thn (ho pins s σ H _ I h) fun ov s1 ⟨x1, H1, I1, r1, q1⟩ => ?_) ha
 refine thn (hi pins s1 σ H1 _ I1 q1) fun iv s2 ⟨x2, H2, I2, r2, q2⟩ => ?_
 refine thn (hg pins s2 σ H2 x1 x2 ov iv _ I2 r1 r2 q2) fun old s3 ⟨x3, H3, I3, r3, q3⟩ => ?_
 refine thn (he pins s3 σ H3 _ I3 q3) fun v s4 ⟨x4, H4, I4, r4, q4⟩ => ?_
 refine thn (hp pins s4 σ H4 x3 x4 old v _ I4 r3 r4 q4) fun new s5 ⟨x5, H5, I5, r5, q5⟩ => ?_
 exact thn (hs pins s5 σ H5 x1 x2 x5 ov iv new _ I5 r1 r2 r5 q5) fun _ s6 ⟨H6, I6, q6⟩ => ⟨σ, H6, I6, q6⟩
def ipI (f : Int -> Int -> Int) : TIp := fun x y H Q => ∃ i j, x = .int i /\ y = .int j /\ Q (.int (f i j)) H
theorem Jp : PIp X .Add (ipI fun i j => i + j) := by
 intro pins s σ H x y v u Q I r1 r2 h
 obtain ⟨i, j, e1, e2, q⟩ := h
 subst e1; subst e2
 obtain ⟨t, rfl⟩ := r1
 obtain ⟨t', rfl⟩ := r2
 exact iadd_int ⟨.int _, H, I.tok _, ⟨_, rfl⟩, q⟩
end
section
variable {X : Cx} {pos : Pos}
def IV (c : TT) (tb : TS) : TS := fun D σ H => ∃ W : Nat -> St -> Hp -> Prop, (∃ m, W m σ H) /\ ∀ m σ H, W m σ H ->
 c σ H fun b H1 => if b = true then ∃ N : St -> Hp -> Prop, (∀ σ' H', N σ' H' -> ∃ m', m' < m /\ W m' σ' H') /\ tb { D with nx := N, ct := N, bk := D.nx } σ H1 else D.nx σ H1
theorem yf {c : Expr} {body : List Stmt} {tc : TT} {tb : TS} (hp : PassesOwn (model X.prog X.w) X.A X.env X.xe) (hc : PT X c tc) (hb : PSs X body tb) : PS X (.While c body [] pos) (IV tc tb) := by
 intro pins s σ H D I h
 obtain ⟨W, ⟨m0, w0⟩, turn⟩ := h
 refine wpAny_While (codeAny_whileLoop (fun n s' => ∃ σ' H', Inv X pins σ' H' s' /\ W n σ' H') ?_ m0 ⟨σ, H, I, w0⟩)
 rintro n s1 ⟨σ1, H1, I1, w1⟩
 refine wpAny_passesOwn hp (thn (hc pins s1 σ1 H1 _ I1 (turn n σ1 H1 w1)) fun b s2 ⟨H2, I2, q2⟩ => ?_)
 cases b with
 | true =>
  obtain ⟨N, hN, q2⟩ := q2
  rw [if_pos rfl]
  refine wpAny_passesOwn hp (thn (hb pins s2 σ1 H2 _ I2 q2) fun f s3 q3 => ?_)
  cases f with
  | next =>
   obtain ⟨σ3, H3, I3, n3⟩ := q3
   obtain ⟨m', hm, w3⟩ := hN σ3 H3 n3
   exact ⟨m', hm, σ3, H3, I3, w3⟩
  | cont =>
   obtain ⟨σ3, H3, I3, n3⟩ := q3
   obtain ⟨m', hm, w3⟩ := hN σ3 H3 n3
   exact ⟨m', hm, σ3, H3, I3, w3⟩
  | brk => exact q3
  | ret v => exact q3
 | false =>
  rw [if_neg Bool.false_ne_true]
  exact wpAny_execs_nil ⟨σ1, H2, I2, q2⟩
end
structure It where
 go : Nat -> Hp -> Prop
 yld : Nat -> Hp -> V -> Hp -> Prop
 stop : Nat -> Hp -> Prop
def gC (X : Cx) (pins : List (Addr × Obj)) (H : Hp) (b : Addr) : Prop :=
 H b = none /\ b ≠ X.env.locals /\ b ∉ X.fs /\ (b ∈ X.ex \/ X.s₀.heap.objs.size <= b) /\ (∀ x c, X.env.cells.lookup x = some c -> c ≠ b) /\ ∀ p ∈ X.pn ++ pins, p.1 ≠ b
theorem Inv.fpOk {X : Cx} {pins : List (Addr × Obj)} {σ : St} {H H' : Hp} {s : Shared} {b : Addr} (I : Inv X pins σ H s) (hb : s.heap.objs.size <= b) (hn : H' b = none) : gC X pins H' b := by
 refine ⟨hn, Nat.ne_of_gt (Nat.lt_of_lt_of_le I.lt hb), I.nofs hb, .inr (Nat.le_trans I.sz hb), fun x c e z => ?_, fun p hp z => ?_⟩
 ·obtain ⟨v, q⟩ := I.cell x c e
  exact absurd (Nat.lt_of_lt_of_le q.lt (by rw [z]; exact hb)) (Nat.lt_irrefl _)
 ·exact absurd (Nat.lt_of_lt_of_le (Heap.lt_size (I.pin p hp).1) (by rw [z]; exact hb)) (Nat.lt_irrefl _)
structure Turn (P : Program) (w : World) (K : PySem.W.Frag) (tg : Expr) (J : It) (fp : List Addr) (it : Addr) (tn : Nat -> Heap -> Prop) : Prop where
 mem : it ∈ fp
 obj : ∀ i h, tn i h -> ∀ b ∈ fp, ∃ o, h.get? b = some o /\ ∀ v, o.data ≠ .cell v
 keep : ∀ i h h', tn i h -> (∀ b ∈ fp, ∀ o, h.get? b = some o -> h'.get? b = some o) -> tn i h'
 item : ∀ (X : Cx), X.prog = P -> X.w = w -> X.K = K -> X.calm = true -> ∀ (i : Nat) (pins : List (Addr × Obj)) (s : Shared) (σ : St) (H : Hp) (E : Value -> Shared -> Prop), Inv X pins σ H s -> (∀ b ∈ fp, gC X pins H b) -> tn i s.heap -> J.go i H ->
  wpAny (model P w) X.A (pyNext (.ref it)) (fun r s1 => ∃ u, r = some u /\
   wpAny (model P w) X.A (letOwnedTupleGo tg (.ref it) u) (fun _ s2 => ∃ x H', Inv X pins σ H' s2 /\ RelV x u /\ J.yld i H x H' /\ tn (i + 1) s2.heap /\ ∀ b ∈ fp, H' b = none) E s1) E s
 done : ∀ (X : Cx), X.prog = P -> X.w = w -> X.K = K -> X.calm = true -> ∀ (i : Nat) (pins : List (Addr × Obj)) (s : Shared) (σ : St) (H : Hp) (E : Value -> Shared -> Prop), Inv X pins σ H s -> (∀ b ∈ fp, gC X pins H b) -> tn i s.heap -> J.stop i H ->
  wpAny (model P w) X.A (pyNext (.ref it)) (fun r s1 => r = none /\ Inv X pins σ H s1) E s
 self : ∀ (A : Around) (i : Nat) (s : Shared) (Q : Value -> Shared -> Prop) (E : Value -> Shared -> Prop), tn i s.heap -> Q (.ref it) s -> wpAny (model P w) A (pyIter (.ref it)) Q E s
abbrev TI := St -> Hp -> (It -> Hp -> Prop) -> Prop
def PIE (X : Cx) (pins : List (Addr × Obj)) (σ : St) (tg : Expr) (R : It -> Hp -> Prop) (itv : Value) (s2 : Shared) : Prop :=
 ∃ (it : Addr) (fp : List Addr) (tn : Nat -> Heap -> Prop) (J : It) (H' : Hp), itv = .ref it /\ Inv X pins σ H' s2 /\ Turn X.prog X.w X.K tg J fp it tn /\ tn 0 s2.heap /\ (∀ b ∈ fp, gC X pins H' b) /\ R J H'
def PI (X : Cx) (tg iter : Expr) (wi : TI) : Prop :=
 ∀ (pins : List (Addr × Obj)) (s : Shared) (σ : St) (H : Hp) (R : It -> Hp -> Prop), Inv X pins σ H s -> wi σ H R ->
  wpAny (model X.prog X.w) X.A (eval iter X.env) (fun v s1 => wpAny (model X.prog X.w) X.A (pyIter v) (PIE X pins σ tg R) X.xe s1) X.xe s
theorem BJ {M : Model} {A : Around} {E : Value -> Shared -> Prop} {s : Shared} {tg : Expr} {it : Addr} {u : Value} {o : Obj} {n : String} {vs : Array Value} {Q : Unit -> Shared -> Prop} (ho : s.heap.get? it = some o) (hc : o.cls = .type n) (hd : o.data = .fields vs)
    (hn : ["enumerate", "zip", "dict_itemiterator", "dict_reverseitemiterator", "odict_iterator", "itertools.zip_longest", "itertools.pairwise"].contains n = false) (hQ : Q () s) : wpAny M A (letOwnedTupleGo tg (.ref it) u) Q E s := by
  unfold letOwnedTupleGo
  cases tg <;> first
    | exact wpAny_pure hQ
    | (cases u <;> first
        | exact wpAny_pure hQ
        | (refine wpAny_bind (wpAny_load ho ?_)
           rw [hc, hd]
           show wpAny M A (if (["enumerate", "zip", "dict_itemiterator", "dict_reverseitemiterator", "odict_iterator", "itertools.zip_longest", "itertools.pairwise"].contains n && vs[0]? == some (rawInt _)) = true then _ else _) Q E s
           rw [if_neg (by intro h; rw [hn, Bool.false_and] at h; cases h)]
           exact wpAny_pure hQ))
def Itl (K : PySem.W.Frag) (a : Addr) : It :=
 ⟨fun i H => ∃ xs x, SqL K H a xs /\ xs[i]? = some x, fun i H x H' => H' = H /\ ∀ xs, SqL K H a xs -> xs[i]? = some x, fun i H => ∃ xs, SqL K H a xs /\ xs.length <= i⟩
def Itt (K : PySem.W.Frag) (a : Addr) : It :=
 ⟨fun i H => ∃ xs x, SqT K H a xs /\ xs[i]? = some x, fun i H x H' => H' = H /\ ∀ xs, SqT K H a xs -> xs[i]? = some x, fun i H => ∃ xs, SqT K H a xs /\ xs.length <= i⟩
def Itr (lo : Int) (n : Nat) : It := ⟨fun i _ => i < n, fun i H x H' => H' = H /\ x = .int (lo + i), fun i _ => n <= i⟩
theorem CP {P : Program} {w : World} {K : PySem.W.Frag} {tg : Expr} (a it : Addr) : Turn P w K tg (Itl K a) [it] it (fun i h => h.IsListIter it a i) where
 mem := by simp
 obj := fun i h st b hb => by
  have e : b = it := by simpa using hb
  subst e
  obtain ⟨o, e, c, d⟩ := st
  exact ⟨o, e, fun v z => by rw [d] at z; cases z⟩
 keep := fun i h h' st k => st.at fun o e => k it (by simp) o e
 item := by
  intro X hP hw hK hc i pins s σ H E I hf st hg
  subst hP hw hK
  obtain ⟨xs, x, hq, hx⟩ := hg
  obtain ⟨its, rv, p, hz⟩ := I.list hq
  obtain ⟨u, hu, ru⟩ := rv.get hx
  obtain ⟨f0, f1, f2, f3, f4, f5⟩ := hf it (by simp)
  refine wpAny_pyNext_list_item st p.isList (x := u) (by simpa using hu) fun h' st' sb => ?_
  have I1 : Inv X pins σ H { s with heap := h' } := I.turned (t' := s.toks) (fun b o hb e => (sb.2 b hb).trans e) f0 f1 f3 f4 f5
  obtain ⟨o, e, c, d⟩ := id st'
  exact ⟨u, rfl, BJ (s := { s with heap := h' }) e c d (by decide) ⟨x, H, I1, ru, ⟨rfl, fun ys hy => by rw [I.list_inj hy hq]; exact hx⟩, st', fun b hb => (hf b hb).1⟩⟩
 done := by
  intro X hP hw hK hc i pins s σ H E I hf st hg
  subst hP hw hK
  obtain ⟨xs, hq, hx⟩ := hg
  obtain ⟨its, rv, p, hz⟩ := I.list hq
  obtain ⟨f0, f1, f2, f3, f4, f5⟩ := hf it (by simp)
  have hl := rv.length
  exact wpAny_pyNext_list_end (I.ok.hd hc) st p.isList (by simp; omega) fun h' eb => ⟨rfl, I.turned (t' := s.toks) (fun b o hb e => eb b o hb e) f0 f1 f3 f4 f5⟩
 self := fun _ _ _ _ _ st h => wpAny_pyIter_listiter st h
theorem BZ {P : Program} {w : World} {K : PySem.W.Frag} {tg : Expr} (a it : Addr) : Turn P w K tg (Itt K a) [it] it (fun i h => h.IsTupleIter it a i) where
 mem := by simp
 obj := fun i h st b hb => by
  have e : b = it := by simpa using hb
  subst e
  obtain ⟨o, e, c, d⟩ := st
  exact ⟨o, e, fun v z => by rw [d] at z; cases z⟩
 keep := fun i h h' st k => st.at fun o e => k it (by simp) o e
 item := by
  intro X hP hw hK hc i pins s σ H E I hf st hg
  subst hP hw hK
  obtain ⟨xs, x, hq, hx⟩ := hg
  obtain ⟨its, rv, p, hz⟩ := I.tuple hq
  obtain ⟨u, hu, ru⟩ := rv.get hx
  obtain ⟨f0, f1, f2, f3, f4, f5⟩ := hf it (by simp)
  refine wpAny_pyNext_tuple_item st (show s.heap.IsTuple a its.toArray from p) (x := u) (by simpa using hu) fun h' st' sb => ?_
  have I1 : Inv X pins σ H { s with heap := h' } := I.turned (t' := s.toks) (fun b o hb e => (sb.2 b hb).trans e) f0 f1 f3 f4 f5
  obtain ⟨o, e, c, d⟩ := id st'
  exact ⟨u, rfl, BJ (s := { s with heap := h' }) e c d (by decide) ⟨x, H, I1, ru, ⟨rfl, fun ys hy => by rw [I.tuple_inj hy hq]; exact hx⟩, st', fun b hb => (hf b hb).1⟩⟩
 done := by
  intro X hP hw hK hc i pins s σ H E I hf st hg
  subst hP hw hK
  obtain ⟨xs, hq, hx⟩ := hg
  obtain ⟨its, rv, p, hz⟩ := I.tuple hq
  obtain ⟨f0, f1, f2, f3, f4, f5⟩ := hf it (by simp)
  have hl := rv.length
  exact wpAny_pyNext_tuple_end (I.ok.hd hc) st (show s.heap.IsTuple a its.toArray from p) (by simp; omega) fun h' eb => ⟨rfl, I.turned (t' := s.toks) (fun b o hb e => eb b o hb e) f0 f1 f3 f4 f5⟩
 self := fun _ _ _ _ _ st h => wpAny_pyIter_tupleiter st h
theorem CG {P : Program} {w : World} {K : PySem.W.Frag} {tg : Expr} (it : Addr) (lo : Int) (n : Nat) : Turn P w K tg (Itr lo n) [it] it (fun i h => IsRangeIter h it (lo + (i : Nat) * 1) ((n : Int) - (i : Nat)) 1) where
 mem := by simp
 obj := fun i h st b hb => by
  have e : b = it := by simpa using hb
  subst e
  exact ⟨_, st, fun v z => by
   have z' : Data.fields _ = Data.cell v := z
   cases z'⟩
 keep := fun i h h' st k => k it (by simp) _ st
 item := by
  intro X hP hw hK hc i pins s σ H E I hf st hg
  subst hP hw hK
  obtain ⟨f0, f1, f2, f3, f4, f5⟩ := hf it (by simp)
  have W := Walks.range (prog := X.prog) (w := X.w) (I.ok.hd hc) it lo 1 n
  refine W.item i s _ _ hg st fun v h' tk hv st' kk => ?_
  obtain ⟨t, rfl⟩ := hv
  have I1 : Inv X pins σ H { s with heap := h', toks := tk } := I.turned (fun b o hb e => kk b o (by simpa using hb) e) f0 f1 f3 f4 f5
  refine ⟨_, rfl, BJ (s := { s with heap := h', toks := tk }) (n := "range_iterator") st' rfl rfl (by decide) ⟨.int (lo + i), H, I1, ⟨t, ?_⟩, ⟨rfl, rfl⟩, st', fun b hb => (hf b hb).1⟩⟩
  rw [Int.mul_one]
 done := by
  intro X hP hw hK hc i pins s σ H E I hf st hg
  subst hP hw hK
  obtain ⟨f0, f1, f2, f3, f4, f5⟩ := hf it (by simp)
  exact wpAny_pyNext_range_end (I.ok.hd hc) st (by have : n <= i := hg; omega) fun h' eb => ⟨rfl, I.turned (t' := s.toks) (fun b o hb e => eb b o hb e) f0 f1 f3 f4 f5⟩
 self := fun _ _ _ _ _ st h => wpAny_pyIter_rangeiter st h
end L2
namespace L2
open PySem PySem.Spec PyProof.Rows
section
variable {X : Cx} {tg : Expr}
def GR (K : PySem.W.Frag) (tl : TE) : TI := fun σ H R => tl σ H fun x H1 => ∃ a, x = .ref a /\ (∃ xs, SqL K H1 a xs) /\ R (Itl K a) H1
def Ja (K : PySem.W.Frag) (tl : TE) : TI := fun σ H R => tl σ H fun x H1 => ∃ a, x = .ref a /\ (∃ xs, SqT K H1 a xs) /\ R (Itt K a) H1
theorem Ih {l : Expr} {tl : TE} (hl : PE X l tl) : PI X tg l (GR X.K tl) := by
 intro pins s σ H R I h
 refine thn (hl pins s σ H _ I h) fun v s1 ⟨x, H1, I1, r1, q1⟩ => ?_
 obtain ⟨a, e, ⟨xs, hq⟩, q⟩ := q1
 subst e
 cases r1
 obtain ⟨its, rv, p, hz⟩ := I1.list hq
 refine wpAny_pyIter_list p.isList ?_
 refine ⟨s1.heap.objs.size, [s1.heap.objs.size], _, _, H1, rfl, I1.kept (t' := s1.toks) fun b o e => Heap.get?_push_of_some _ e, CP a _, ⟨_, Heap.get?_push_size _ rfl, rfl, rfl⟩, fun b hb => ?_, q⟩
 have e : b = s1.heap.objs.size := by simpa using hb
 subst e
 exact I1.fpOk (Nat.le_refl _) (I1.hok.fresh (Nat.le_refl _))
theorem Jf {l : Expr} {tl : TE} (hl : PE X l tl) : PI X tg l (Ja X.K tl) := by
 intro pins s σ H R I h
 refine thn (hl pins s σ H _ I h) fun v s1 ⟨x, H1, I1, r1, q1⟩ => ?_
 obtain ⟨a, e, ⟨xs, hq⟩, q⟩ := q1
 subst e
 cases r1
 obtain ⟨its, rv, p, hz⟩ := I1.tuple hq
 refine wpAny_pyIter_tuple (show s1.heap.IsTuple a its.toArray from p) ?_
 refine ⟨s1.heap.objs.size, [s1.heap.objs.size], _, _, H1, rfl, I1.kept (t' := s1.toks) fun b o e => Heap.get?_push_of_some _ e, BZ a _, ⟨_, Heap.get?_push_size _ rfl, rfl, rfl⟩, fun b hb => ?_, q⟩
 have e : b = s1.heap.objs.size := by simpa using hb
 subst e
 exact I1.fpOk (Nat.le_refl _) (I1.hok.fresh (Nat.le_refl _))
theorem FW {pins : List (Addr × Obj)} {σ : St} {H : Hp} {s : Shared} {R : It -> Hp -> Prop} {E : Value -> Shared -> Prop} {lo hi : Int} {t u v : Tok} {tk : Nat} (I : Inv X pins σ H s) (h1 : -(2 ^ 62) <= lo) (h2 : lo < 2 ^ 62) (h3 : -(2 ^ 62) <= hi) (h4 : hi < 2 ^ 62)
  (q : R (Itr lo (hi - lo).toNat) H) : wpAny (model X.prog X.w) X.A (pyIter (.ref s.heap.objs.size)) (PIE X pins σ tg R) E { s with heap := s.heap.push { cls := .type "range", data := .fields #[.int lo t, .int hi u, .int 1 v] }, toks := tk } := by
 refine wpAny_pyIter_range (IsRange.new ..) (small_one h1 h2 h3 h4) ?_
 have I1 : Inv X pins σ H { s with heap := s.heap.push { cls := .type "range", data := .fields #[.int lo t, .int hi u, .int 1 v] }, toks := tk } := I.kept fun b o e => Heap.get?_push_of_some _ e
 refine ⟨(s.heap.push { cls := .type "range", data := .fields #[.int lo t, .int hi u, .int 1 v] }).objs.size, [(s.heap.push { cls := .type "range", data := .fields #[.int lo t, .int hi u, .int 1 v] }).objs.size], _, _, H, rfl,
  I1.kept (t' := tk) fun b o e => Heap.get?_push_of_some _ e, CG _ lo (hi - lo).toNat, ?_, fun b hb => ?_, q⟩
 ·have e1 : lo + ((0 : Nat) : Int) * 1 = lo := by simp
  have e2 : (((hi - lo).toNat : Nat) : Int) - ((0 : Nat) : Int) = Builtin.Range.rangeSize lo hi 1 := by rw [rangeSize_one]; split <;> omega
  show IsRangeIter _ _ (lo + ((0 : Nat) : Int) * 1) ((((hi - lo).toNat : Nat) : Int) - ((0 : Nat) : Int)) 1
  rw [e1, e2]
  exact Heap.get?_push_size _ rfl
 ·have e : b = (s.heap.push { cls := .type "range", data := .fields #[.int lo t, .int hi u, .int 1 v] }).objs.size := by simpa using hb
  subst e
  exact I1.fpOk (Nat.le_refl _) (I1.hok.fresh (Nat.le_refl _))
def J6 (ta : TA) : TI := fun σ H R => ta σ H fun vs H1 => ∃ j : Int, vs = [.int j] /\ -(2 ^ 62) <= j /\ j < 2 ^ 62 /\ R (Itr 0 j.toNat) H1
def Lp (ta : TA) : TI := fun σ H R => ta σ H fun vs H1 => ∃ i j : Int, vs = [.int i, .int j] /\ (-(2 ^ 62) <= i /\ i < 2 ^ 62 /\ -(2 ^ 62) <= j /\ j < 2 ^ 62) /\ R (Itr i (j - i).toNat) H1
theorem cO {a : Expr} {ta : TA} {p pos : Pos} (hg : Gl X "range") (hm : X.mg "range" = none) (ha : PA X [a] ta) (hs : starEach [a] X.env = [(false, eval a X.env)] := by rfl) : PI X tg (.Call (.Name "range" p) [a] [] pos) (J6 ta) := by
 intro pins s σ H R I h
 refine Call_ (lY I hg hm boot_range (PyProof.Rows.callWith_type1 (thn (ha pos pins s σ H _ I h) fun us s1 ⟨vs, H1, I1, r1, q1⟩ => ?_) hs rfl))
 obtain ⟨j, e, q1, q2, q⟩ := q1
 subst e
 cases r1 with
 | cons r rr =>
  cases rr
  obtain ⟨t, rfl⟩ := r
  exact call_range_1 (FW I1 (by omega) (by omega) q1 q2 (by simpa using q))
def Kp (wi : TI) (g : TG) (tb : TS) : TS := fun D σ H => wi σ H fun J H1 => ∃ W : Nat -> Nat -> St -> Hp -> Prop, (∃ m, W 0 m σ H1) /\ ∀ i m σ H, W i m σ H ->
 (J.stop i H /\ D.nx σ H) \/ (J.go i H /\ ∃ N : St -> Hp -> Prop, (∀ σ' H', N σ' H' -> ∃ m', m' < m /\ W (i + 1) m' σ' H') /\ ∀ x H', J.yld i H x H' -> g x σ H' fun σ2 H2 => tb { D with nx := N, ct := N, bk := D.nx } σ2 H2)
def kE (fp : List Addr) (h : Heap) : List (Addr × Obj) := fp.filterMap fun b => (h.get? b).map fun o => (b, o)
theorem nC {fp : List Addr} {h : Heap} {b : Addr} {o : Obj} (hb : b ∈ fp) (e : h.get? b = some o) : (b, o) ∈ kE fp h := List.mem_filterMap.mpr ⟨b, hb, by rw [e]; rfl⟩
theorem v9 {fp : List Addr} {h : Heap} {p : Addr × Obj} (hp : p ∈ kE fp h) : p.1 ∈ fp /\ h.get? p.1 = some p.2 := by
 obtain ⟨b, hb, e⟩ := List.mem_filterMap.mp hp
 cases q : h.get? b with
 | none => rw [q] at e; cases e
 | some o =>
  rw [q] at e
  have e' : (b, o) = p := Option.some.inj e
  subst e'
  exact ⟨hb, q⟩
theorem Inv.pinned {pins : List (Addr × Obj)} {σ : St} {H : Hp} {s : Shared} {fp : List Addr} (I : Inv X pins σ H s) (hf : ∀ b ∈ fp, gC X pins H b) (ho : ∀ b ∈ fp, ∃ o, s.heap.get? b = some o /\ ∀ v, o.data ≠ .cell v) : Inv X (pins ++ kE fp s.heap) σ H s :=
 I.pins_of fun p hp => (List.mem_append.mp hp).elim (fun z => I.pin p (List.mem_append_right _ z)) fun z => by
  obtain ⟨hb, e⟩ := v9 z
  obtain ⟨f0, f1, f2, _⟩ := hf p.1 hb
  obtain ⟨o, e', d⟩ := ho p.1 hb
  rw [e] at e'; cases e'
  exact ⟨e, f0, f1, f2, d⟩
theorem Inv.unpinned {pins pl : List (Addr × Obj)} {σ : St} {H : Hp} {s : Shared} (I : Inv X (pins ++ pl) σ H s) : Inv X pins σ H s := I.pins_of fun p hp => I.pin p (List.mem_append_right _ (List.mem_append_left _ hp))
theorem cJ {iter : Expr} {body : List Stmt} {wi : TI} {g : TG} {tb : TS} {pos : Pos} (hp : PassesOwn (model X.prog X.w) X.A X.env X.xe) (hc : X.calm = true) (hi : PI X tg iter wi) (hg : PG X tg g) (hb : PSs X body tb)
  (hs : ∀ x, foldedSetIterable iter X.env x = pure x := by intro _; rfl) : PS X (.For tg iter body [] pos) (Kp wi g tb) := by
 intro pins s σ H D I h
 refine wpAny_For (thn (hi pins s σ H _ I h) fun v s1 h1 => thn h1 fun itv s2 h2 => ?_) hs
 obtain ⟨it, fp, tn, J, H2, e, I2, T, st2, f2, W, ⟨m0, w0⟩, turn⟩ := h2
 subst e
 have stat : ∀ {H' : Hp}, (∀ b ∈ fp, H' b = none) -> ∀ b ∈ fp, gC X pins H' b := fun hn b hb => ⟨hn b hb, (f2 b hb).2⟩
 refine codeAny_forLoop_any (fun n s' => ∃ i σ' H', Inv X pins σ' H' s' /\ tn i s'.heap /\ (∀ b ∈ fp, H' b = none) /\ W i n σ' H') ?_ m0 ⟨0, σ, H2, I2, st2, fun b hb => (f2 b hb).1, w0⟩
 rintro n s3 ⟨i, σ3, H3, I3, st3, fr3, w3⟩
 rcases turn i n σ3 H3 w3 with ⟨stop, qn⟩ | ⟨go, N, hN, step⟩
 ·refine wpAny_passesOwn hp (thn (T.done X rfl rfl rfl hc i pins s3 σ3 H3 X.xe I3 (stat fr3) st3 stop) fun r s4 ⟨hr, I4⟩ => ?_)
  subst hr
  exact wpAny_execs_nil ⟨σ3, H3, I4, qn⟩
 ·refine wpAny_passesOwn hp (thn (T.item X rfl rfl rfl hc i pins s3 σ3 H3 X.xe I3 (stat fr3) st3 go) fun r s4 ⟨u, hr, h4⟩ => ?_)
  subst hr
  refine wpAny_passesOwn hp (thn h4 fun _ s5 ⟨x, H5, I5, r5, y5, st5, fr5⟩ => ?_)
  have I5' := I5.pinned (stat fr5) (T.obj _ _ st5)
  refine wpAny_passesOwn hp (thn (hg _ s5 σ3 H5 x u _ I5' r5 (step x H5 y5)) fun _ s6 ⟨σ6, H6, I6, q6⟩ => ?_)
  refine wpAny_passesOwn hp (thn (hb _ s6 σ6 H6 _ I6 q6) fun f s7 q7 => ?_)
  have again : ∀ {σ7 : St} {H7 : Hp}, Inv X (pins ++ kE fp s5.heap) σ7 H7 s7 -> N σ7 H7 -> ∃ m, m < n /\ ∃ i σ' H', Inv X pins σ' H' s7 /\ tn i s7.heap /\ (∀ b ∈ fp, H' b = none) /\ W i m σ' H' := fun {σ7 H7} I7 n7 => by
   obtain ⟨m', hm, w7⟩ := hN σ7 H7 n7
   refine ⟨m', hm, i + 1, σ7, H7, I7.unpinned, T.keep _ _ _ st5 fun b hb o e => (I7.pin (b, o) (List.mem_append_right _ (List.mem_append_right _ (nC hb e)))).1, fun b hb => ?_, w7⟩
   obtain ⟨o, e, d⟩ := T.obj _ _ st5 b hb
   exact (I7.pin (b, o) (List.mem_append_right _ (List.mem_append_right _ (nC hb e)))).2.1
  cases f with
  | next => obtain ⟨σ7, H7, I7, n7⟩ := q7; exact again I7 n7
  | cont => obtain ⟨σ7, H7, I7, n7⟩ := q7; exact again I7 n7
  | brk => obtain ⟨σ7, H7, I7, q7⟩ := q7; exact ⟨σ7, H7, I7.unpinned, q7⟩
  | ret v => obtain ⟨x7, σ7, H7, I7, r7, q7⟩ := q7; exact ⟨x7, σ7, H7, I7.unpinned, r7, q7⟩
end
theorem dO {K : PySem.W.Frag} {a : Addr} {xs : List V} {g : TG} {tb : TS} {D : Ends} {σ : St} {H : Hp} (Pv : Nat -> St -> Hp -> Prop) (h0 : Pv 0 σ H) (hl : ∀ i σ H, i <= xs.length -> Pv i σ H -> SqL K H a xs)
  (hs : ∀ i x σ H, xs[i]? = some x -> Pv i σ H -> g x σ H fun σ2 H2 => tb { D with nx := Pv (i + 1), ct := Pv (i + 1), bk := D.nx } σ2 H2) (hd : ∀ σ H, Pv xs.length σ H -> D.nx σ H) :
  ∃ W : Nat -> Nat -> St -> Hp -> Prop, (∃ m, W 0 m σ H) /\ ∀ i m σ H, W i m σ H ->
   ((Itl K a).stop i H /\ D.nx σ H) \/ ((Itl K a).go i H /\ ∃ N : St -> Hp -> Prop, (∀ σ' H', N σ' H' -> ∃ m', m' < m /\ W (i + 1) m' σ' H') /\ ∀ x H', (Itl K a).yld i H x H' -> g x σ H' fun σ2 H2 => tb { D with nx := N, ct := N, bk := D.nx } σ2 H2) := by
 refine ⟨fun i m σ H => m = xs.length - i /\ i <= xs.length /\ Pv i σ H, ⟨xs.length, by simp, Nat.zero_le _, h0⟩, ?_⟩
 rintro i m σ H ⟨rfl, hi, p⟩
 have q := hl i σ H hi p
 by_cases hlt : i < xs.length
 ·refine .inr ⟨⟨xs, xs[i], q, by simp [hlt]⟩, Pv (i + 1), fun σ' H' p' => ⟨xs.length - (i + 1), by omega, rfl, hlt, p'⟩, fun x H' y => ?_⟩
  obtain ⟨e, y⟩ := y
  subst e
  exact hs i x σ _ (y xs q) p
 ·have e : i = xs.length := by omega
  subst e
  exact .inl ⟨⟨xs, q, Nat.le_refl _⟩, hd σ H p⟩
theorem jq {lo : Int} {n : Nat} {g : TG} {tb : TS} {D : Ends} {σ : St} {H : Hp} (Pv : Nat -> St -> Hp -> Prop) (h0 : Pv 0 σ H)
  (hs : ∀ i σ H, i < n -> Pv i σ H -> g (.int (lo + i)) σ H fun σ2 H2 => tb { D with nx := Pv (i + 1), ct := Pv (i + 1), bk := D.nx } σ2 H2) (hd : ∀ σ H, Pv n σ H -> D.nx σ H) :
  ∃ W : Nat -> Nat -> St -> Hp -> Prop, (∃ m, W 0 m σ H) /\ ∀ i m σ H, W i m σ H ->
   ((Itr lo n).stop i H /\ D.nx σ H) \/ ((Itr lo n).go i H /\ ∃ N : St -> Hp -> Prop, (∀ σ' H', N σ' H' -> ∃ m', m' < m /\ W (i + 1) m' σ' H') /\ ∀ x H', (Itr lo n).yld i H x H' -> g x σ H' fun σ2 H2 => tb { D with nx := N, ct := N, bk := D.nx } σ2 H2) := by
 refine ⟨fun i m σ H => m = n - i /\ i <= n /\ Pv i σ H, ⟨n, by simp, Nat.zero_le _, h0⟩, ?_⟩
 rintro i m σ H ⟨rfl, hi, p⟩
 by_cases hlt : i < n
 ·refine .inr ⟨hlt, Pv (i + 1), fun σ' H' p' => ⟨n - (i + 1), by omega, rfl, hlt, p'⟩, fun x H' y => ?_⟩
  obtain ⟨e, y⟩ := y
  subst e y
  exact hs i σ _ hlt p
 ·have e : i = n := by omega
  subst e
  exact .inl ⟨Nat.le_refl _, hd σ H p⟩
end L2
namespace L2
open PySem PySem.Spec PyProof.Rows
abbrev R2 := V -> V -> Hp -> VK -> Prop
def OpR (X : Cx) (f : Value -> Value -> Sem Value) (r : R2) : Prop :=
 ∀ (pins : List (Addr × Obj)) (s : Shared) (σ : St) (H : Hp) (x y : V) (v u : Value) (Q : VK), Inv X pins σ H s -> RelV x v -> RelV y u -> r x y H Q ->
  wpAny (model X.prog X.w) X.A (f v u) (EP X pins σ Q) X.xe s
def UnR (X : Cx) (f : Value -> Sem Value) (r : V -> Hp -> VK -> Prop) : Prop :=
 ∀ (pins : List (Addr × Obj)) (s : Shared) (σ : St) (H : Hp) (x : V) (v : Value) (Q : VK), Inv X pins σ H s -> RelV x v -> r x H Q ->
  wpAny (model X.prog X.w) X.A (f v) (EP X pins σ Q) X.xe s
def CallR (X : Cx) (f : Value) (r : List V -> Hp -> VK -> Prop) : Prop :=
 ∀ (pins : List (Addr × Obj)) (s : Shared) (σ : St) (H : Hp) (xs : List V) (us : List Value) (Q : VK), Inv X pins σ H s -> Vals xs us -> r xs H Q ->
  wpAny (model X.prog X.w) X.A (call f us) (EP X pins σ Q) X.xe s
def Mg (X : Cx) (r : V -> Hp -> (Bool -> Hp -> Prop) -> Prop) : Prop :=
 ∀ (pins : List (Addr × Obj)) (s : Shared) (σ : St) (H : Hp) (x : V) (v : Value) (Q : Bool -> Hp -> Prop), Inv X pins σ H s -> RelV x v -> r x H Q ->
  wpAny (model X.prog X.w) X.A (truthy v) (TP X pins σ Q) X.xe s
def tOp (r : R2) (ta tb : TE) : TE := fun σ H Q => ta σ H fun x H1 => tb σ H1 fun y H2 => r x y H2 Q
def tUn (r : V -> Hp -> VK -> Prop) (ta : TE) : TE := fun σ H Q => ta σ H fun x H1 => r x H1 Q
def rI (C : Int -> Int -> Prop) (g : Int -> Int -> V) : R2 := fun x y H Q => ∃ i j, x = .int i /\ y = .int j /\ C i j /\ Q (g i j) H
def rI0 (g : Int -> Int -> V) : R2 := fun x y H Q => ∃ i j, x = .int i /\ y = .int j /\ Q (g i j) H
def rU (g : Int -> V) : V -> Hp -> VK -> Prop := fun x H Q => ∃ i, x = .int i /\ Q (g i) H
section
variable {X : Cx} {a b c : Expr} {ta tb tc : TE} {pos : Pos}
theorem Gh (ha : PE X a ta) (hb : PE X b tb) {pins : List (Addr × Obj)} {s : Shared} {σ : St} {H : Hp} {R : V -> V -> Hp -> Prop} (I : Inv X pins σ H s)
  (h : ta σ H fun x H1 => tb σ H1 fun y H2 => R x y H2) {Q : Value -> Shared -> Prop} {f : Value -> Value -> Sem Value}
  (hf : ∀ v u s2 x y H2, Inv X pins σ H2 s2 -> RelV x v -> RelV y u -> R x y H2 -> wpAny (model X.prog X.w) X.A (f v u) Q X.xe s2) :
  wpAny (model X.prog X.w) X.A (eval a X.env) (fun v s₁ => wpAny (model X.prog X.w) X.A (eval b X.env) (fun u s₂ => wpAny (model X.prog X.w) X.A (f v u) Q X.xe s₂) X.xe s₁) X.xe s := by
 refine thn (ha pins s σ H _ I h) fun v s1 ⟨x, H1, I1, r1, q1⟩ => ?_
 refine thn (hb pins s1 σ H1 _ I1 q1) fun u s2 ⟨y, H2, I2, r2, q2⟩ => ?_
 exact hf v u s2 x y H2 I2 r1 r2 q2
theorem aX {op : Operator} {r : R2} (ho : OpR X (binaryOp op) r) (ha : PE X a ta) (hb : PE X b tb) : PE X (.BinOp a op b pos) (tOp r ta tb) := by
 intro pins s σ H Q I h
 exact wpAny_BinOp (Gh ha hb I h fun v u s2 x y H2 I2 rx ry q => ho pins s2 σ H2 x y v u Q I2 rx ry q)
theorem xf {op : UnaryOp} {r : V -> Hp -> VK -> Prop} (ho : UnR X (unaryOp op) r) (ha : PE X a ta) : PE X (.UnaryOp op a pos) (tUn r ta) := by
 intro pins s σ H Q I h
 exact UnaryOp_ (thn (ha pins s σ H _ I h) fun v s1 ⟨x, H1, I1, r1, q1⟩ => ho pins s1 σ H1 x v Q I1 r1 q1)
theorem opI {f : Value -> Value -> Sem Value} {C : Int -> Int -> Prop} {g : Int -> Int -> Int}
  (rule : ∀ (i j : Int) (t u : Tok) (s : Shared) (Q : Value -> Shared -> Prop) (E : Value -> Shared -> Prop), C i j -> Q (.int (g i j) s.toks) { s with toks := s.toks + 1 } -> wpAny (model X.prog X.w) X.A (f (.int i t) (.int j u)) Q E s) :
  OpR X f (rI C fun i j => .int (g i j)) := by
 intro pins s σ H x y v u Q I rx ry h
 obtain ⟨i, j, rfl, rfl, hc, q⟩ := h
 obtain ⟨t, rfl⟩ := rx
 obtain ⟨t', rfl⟩ := ry
 exact rule i j t t' s _ _ hc ⟨.int (g i j), H, I.tok _, ⟨_, rfl⟩, q⟩
theorem Jk {f : Value -> Value -> Sem Value} {g : Int -> Int -> Int}
  (rule : ∀ (i j : Int) (t u : Tok) (s : Shared) (Q : Value -> Shared -> Prop) (E : Value -> Shared -> Prop), Q (.int (g i j) s.toks) { s with toks := s.toks + 1 } -> wpAny (model X.prog X.w) X.A (f (.int i t) (.int j u)) Q E s) :
  OpR X f (rI0 fun i j => .int (g i j)) := by
 intro pins s σ H x y v u Q I rx ry h
 obtain ⟨i, j, rfl, rfl, q⟩ := h
 obtain ⟨t, rfl⟩ := rx
 obtain ⟨t', rfl⟩ := ry
 exact rule i j t t' s _ _ ⟨.int (g i j), H, I.tok _, ⟨_, rfl⟩, q⟩
theorem Gr {f : Value -> Value -> Sem Value} {g : Int -> Int -> Bool}
  (rule : ∀ (i j : Int) (t u : Tok) (s : Shared) (Q : Value -> Shared -> Prop) (E : Value -> Shared -> Prop), Q (.bool (g i j)) s -> wpAny (model X.prog X.w) X.A (f (.int i t) (.int j u)) Q E s) :
  OpR X f (rI0 fun i j => .bl (g i j)) := by
 intro pins s σ H x y v u Q I rx ry h
 obtain ⟨i, j, rfl, rfl, q⟩ := h
 obtain ⟨t, rfl⟩ := rx
 obtain ⟨t', rfl⟩ := ry
 exact rule i j t t' s _ _ ⟨.bl (g i j), H, I, rfl, q⟩
def Kh (i j : Int) : Prop := 0 < j /\ j < 1073741824
def Lq (i j : Int) : Prop := j ≠ 0 /\ j.natAbs < 1073741824
def Mm (i j : Int) : Prop := 0 <= j /\ j <= 1000000 /\ i.natAbs < 2 ^ 64
def CMul (i j : Int) : Prop := (-(2 ^ 64) < i /\ i < 2 ^ 64) \/ (-(2 ^ 64) < j /\ j < 2 ^ 64)
theorem CMul.ok {i j : Int} (h : CMul i j) : IntMulOk i j := by
 rcases h with ⟨h1, h2⟩ | ⟨h1, h2⟩
 ·exact .of_left (intBits_le_64 h1 h2)
 ·exact .of_right (intBits_le_64 h1 h2)
theorem cU : OpR X (binaryOp .Add) (rI0 fun i j => .int (i + j)) := Jk fun _ _ _ _ _ _ _ q => add_int q
theorem mD : OpR X (binaryOp .Sub) (rI0 fun i j => .int (i - j)) := Jk fun _ _ _ _ _ _ _ q => sub_int q
theorem jg : OpR X (binaryOp .Mult) (rI CMul fun i j => .int (i * j)) := opI fun _ _ _ _ _ _ _ hc q => mul_int q hc.ok
theorem lZ : OpR X (binaryOp .FloorDiv) (rI Kh fun i j => .int (i / j)) := opI fun i j _ _ _ _ _ hc q => by
 have h1 : (0 : Int) < j := hc.1
 have h2 : j < 1073741824 := hc.2
 exact floordiv_int (by omega) (by rw [Int.fdiv_eq_ediv_of_nonneg i (by omega)]; exact q) (.inl (PyProof.noPylong_small (by omega)))
theorem eN : OpR X (binaryOp .Mod) (rI (fun _ j => 0 < j) fun i j => .int (i % j)) := opI fun i j _ _ _ _ _ hc q => by
 have h1 : (0 : Int) < j := hc
 exact mod_int' (by omega) (by rw [Int.fmod_eq_emod_of_nonneg i (by omega)]; exact q)
theorem unI {f : Value -> Sem Value} {g : Int -> Int}
  (rule : ∀ (i : Int) (t : Tok) (s : Shared) (Q : Value -> Shared -> Prop) (E : Value -> Shared -> Prop), Q (.int (g i) s.toks) { s with toks := s.toks + 1 } -> wpAny (model X.prog X.w) X.A (f (.int i t)) Q E s) :
  UnR X f (rU fun i => .int (g i)) := by
 intro pins s σ H x v Q I rx h
 obtain ⟨i, rfl, q⟩ := h
 obtain ⟨t, rfl⟩ := rx
 exact rule i t s _ _ ⟨.int (g i), H, I.tok _, ⟨_, rfl⟩, q⟩
theorem tD : UnR X (unaryOp .USub) (rU fun i => .int (-i)) := unI fun _ _ _ _ _ q => neg_int q
end
def Jy : V -> V -> Bool
 | .non, .non => true | .non, .int _ => true | .int _, .non => true | .non, .bl _ => true | .bl _, .non => true | .non, .str _ => true | .str _, .non => true
 | .int _, .int _ => true | .bl _, .bl _ => true | .str _, .str _ => true | .byt _, .byt _ => true
 | .int _, .str _ => true | .str _, .int _ => true | .bl _, .str _ => true | .str _, .bl _ => true
 | _, _ => false
def rEq : R2 := fun x y H Q => Jy x y = true /\ Q (.bl (decide (x = y))) H
def rNe : R2 := fun x y H Q => Jy x y = true /\ Q (.bl (!decide (x = y))) H
theorem Bj {i j : Int} : decide (V.int i = V.int j) = (i == j) := by
 rw [Bool.eq_iff_iff]
 simp
theorem C_ {i j : Bool} : decide (V.bl i = V.bl j) = (i == j) := by
 rw [Bool.eq_iff_iff]
 simp
theorem A_ {i j : Str} : decide (V.str i = V.str j) = (i == j) := by
 rw [Bool.eq_iff_iff]
 simp
theorem Bb {i j : Array UInt8} : decide (V.byt i = V.byt j) = (i.toList == j.toList) := by
 rw [Bool.eq_iff_iff]
 cases i
 cases j
 simp
section
variable {X : Cx} {a b c : Expr} {ta tb tc : TE} {pos : Pos}
theorem bI {pins : List (Addr × Obj)} {σ : St} {H : Hp} {s : Shared} {Q : VK} {k k' : Bool} (I : Inv X pins σ H s) (q : Q (.bl k) H) (e : k = k') : EP X pins σ Q (.bool k') s := by
 subst e
 exact ⟨.bl k, H, I, rfl, q⟩
theorem eQ : OpR X (compareOp .Eq) rEq := by
 intro pins s σ H x y v u Q I rx ry h
 obtain ⟨hs, q⟩ := h
 cases x with
 | non =>
  cases rx
  cases y with
  | non => cases ry; exact PySem.EqNone.eq_none_none (bI I q (by simp))
  | bl j => cases ry; exact PySem.EqNone.eq_none_bool (bI I q (by simp))
  | int j => obtain ⟨t', rfl⟩ := ry; exact PySem.EqNone.eq_none_int (bI I q (by simp))
  | str j => obtain ⟨t', rfl⟩ := ry; exact PySem.EqNone.eq_none_str (bI I q (by simp))
  | _ => exact absurd (show false = true from hs) Bool.false_ne_true
 | bl i =>
  cases rx
  cases y with
  | non => cases ry; exact PySem.EqNone.eq_bool_none (bI I q (by simp))
  | bl j => cases ry; exact eq_bool (bI I q C_)
  | str j => obtain ⟨t', rfl⟩ := ry; exact PySem.EqMixed.eq_bool_str (bI I q (by simp))
  | _ => exact absurd (show false = true from hs) Bool.false_ne_true
 | int i =>
  obtain ⟨t, rfl⟩ := rx
  cases y with
  | non => cases ry; exact PySem.EqNone.eq_int_none (bI I q (by simp))
  | int j => obtain ⟨t', rfl⟩ := ry; exact eq_int (bI I q Bj)
  | str j => obtain ⟨t', rfl⟩ := ry; exact PySem.EqMixed.eq_int_str (bI I q (by simp))
  | _ => exact absurd (show false = true from hs) Bool.false_ne_true
 | str i =>
  obtain ⟨t, rfl⟩ := rx
  cases y with
  | non => cases ry; exact PySem.EqNone.eq_str_none (bI I q (by simp))
  | bl j => cases ry; exact PySem.EqMixed.eq_str_bool (bI I q (by simp))
  | int j => obtain ⟨t', rfl⟩ := ry; exact PySem.EqMixed.eq_str_int (bI I q (by simp))
  | str j => obtain ⟨t', rfl⟩ := ry; exact eq_str (bI I q A_)
  | _ => exact absurd (show false = true from hs) Bool.false_ne_true
 | byt i =>
  obtain ⟨t, rfl⟩ := rx
  cases y with
  | byt j => obtain ⟨t', rfl⟩ := ry; exact PySem.W.eq_bytes (bI I q Bb)
  | _ => exact absurd (show false = true from hs) Bool.false_ne_true
 | _ => cases y <;> exact absurd (show false = true from hs) Bool.false_ne_true
theorem pZ : OpR X (compareOp .NotEq) rNe := by
 intro pins s σ H x y v u Q I rx ry h
 obtain ⟨hs, q⟩ := h
 cases x with
 | non =>
  cases rx
  cases y with
  | non => cases ry; exact PySem.EqNone.ne_none_none (bI I q (by simp))
  | bl j => cases ry; exact PySem.EqNone.ne_none_bool (bI I q (by simp))
  | int j => obtain ⟨t', rfl⟩ := ry; exact PySem.EqNone.ne_none_int (bI I q (by simp))
  | str j => obtain ⟨t', rfl⟩ := ry; exact PySem.EqNone.ne_none_str (bI I q (by simp))
  | _ => exact absurd (show false = true from hs) Bool.false_ne_true
 | bl i =>
  cases rx
  cases y with
  | non => cases ry; exact PySem.EqNone.ne_bool_none (bI I q (by simp))
  | bl j => cases ry; exact ne_bool (bI I q (congrArg not C_))
  | str j => obtain ⟨t', rfl⟩ := ry; exact PySem.EqMixed.ne_bool_str (bI I q (by simp))
  | _ => exact absurd (show false = true from hs) Bool.false_ne_true
 | int i =>
  obtain ⟨t, rfl⟩ := rx
  cases y with
  | non => cases ry; exact PySem.EqNone.ne_int_none (bI I q (by simp))
  | int j => obtain ⟨t', rfl⟩ := ry; exact ne_int (bI I q (congrArg not Bj))
  | str j => obtain ⟨t', rfl⟩ := ry; exact PySem.EqMixed.ne_int_str (bI I q (by simp))
  | _ => exact absurd (show false = true from hs) Bool.false_ne_true
 | str i =>
  obtain ⟨t, rfl⟩ := rx
  cases y with
  | non => cases ry; exact PySem.EqNone.ne_str_none (bI I q (by simp))
  | bl j => cases ry; exact PySem.EqMixed.ne_str_bool (bI I q (by simp))
  | int j => obtain ⟨t', rfl⟩ := ry; exact PySem.EqMixed.ne_str_int (bI I q (by simp))
  | str j => obtain ⟨t', rfl⟩ := ry; exact ne_str (bI I q (congrArg not A_))
  | _ => exact absurd (show false = true from hs) Bool.false_ne_true
 | byt i =>
  obtain ⟨t, rfl⟩ := rx
  cases y with
  | byt j => obtain ⟨t', rfl⟩ := ry; exact PySem.W.ne_bytes (bI I q (congrArg not Bb))
  | _ => exact absurd (show false = true from hs) Bool.false_ne_true
 | _ => cases y <;> exact absurd (show false = true from hs) Bool.false_ne_true
theorem nG : OpR X (compareOp .Lt) (rI0 fun i j => .bl (decide (i < j))) := Gr fun _ _ _ _ _ _ _ q => lt_int q
theorem pW : OpR X (compareOp .LtE) (rI0 fun i j => .bl (decide (i <= j))) := Gr fun _ _ _ _ _ _ _ q => le_int q
theorem qg : OpR X (compareOp .Gt) (rI0 fun i j => .bl (decide (j < i))) := Gr fun _ _ _ _ _ _ _ q => gt_int q
theorem Jh : OpR X (compareOp .Is) (fun x y H Q => y = .non /\ Q (.bl (decide (x = .non))) H) := by
 intro pins s σ H x y v u Q I rx ry h
 obtain ⟨rfl, q⟩ := h
 cases ry
 refine is_none_gen (bI I q ?_)
 cases x <;> first
  | (cases rx; rfl)
  | (obtain ⟨t, rfl⟩ := rx; rfl)
theorem Hs : OpR X (compareOp .IsNot) (fun x y H Q => y = .non /\ Q (.bl (!decide (x = .non))) H) := by
 intro pins s σ H x y v u Q I rx ry h
 obtain ⟨rfl, q⟩ := h
 cases ry
 refine isnot_none_gen (bI I q ?_)
 cases x <;> first
  | (cases rx; rfl)
  | (obtain ⟨t, rfl⟩ := rx; rfl)
def isObj : HO -> Bool
 | .lst _ => true
 | .ins _ _ _ => true
 | _ => false
theorem OpR.or {f : Value -> Value -> Sem Value} {r r' : R2} (h : OpR X f r) (h' : OpR X f r') : OpR X f (fun x y H Q => r x y H Q \/ r' x y H Q) := by
 intro pins s σ H x y v u Q I rx ry q
 rcases q with q | q
 ·exact h pins s σ H x y v u Q I rx ry q
 ·exact h' pins s σ H x y v u Q I rx ry q
theorem a_ (b : Expr) {op : CmpOp} (h : op ≠ .In := by decide) (h2 : op ≠ .NotIn := by decide) : behindInMarks op b = false := by
 have e1 : (op == CmpOp.In) = false := by cases op <;> first | rfl | exact absurd rfl h
 have e2 : (op == CmpOp.NotIn) = false := by cases op <;> first | rfl | exact absurd rfl h2
 cases b <;> simp [behindInMarks, e1, e2]
theorem dJ {op : CmpOp} {r : R2} (ho : OpR X (compareOp op) r) (ha : PE X a ta) (hb : PE X b tb) (hm : behindInMarks op b = false) : PE X (.Compare a [op] [b] pos) (tOp r ta tb) := by
 intro pins s σ H Q I h
 exact wpAny_Compare1 (Gh ha hb I h fun v u s2 x y H2 I2 rx ry q => ho pins s2 σ H2 x y v u Q I2 rx ry q) hm
def GJ (t : TE) : TT := fun σ H Q => t σ H fun x H' => ∃ k, x = .bl k /\ Q k H'
theorem bh {op : CmpOp} {r : R2} (ho : OpR X (compareOp op) r) (ha : PE X a ta) (hb : PE X b tb) (hm : behindInMarks op b = false) : PT X (.Compare a [op] [b] pos) (GJ (tOp r ta tb)) := by
 intro pins s σ H Q I h
 refine wpAny_isTrue_Compare1 (thn (ha pins s σ H _ I h) fun v s1 ⟨x, H1, I1, r1, q1⟩ => thn (hb pins s1 σ H1 _ I1 q1) fun u s2 ⟨y, H2, I2, r2, q2⟩ =>
  thn (ho pins s2 σ H2 x y v u _ I2 r1 r2 q2) fun c s3 ⟨z, H3, I3, r3, k, e, q3⟩ => ?_) hm
 subst e
 cases r3
 exact wpAny_truthy_bool ⟨H3, I3, q3⟩
def Df (r r' : R2) (ta tb tc : TE) : TE := fun σ H Q => ta σ H fun x H1 => tb σ H1 fun y H2 => r x y H2 fun z H3 => ∃ k, z = .bl k /\
 (if k = true then tc σ H3 fun w' H4 => r' y w' H4 Q else Q (.bl false) H3)
theorem F_ {op op' : CmpOp} {r r' : R2} (ho : OpR X (compareOp op) r) (ho' : OpR X (compareOp op') r') (ha : PE X a ta) (hb : PE X b tb) (hc : PE X c tc)
  (hm : lastMarks [op, op'] [b, c] = false := by with_unfolding_all rfl) : PE X (.Compare a [op, op'] [b, c] pos) (Df r r' ta tb tc) := by
 intro pins s σ H Q I h
 refine Compare_chain (thn (ha pins s σ H _ I h) fun v s1 ⟨x, H1, I1, r1, q1⟩ => chain_link (thn (hb pins s1 σ H1 _ I1 q1) fun u s2 ⟨y, H2, I2, r2, q2⟩ =>
  thn (ho pins s2 σ H2 x y v u _ I2 r1 r2 q2) fun d s3 ⟨z, H3, I3, r3, k, e, q3⟩ => ?_)) hm
 subst e
 cases r3
 refine wpAny_truthy_bool ?_
 cases k with
 | false => exact ite_ff ⟨.bl false, H3, I3, rfl, q3⟩
 | true => exact ite_tt (chain_last (thn (hc pins s3 σ H3 _ I3 q3) fun w' s4 ⟨z', H4, I4, r4, q4⟩ => ho' pins s4 σ H4 y z' u w' Q I4 r2 r4 q4))
theorem qZ {op op' : CmpOp} {r r' : R2} (ho : OpR X (compareOp op) r) (ho' : OpR X (compareOp op') r') (ha : PE X a ta) (hb : PE X b tb) (hc : PE X c tc)
  (hm : lastMarks [op, op'] [b, c] = false := by with_unfolding_all rfl) : PT X (.Compare a [op, op'] [b, c] pos) (GJ (Df r r' ta tb tc)) := by
 intro pins s σ H Q I h
 refine isTrue_chain (thn (ha pins s σ H _ I h) fun v s1 ⟨x, H1, I1, r1, q1⟩ => test_link (thn (hb pins s1 σ H1 _ I1 q1) fun u s2 ⟨y, H2, I2, r2, q2⟩ =>
  thn (ho pins s2 σ H2 x y v u _ I2 r1 r2 q2) fun d s3 ⟨z, H3, I3, r3, k, e, q3⟩ => ?_)) hm
 subst e
 cases r3
 refine wpAny_truthy_bool ?_
 cases k with
 | false =>
  obtain ⟨k', e', q'⟩ := q3
  cases e'
  exact ite_ff ⟨H3, I3, q'⟩
 | true =>
  refine ite_tt (test_last (thn (hc pins s3 σ H3 _ I3 q3) fun w' s4 ⟨z', H4, I4, r4, q4⟩ => thn (ho' pins s4 σ H4 y z' u w' _ I4 r2 r4 q4) fun d' s5 ⟨z2, H5, I5, r5, k2, e2, q5⟩ => ?_))
  subst e2
  cases r5
  exact wpAny_truthy_bool ⟨H5, I5, q5⟩
def Ly (K : PySem.W.Frag) (x : V) (H : Hp) (k : Bool) : Prop :=
 match x with
 | .non => k = false
 | .bl b => k = b
 | .int i => k = (i != 0)
 | .str y => y.length <= sizeLine /\ k = ((y.length : Int) != 0)
 | .byt y => y.size <= sizeLine /\ k = ((y.size : Int) != 0)
 | .ref p => (∃ xs, SqL K H p xs /\ k = !xs.isEmpty) \/ (∃ xs, SqT K H p xs /\ k = !xs.isEmpty) \/ ∃ kvs, H p = some (.dK kvs) /\ k = !kvs.isEmpty
 | _ => False
theorem ph : (sizeLine : Nat) < 2 ^ 63 := by rw [sizeLine_eq]; decide
def KN (b : Expr) : Prop := ∀ o i, subscripted b false o i = operate [o, i] (getItem o i)
theorem vals1 {x : V} {us : List Value} (r : Vals [x] us) : ∃ u, us = [u] /\ RelV x u := by
 cases r with
 | cons r1 r2 => cases r2; exact ⟨_, rfl, r1⟩
theorem q_ : CallR X (.builtin "abs") (fun xs H Q => ∃ i, xs = [.int i] /\ Q (.int (if i < 0 then -i else i)) H) := by
 intro pins s σ H xs us Q I r h
 obtain ⟨i, rfl, q⟩ := h
 obtain ⟨u, rfl, t, rfl⟩ := vals1 r
 exact call_abs_int fun u tk => ⟨.int (if i < 0 then -i else i), H, I.tok _, ⟨_, rfl⟩, q⟩
theorem Dn : CallR X (.type "int") (fun xs H Q => (∃ i, xs = [.int i] /\ Q (.int i) H) \/ ∃ k, xs = [.bl k] /\ Q (.int (if k then 1 else 0)) H) := by
 intro pins s σ H xs us Q I r h
 rcases h with ⟨i, rfl, q⟩ | ⟨k, rfl, q⟩
 ·obtain ⟨u, rfl, t, rfl⟩ := vals1 r
  exact call_int_int ⟨.int i, H, I, ⟨_, rfl⟩, q⟩
 ·obtain ⟨u, rfl, r1⟩ := vals1 r
  cases r1
  exact call_int_bool ⟨.int (if k then 1 else 0), H, I.tok _, ⟨_, rfl⟩, q⟩
def Mp (K : PySem.W.Frag) (x : V) (H : Hp) (n : Nat) : Prop :=
 match x with
 | .str y => y.length <= sizeLine /\ n = y.length
 | .byt y => y.size <= sizeLine /\ n = y.size
 | .ref p => (∃ xs, SqL K H p xs /\ n = xs.length) \/ ∃ xs, SqT K H p xs /\ n = xs.length
 | _ => False
end
end L2
namespace L2
open PySem PySem.Spec PyProof.Rows
structure ObjM (h : Heap) (x dx C : Addr) (mA : Str -> Option Value) : Prop where
 obj : h.get? x = some (PySem.W.instObj C dx)
 ns : h.Ns1 dx mA
 ne : dx ≠ x
theorem CZ {h : Heap} {dx : Addr} {mA : Str -> Option Value} (n : h.Ns1 dx mA) : ∃ od, h.get? dx = some od /\ ∀ name, PySem.W.lookIn name od = some (mA name) := by
 obtain ⟨o, es, ep, ho, hd, hk, _, hm⟩ := n
 refine ⟨o, ho, fun name => ?_⟩
 have e := hm name
 unfold nsFind findBy at e
 rw [<- Array.find?_toList] at e
 unfold PySem.W.lookIn
 rw [hd]
 dsimp only
 split
 ·rename_i y q
  rw [q] at e
  exact congrArg some e
 ·rename_i q
  rw [q] at e
  have a : es.toList.any (·.refKey) = false := by
   rw [List.any_eq_false]
   intro y hy
   obtain ⟨z, t, hkey⟩ := hk y (Array.mem_toList_iff.mp hy)
   simp [DictEntry.refKey, hkey]
  have a' : ¬ es.toList.any (·.refKey) = true := by rw [a]; exact Bool.false_ne_true
  rw [if_neg a']
  exact congrArg some e
theorem ObjM.look {h : Heap} {x dx C : Addr} {mA : Str -> Option Value} (I : ObjM h x dx C mA) : ∃ od, PySem.W.InstAt h x (PySem.W.instObj C dx) C (some od) /\ ∀ name, PySem.W.lookIn name od = some (mA name) :=
 let ⟨od, ho, hl⟩ := CZ I.ns
 ⟨od, ⟨I.obj, rfl, rfl, ho⟩, hl⟩
section
variable {prog : Program} {w : World} {A : Around} {E : Value -> Shared -> Prop} {s : Shared} {K : PySem.W.Frag} {x dx C f : Addr} {mA : Str -> Option Value} {name : Str} {v : Value}
theorem Ho {expr : Bool} {Q : Value -> Shared -> Prop} (X : K.In s.heap) (I : ObjM s.heap x dx C mA) (hg : PySem.W.plainGet K C name = true) (hh : PySem.W.hasDictIn K C = true)
  (ha : PySem.W.findIn K (.ref C) name = some none) (hv : mA name = some v) (hv' : PySem.W.handedIn v = true) (h : Q v { s with toks := s.toks + 1 }) :
  wpAny (model prog w) A (getAttr (.ref x) name expr) Q E s := by
 obtain ⟨od, J, hl⟩ := I.look
 exact PySem.W.get_value X J (PySem.W.plainGet_of hg).1 (PySem.W.findObj_own hh ha rfl (by rw [hl, hv])) hv' h
theorem Gn {pl : Sem Bool} {Q : Value × List Value -> Shared -> Prop} (X : K.In s.heap) (I : ObjM s.heap x dx C mA) (hg : PySem.W.plainGet K C name = true)
  (hf : PySem.W.findIn K (.ref C) name = some (some (.ref f))) (ht : PySem.W.isFn K (.ref f) = true) (hv : mA name = none) (h : Q (.ref f, [.ref x]) s) :
  wpAny (model prog w) A (getMethod (.ref x) name pl) Q E s := by
 obtain ⟨od, J, hl⟩ := I.look
 exact PySem.W.method_fn X J (PySem.W.plainGet_of hg).1 (PySem.W.plainGet_of hg).2 hf (beq_iff_eq.mp ht) (by show (PySem.W.lookIn name od).map (·.isSome) = some false; rw [hl, hv]; rfl) h
theorem HR {ns : List Str} {Q : Unit -> Shared -> Prop} (X : K.In s.heap) (I : ObjM s.heap x dx C mA)
  (hs : PySem.W.findIn K (.ref C) "__setattr__" = some (some (.builtin "object.__setattr__"))) (hp : PySem.W.plainOver K C = true) (ht : PySem.W.takerIn K C name = some none) (hh : PySem.W.hasDictIn K C = true)
  (hw : PySem.Within mA ns) (hsz : ns.length <= sizeLine)
  (h : ∀ h', ObjM h' x dx C (fun y => if y = name then some v else mA y) -> Heap.SameBut dx s.heap h' -> Q () { s with heap := h', toks := s.toks + 2 }) :
  wpAny (model prog w) A (setAttr (.ref x) name v) Q E s := by
 obtain ⟨od, J, hl⟩ := I.look
 refine PySem.W.set_plain X J hs (PySem.W.osa_open (s := { s with toks := s.toks + 1 }) (r := none) X J hp ht fun b => ?_)
 obtain ⟨cd, hc, hd'⟩ := PySem.W.any_some hh
 have hx : s.heap.get? x = some ⟨.ref C, some dx, .plain, #[]⟩ := I.obj
 refine wpAny_bind (wpAny_pure (wpAny_bind (wpAny_bind (wpAny_loadPart hx (wpAny_bind (PySem.W.Looks.here (s := { s with toks := s.toks + 1 }) (PySem.W.looks_clsIn X hc) ?_))))))
 rw [hd']
 refine wpAny_pure (a := some dx) (wpAny_bind (wpAny_pure (wpAny_bind ?_)))
 refine wpAny_nsSet1 (s := { s with toks := s.toks + 1 }) I.ns fun h' hn2 hs2 => ?_
 obtain ⟨oD, esD, epD, hoD, hdD, hcD⟩ := hn2.count (PySem.Within.cons name v hw)
 refine wpAny_bind (wpAny_lookBehind hoD (by rw [hdD]; exact pastItsLine_dict (Nat.le_trans hcD (by rw [List.length_cons]; omega))) ?_)
 exact wpAny_pure (h _ ⟨(hs2.2 _ (Ne.symm I.ne)).trans I.obj, hn2, I.ne⟩ hs2)
theorem Gi {R : Result -> Shared -> Prop} {vs : List Value} {kw : List (Str × Value)} (X : K.In s.heap) (hm : PySem.W.makesIn K C = true)
  (hi : PySem.W.findIn K (.ref C) "__init__" = some (some (.ref f))) (hf : PySem.W.typeIn K (.ref f) = some (.type "function"))
  (h : codeAny (model prog w) (A.under (.builtin "type.__call__" ⟨.ref C :: vs, kw⟩)) (.call (.ref f) ⟨.ref (s.heap.objs.size + 1) :: vs, kw⟩) (PySem.W.InitBack (s.heap.objs.size + 1) R)
   { s with heap := (s.heap.push PySem.W.emptyDict).push (PySem.W.instObj C s.heap.objs.size) }) :
  codeAny (model prog w) A (.call (.ref C) ⟨vs, kw⟩) R s := by
 obtain ⟨hh, g, d, t, os⟩ := s
 exact PySem.W.make_core (PySem.W.makes_of X hm) (PySem.W.looks_findIn X hi) (fun self => PySem.W.bind_fn X self hf) (.inl rfl) h
end
def cQ (f : Str) (v : V) : List (Str × V) -> List (Str × V)
 | [] => [(f, v)]
 | (g, x) :: r => if g = f then (g, v) :: r else (g, x) :: cQ f v r
theorem bF (f g : Str) (v : V) : ∀ fs : List (Str × V), (cQ f v fs).lookup g = if g = f then some v else fs.lookup g
 | [] => by
  show List.lookup g [(f, v)] = _
  by_cases h : g = f
  ·have hb : (g == f) = true := beq_iff_eq.mpr h
   simp only [List.lookup, hb, if_pos h]
  ·have hb : (g == f) = false := beq_eq_false_iff_ne.mpr h
   simp only [List.lookup, hb, if_neg h]
 | (k, x) :: r => by
  have ih := bF f g v r
  rw [show cQ f v ((k, x) :: r) = (if k = f then (k, v) :: r else (k, x) :: cQ f v r) from rfl]
  by_cases hk : k = f
  ·rw [if_pos hk]
   by_cases h : g = k
   ·have hb : (g == k) = true := beq_iff_eq.mpr h
    simp only [List.lookup, hb, if_pos (h.trans hk)]
   ·have hb : (g == k) = false := beq_eq_false_iff_ne.mpr h
    simp only [List.lookup, hb, if_neg (fun e : g = f => h (e.trans hk.symm))]
  ·rw [if_neg hk]
   by_cases h : g = k
   ·have hb : (g == k) = true := beq_iff_eq.mpr h
    simp only [List.lookup, hb, if_neg (fun e : g = f => hk (h.symm.trans e))]
   ·have hb : (g == k) = false := beq_eq_false_iff_ne.mpr h
    simp only [List.lookup, hb]
    exact ih
theorem oV (f : Str) (v : V) : ∀ fs : List (Str × V), f ∈ (cQ f v fs).map (·.1) /\ ∀ g, g ∈ fs.map (·.1) -> g ∈ (cQ f v fs).map (·.1)
 | [] => ⟨by simp [cQ], fun g h => by simp at h⟩
 | (k, x) :: r => by
  obtain ⟨i1, i2⟩ := oV f v r
  rw [show cQ f v ((k, x) :: r) = (if k = f then (k, v) :: r else (k, x) :: cQ f v r) from rfl]
  by_cases hk : k = f
  ·rw [if_pos hk]
   subst hk
   exact ⟨by simp, fun g h => by simpa using h⟩
  ·rw [if_neg hk]
   refine ⟨?_, fun g h => ?_⟩
   ·rw [List.map_cons]
    exact List.mem_cons_of_mem _ i1
   ·rw [List.map_cons] at h ⊢
    rcases List.mem_cons.mp h with e | e
    ·exact List.mem_cons.mpr (.inl e)
    ·exact List.mem_cons_of_mem _ (i2 g e)
theorem qu (f : Str) (v : V) : ∀ fs : List (Str × V), (cQ f v fs).length <= fs.length + 1
 | [] => by simp [cQ]
 | (k, x) :: r => by
  have ih := qu f v r
  rw [show cQ f v ((k, x) :: r) = (if k = f then (k, v) :: r else (k, x) :: cQ f v r) from rfl]
  by_cases hk : k = f
  ·rw [if_pos hk, List.length_cons, List.length_cons]; omega
  ·rw [if_neg hk, List.length_cons, List.length_cons]; omega
theorem RelO.some_of {v : V} {o : Option Value} (r : RelO (some v) o) : ∃ u, o = some u /\ RelV v u := by
 cases o with
 | none => exact (show False from r).elim
 | some u => exact ⟨u, rfl, r⟩
theorem RelO.none_of {o : Option Value} (r : RelO none o) : o = none := by
 cases o with
 | none => rfl
 | some u => exact (show False from r).elim
theorem Eb {v : V} {u : Value} (r : RelV v u) : PySem.W.handedIn u = true := by
 cases v with
 | non => cases (show u = Value.none from r); rfl
 | bl b => cases (show u = Value.bool b from r); rfl
 | int i => obtain ⟨t, e⟩ := (show ∃ t, u = Value.int i t from r); cases e; rfl
 | str x => obtain ⟨t, e⟩ := (show ∃ t, u = Value.str x t from r); cases e; rfl
 | byt b => obtain ⟨t, e⟩ := (show ∃ t, u = Value.bytes b t from r); cases e; rfl
 | flt b => obtain ⟨t, e⟩ := (show ∃ t, u = Value.float b t from r); cases e; rfl
 | ref a => cases (show u = Value.ref a from r); rfl
 | ty n => cases (show u = Value.type n from r); rfl
section
variable {P : Program} {w : World} {H H' : Hp} {h h' : Heap} {a C dx : Addr} {fs fs' : List (Str × V)}
theorem qe (hok : HOk P w H h) (e : H a = some (.ins C dx fs)) : ∃ mA, ObjM h a dx C mA /\ (∀ f, RelO (fs.lookup f) (mA f)) /\ PySem.Within mA (fs.map (·.1)) /\ fs.length <= 1000 /\ H dx = some (.own a) := by
 obtain ⟨d, z, ne, ob, mA, n, r, q⟩ := (show ObjOk P w H h a (.ins C dx fs) from hok a _ e)
 exact ⟨mA, ⟨ob, n, ne⟩, r, q, z, d⟩
end
structure Cls (K : PySem.W.Frag) (C : Addr) : Prop where
 pg : PySem.W.plainGet K C Str.empty = true
 hd : PySem.W.hasDictIn K C = true
 po : PySem.W.plainOver K C = true
 sa : PySem.W.findIn K (.ref C) "__setattr__" = some (some (.builtin "object.__setattr__"))
theorem Cls.get {K : PySem.W.Frag} {C : Addr} (c : Cls K C) (f : Str) : PySem.W.plainGet K C f = true := c.pg
def NoAttr (K : PySem.W.Frag) (C : Addr) (f : Str) : Prop := PySem.W.findIn K (.ref C) f = some none
theorem NoAttr.taker {K : PySem.W.Frag} {C : Addr} {f : Str} (n : NoAttr K C f) : PySem.W.takerIn K C f = some none := by
 unfold PySem.W.takerIn
 rw [show PySem.W.findIn K (.ref C) f = some none from n]
 rfl
structure Con (K : PySem.W.Frag) (C : Addr) (f : Str) (v : V) (u : Value) : Prop where
 at_ : PySem.W.findIn K (.ref C) f = some (some u)
 rel : RelV v u
 get : PySem.W.specialIn K u "__get__" = some none
 cp : PySem.W.copiedNames.contains f = false
structure Meth (K : PySem.W.Frag) (C : Addr) (m : Str) (f : Addr) : Prop where
 at_ : PySem.W.findIn K (.ref C) m = some (some (.ref f))
 fn : PySem.W.isFn K (.ref f) = true
 kp : PySem.W.keepIn K (.ref f) = true
section
variable {X : Cx} {pins : List (Addr × Obj)} {σ : St} {H : Hp} {s : Shared} {a C dx : Addr} {fs : List (Str × V)} {f : Str} {v : V} {A : Around} {E : Value -> Shared -> Prop}
theorem Cr {b : Bool} {Q : Value -> Shared -> Prop} (I : Inv X pins σ H s) (e : H a = some (.ins C dx fs)) (c : Cls X.K C) (n : NoAttr X.K C f) (l : fs.lookup f = some v)
  (h : ∀ u s', Inv X pins σ H s' -> RelV v u -> Q u s') : wpAny (model X.prog X.w) A (getAttr (.ref a) f b) Q E s := by
 obtain ⟨mA, O, r, _, _, _⟩ := qe I.hok e
 obtain ⟨u, hu, ru⟩ := RelO.some_of (v := v) (o := mA f) (by rw [<- l]; exact r f)
 exact Ho I.kIn O (c.get f) c.hd n hu (Eb ru) (h u _ (I.tok _) ru)
theorem BK {m : Str} {g : Addr} {pl : Sem Bool} {Q : Value × List Value -> Shared -> Prop} (I : Inv X pins σ H s) (e : H a = some (.ins C dx fs)) (c : Cls X.K C) (k : Meth X.K C m g) (l : fs.lookup m = none)
  (h : Q (.ref g, [.ref a]) s) : wpAny (model X.prog X.w) A (getMethod (.ref a) m pl) Q E s := by
 obtain ⟨mA, O, r, _, _, _⟩ := qe I.hok e
 have hn : mA m = none := RelO.none_of (by rw [<- l]; exact r m)
 exact Gn I.kIn O (c.get m) k.at_ k.fn hn h
theorem Cv {y : V} {u : Value} {Q : Unit -> Shared -> Prop} (I : Inv X pins σ H s) (e : H a = some (.ins C dx fs)) (c : Cls X.K C) (n : NoAttr X.K C f) (hl : fs.length < 1000) (ry : RelV y u)
  (h : ∀ s', Inv X pins σ (upd H a (.ins C dx (cQ f y fs))) s' -> Q () s') : wpAny (model X.prog X.w) A (setAttr (.ref a) f u) Q E s := by
 obtain ⟨mA, O, r, wi, _, ho⟩ := qe I.hok e
 have hz : (fs.map (·.1)).length <= sizeLine := by rw [List.length_map, sizeLine_eq]; omega
 refine HR I.kIn O c.sa c.po n.taker c.hd wi hz fun h' O' sb => h _ ?_
 have hd : ∃ o, h'.get? dx = some o := let ⟨o, _, _, e', _⟩ := O'.ns; ⟨o, e'⟩
 refine I.write (x := a) (e := dx) (by rw [e]; exact True.intro) (.inr ho) (fun b q hb z => (sb.2 b hb).trans z) hd ?_
 refine ⟨by rw [aJ O.ne]; exact ho, ?_, O.ne, O'.obj, _, O'.ns, fun g => ?_, fun g hg => ?_⟩
 ·have := qu f y fs; omega
 ·show RelO ((cQ f y fs).lookup g) (if g = f then some u else mA g)
  rw [bF]
  by_cases q : g = f
  ·rw [if_pos q, if_pos q]; exact ry
  ·rw [if_neg q, if_neg q]; exact r g
 ·by_cases q : g = f
  ·rw [q]; exact (oV f y fs).1
  ·refine (oV f y fs).2 g (wi g fun z => hg ?_)
   show (if g = f then some u else mA g) = none
   rw [if_neg q]; exact z
theorem Inv.made (I : Inv X pins σ H s) : Inv X pins σ (upd (upd H s.heap.objs.size (.own (s.heap.objs.size + 1))) (s.heap.objs.size + 1) (.ins C s.heap.objs.size []))
  { s with heap := (s.heap.push PySem.W.emptyDict).push (PySem.W.instObj C s.heap.objs.size) } := by
 have e1 : (s.heap.push PySem.W.emptyDict).get? s.heap.objs.size = some PySem.W.emptyDict := Heap.get?_push_size s.heap rfl
 have e2 : ((s.heap.push PySem.W.emptyDict).push (PySem.W.instObj C s.heap.objs.size)).get? (s.heap.objs.size + 1) = some (PySem.W.instObj C s.heap.objs.size) := by
  have := Heap.get?_push_size (s.heap.push PySem.W.emptyDict) (o := PySem.W.instObj C s.heap.objs.size) rfl
  rwa [Heap.size_push] at this
 have e3 : (s.heap.push PySem.W.emptyDict).Ns s.heap.objs.size (fun _ => none) := ⟨PySem.W.emptyDict, #[], _, e1, rfl, (fun e he => absurd he (by simp)), fun _ => rfl⟩
 have I1 := I.laid (a := s.heap.objs.size) (o := .own (s.heap.objs.size + 1)) (h' := s.heap.push PySem.W.emptyDict) (t' := s.toks) (fun b u q => Heap.get?_push_of_some _ q) (Nat.le_refl _) ⟨_, e1⟩
 refine I1.laid (a := s.heap.objs.size + 1) (o := .ins C s.heap.objs.size []) (t' := s.toks) (fun b u q => Heap.get?_push_of_some _ q) (Nat.le_of_eq (Heap.size_push _ _)) ?_
 have ne : s.heap.objs.size ≠ s.heap.objs.size + 1 := Nat.ne_of_lt (Nat.lt_succ_self _)
 refine ⟨by rw [aJ ne, aq], Nat.zero_le _, ne, e2, fun _ => none, (Heap.Ns1.of_empty e3).at fun o q => Heap.get?_push_of_some _ q, fun _ => True.intro, fun y hy => absurd rfl hy⟩
theorem Hr {prog : Program} {w : World} {env : Env} {e : Expr} {f : Str} {pos : Pos} {s : Shared} {Q : Value -> Shared -> Prop} (hb : attributeBase e f env (eval e env) = eval e env)
  (h : wpAny (model prog w) A (eval e env) (fun o s₁ => wpAny (model prog w) A (getAttr o f true) Q E s₁) E s) : wpAny (model prog w) A (eval (.Attribute e f pos) env) Q E s :=
 Attribute_any_ h (by rw [arm_eval_Attribute, hb])
end
def Jr (K : PySem.W.Frag) (ta : TE) (f : Str) : TE := fun σ H Q => ta σ H fun x H1 => ∃ a C dx fs v, x = .ref a /\ H1 a = some (.ins C dx fs) /\ Cls K C /\ NoAttr K C f /\ fs.lookup f = some v /\ Q v H1
def LQ (K : PySem.W.Frag) (ta : TE) (f : Str) : TE := fun σ H Q => ta σ H fun x H1 => ∃ a C dx fs v u, x = .ref a /\ H1 a = some (.ins C dx fs) /\ Cls K C /\ Con K C f v u /\ fs.lookup f = none /\ Q v H1
def KD (K : PySem.W.Frag) (ta tv : TE) (f : Str) : TS := fun D σ H => tv σ H fun y H1 => ta σ H1 fun x H2 => ∃ a C dx fs, x = .ref a /\ H2 a = some (.ins C dx fs) /\ Cls K C /\ NoAttr K C f /\ fs.length < 1000 /\
 D.nx σ (upd H2 a (.ins C dx (cQ f y fs)))
def Mf (X : Cx) (op : Operator) (rd : V -> V -> Hp -> VK -> Prop) : Prop :=
 ∀ (pins : List (Addr × Obj)) (s : Shared) (σ : St) (H : Hp) (x y : V) (u v : Value) (Q : VK), Inv X pins σ H s -> RelV x u -> RelV y v -> rd x y H Q -> wpAny (model X.prog X.w) X.A (inplaceOp op u v) (EP X pins σ Q) X.xe s
def La (K : PySem.W.Frag) (ta tv : TE) (rd : V -> V -> Hp -> VK -> Prop) (f : Str) : TS := fun D σ H => ta σ H fun x H1 => ∃ a C dx fs v, x = .ref a /\ H1 a = some (.ins C dx fs) /\ Cls K C /\ NoAttr K C f /\ fs.lookup f = some v /\
 tv σ H1 fun y H2 => rd v y H2 fun z H3 => ∃ dx' fs', H3 a = some (.ins C dx' fs') /\ fs'.length < 1000 /\ D.nx σ (upd H3 a (.ins C dx' (cQ f z fs')))
section
variable {X : Cx} {o e value : Expr} {f : Str} {pos pos' tpos : Pos} {ta tv : TE}
theorem bB (he : PE X e ta) (hb : attributeBase e f X.env (eval e X.env) = eval e X.env) : PE X (.Attribute e f pos) (Jr X.K ta f) := by
 intro pins s σ H Q I h
 refine Hr hb (thn (he pins s σ H _ I h) fun u s1 ⟨x, H1, I1, rx, a, C, dx, fs, v, ex, ea, c, n, l, q⟩ => ?_)
 subst ex
 obtain rfl : u = Value.ref a := rx
 exact Cr I1 ea c n l fun u' s2 I2 ru => ⟨v, H1, I2, ru, q⟩
theorem j5 (ha : PE X o ta) (hv : PE X value tv) (hs : swapsWith value (some (.Attribute o f pos')) pos.line X.env = pure false) : PS X (.Assign [.Attribute o f pos'] value pos) (KD X.K ta tv f) := by
 intro pins s σ H D I h
 refine plainObj_wpAny_Assign_Attribute (thn (hv pins s σ H _ I h) fun u s1 ⟨y, H1, I1, ry, q⟩ => thn (ha pins s1 σ H1 _ I1 q) fun ov s2 ⟨x, H2, I2, rx, a, C, dx, fs, ex, ea, c, n, l, q2⟩ => ?_) hs
 subst ex
 obtain rfl : ov = Value.ref a := rx
 exact Cv I2 ea c n l ry fun s3 I3 => ⟨σ, _, I3, q2⟩
def Lw : V -> V -> Hp -> VK -> Prop := fun x y H Q => ∃ i j, x = .int i /\ y = .int j /\ Q (.int (i + j)) H
def Lz : V -> V -> Hp -> VK -> Prop := fun x y H Q => ∃ i j, x = .int i /\ y = .int j /\ Q (.int (i - j)) H
end
section
variable {X : Cx} {pins : List (Addr × Obj)} {σ : St} {H : Hp} {s : Shared} {A : Around} {E : Value -> Shared -> Prop} {Q : Value -> Shared -> Prop} {c : Value} {b : Bool}
inductive TyOf (K : PySem.W.Frag) (H : Hp) : V -> Value -> Prop where
 | non : TyOf K H .non (.type "NoneType")
 | bl (x : Bool) : TyOf K H (.bl x) (.type "bool")
 | int (i : Int) : TyOf K H (.int i) (.type "int")
 | str (x : Str) : TyOf K H (.str x) (.type "str")
 | flt (x : UInt64) : TyOf K H (.flt x) (.type "float")
 | lst {a : Addr} {xs : List V} (e : H a = some (.lst xs)) : TyOf K H (.ref a) (.type "list")
 | frz {a : Addr} {o : Obj} {xs : List V} (e : H a = some (.frz o (.lst xs))) : TyOf K H (.ref a) (.type "list")
 | tup {a : Addr} {xs : List V} (e : H a = some (.tup xs)) : TyOf K H (.ref a) (.type "tuple")
 | dK {a : Addr} {kvs : List (Key × V)} (e : H a = some (.dK kvs)) : TyOf K H (.ref a) (.type "dict")
 | dT {a : Addr} {kvs : List (List Key × V)} (e : H a = some (.dT kvs)) : TyOf K H (.ref a) (.type "dict")
 | ins {a C dx : Addr} {fs : List (Str × V)} (e : H a = some (.ins C dx fs)) (cl : Cls K C) (ha : PySem.W.findIn K (.ref C) "__class__" = some (some (.builtin "object.__class__")))
   (hn : PySem.W.specialIn K (.builtin "object.__class__") "__get__" = some (some (.builtin "getset_descriptor.__get__"))) (htk : PySem.W.takesIn K (.builtin "object.__class__") = some true)
   (hm : PySem.W.mroIn K C (.type "object") = some true) : TyOf K H (.ref a) (.ref C)
theorem Eh {x : V} {u t : Value} (I : Inv X pins σ H s) (rx : RelV x u) (ty : TyOf X.K H x t) (e : PySem.W.kitOne X.K t c = some b) (h : ∀ tk, Q (.bool b) { s with toks := tk }) :
  wpAny (model X.prog X.w) A (call (.builtin "isinstance") [u, c]) Q E s := by
 cases ty with
 | non => cases (show u = Value.none from rx); exact PySem.W.kia_one PySem.W.kitx_none I.kIn True.intro e (fun z => nomatch z) h
 | bl y => cases (show u = Value.bool y from rx); exact PySem.W.kia_one PySem.W.kitx_bool I.kIn True.intro e (fun z => nomatch z) h
 | int i => obtain ⟨t, q⟩ := (show ∃ t, u = Value.int i t from rx); cases q; exact PySem.W.kia_one PySem.W.kitx_int I.kIn True.intro e (fun z => nomatch z) h
 | str y => obtain ⟨t, q⟩ := (show ∃ t, u = Value.str y t from rx); cases q; exact PySem.W.kia_one PySem.W.kitx_str I.kIn True.intro e (fun z => nomatch z) h
 | flt y => obtain ⟨t, q⟩ := (show ∃ t, u = Value.float y t from rx); cases q; exact PySem.W.kia_one PySem.W.kitx_float I.kIn True.intro e (fun z => nomatch z) h
 | @lst a xs ea =>
  cases (show u = Value.ref a from rx)
  obtain ⟨_, _, n, _, h1⟩ := (show ObjOk X.prog X.w H s.heap a (.lst xs) from I.hok a _ ea)
  exact PySem.W.kia_one PySem.W.kitx_list I.kIn ⟨_, h1, rfl⟩ e (fun z => nomatch z) h
 | @frz a ob xs ea =>
  cases (show u = Value.ref a from rx)
  obtain ⟨_, _, _, n, _, h1⟩ := (show ObjOk X.prog X.w H s.heap a (.frz ob (.lst xs)) from I.hok a _ ea)
  exact PySem.W.kia_one PySem.W.kitx_list I.kIn ⟨_, h1, rfl⟩ e (fun z => nomatch z) h
 | @tup a xs ea =>
  cases (show u = Value.ref a from rx)
  obtain ⟨_, _, _, p⟩ := (show ObjOk X.prog X.w H s.heap a (.tup xs) from I.hok a _ ea)
  obtain ⟨o, h1, h2, _⟩ := p
  exact PySem.W.kia_one PySem.W.kitx_tuple I.kIn ⟨o, h1, h2⟩ e (fun z => nomatch z) h
 | @dK a kvs ea =>
  cases (show u = Value.ref a from rx)
  obtain ⟨_, _, vs, _, p⟩ := (show ObjOk X.prog X.w H s.heap a (.dK kvs) from I.hok a _ ea)
  obtain ⟨o, es, ep, h1, h2, _⟩ := p
  exact PySem.W.kia_one PySem.W.kitx_dict I.kIn ⟨o, h1, h2.1⟩ e (fun z => nomatch z) h
 | @dT a kvs ea =>
  cases (show u = Value.ref a from rx)
  obtain ⟨_, _, xs, _, o, es, ep, h1, h2, _⟩ := (show ObjOk X.prog X.w H s.heap a (.dT kvs) from I.hok a _ ea)
  exact PySem.W.kia_one PySem.W.kitx_dict I.kIn ⟨o, h1, h2.1⟩ e (fun z => nomatch z) h
 | @ins a C dx fs ea cl ha hn htk hm =>
  cases (show u = Value.ref a from rx)
  obtain ⟨mA, O, _⟩ := qe I.hok ea
  obtain ⟨od, J, _⟩ := O.look
  exact PySem.W.kia_one (PySem.W.kitx_own (cl.get _) cl.hd ha hn htk hm) I.kIn J e (fun z => nomatch z) h
end
end L2
namespace L2
open PySem PySem.Spec PyProof.Rows
structure Room (k : Nat) (A : Around) : Prop where
 hd : A.handled = none
 dp : A.depth + 3 * k + 5 < recursionLimit
 un : A.units + 16 * k + 200 < cLine
theorem Room.mono {j k : Nat} {A : Around} (r : Room k A) (h : j <= k) : Room j A := ⟨r.hd, by have := r.dp; omega, by have := r.un; omega⟩
theorem Room.deeper {k : Nat} {A : Around} (r : Room (k + 1) A) (env : Env) : Room k (A.deeper env) :=
 ⟨r.hd, by have := r.dp; show A.depth + 1 + 3 * k + 5 < _; omega, by have := r.un; show A.units + 3 + 16 * k + 200 < _; omega⟩
theorem Room.in1 {k : Nat} {A : Around} (r : Room (k + 1) A) : Room k A.in1 :=
 ⟨r.hd, by have := r.dp; show A.depth + 3 * k + 5 < _; omega, by have := r.un; show A.units + 1 + 16 * k + 200 < _; omega⟩
theorem Cu {A : Around} {C : Addr} {us : List Value} {kw : List (Str × Value)} : (A.under (.builtin "type.__call__" ⟨.ref C :: us, kw⟩)).depth = A.depth + 1 := by
 first | rfl | simp [Around.under, Code.weight, Code.isCreation, Code.isGuard, Code.isCaller, Code.frames, Code.isFrame, guardIds]
theorem Cw {A : Around} {C : Addr} {us : List Value} {kw : List (Str × Value)} : (A.under (.builtin "type.__call__" ⟨.ref C :: us, kw⟩)).units = A.units + 1 := by
 first | rfl | simp [Around.under, Code.cUnits, Code.frames, Code.isFrame]
theorem Room.make {k : Nat} {A : Around} (r : Room (k + 1) A) (C : Addr) (us : List Value) (kw : List (Str × Value)) : Room k (A.under (.builtin "type.__call__" ⟨.ref C :: us, kw⟩)) :=
 ⟨r.hd, by have := r.dp; rw [Cu]; omega, by have := r.un; rw [Cw]; omega⟩
theorem Room.depth {k : Nat} {A : Around} (r : Room k A) : A.depth < recursionLimit := by have := r.dp; omega
theorem Room.units {k : Nat} {A : Around} (r : Room k A) : A.units + 64 < cLine := by have := r.un; omega
def Kw : TA := fun _ H Q => Q [] H
def J9 (ta : TE) (tr : TA) : TA := fun σ H Q => ta σ H fun x H1 => tr σ H1 fun xs H2 => Q (x :: xs) H2
section
variable {X : Cx} {e : Expr} {es : List Expr} {te : TE} {t : TA} {pos : Pos}
theorem ak : PA X [] Kw := fun _ _ _ _ H Q I h => Calls.spliced_nil ⟨[], H, I, .nil, h⟩
theorem aa (ha : PE X e te) (hr : PA X es t) (hs : starEach (e :: es) X.env = (false, eval e X.env) :: starEach es X.env := by rfl) : PA X (e :: es) (J9 te t) := by
 intro pos pins s σ H Q I h
 rw [hs]
 show wpAny _ _ (spliced ((false, eval e X.env) :: backTo pos (starEach es X.env))) _ _ s
 refine Calls.spliced_cons (thn (ha pins s σ H _ I h) fun u s1 ⟨x, H1, I1, r1, q1⟩ => ?_)
 exact thn (hr pos pins s1 σ H1 _ I1 q1) fun us s2 ⟨xs, H2, I2, r2, q2⟩ => ⟨x :: xs, H2, I2, .cons r1 r2, q2⟩
def Kd (t : TA) : TE := fun σ H Q => t σ H fun xs H1 => xs.length <= sizeLine /\ ∀ p, H1 p = none -> Q (.ref p) (upd H1 p (.tup xs))
def KR (t : TA) : TE := fun σ H Q => t σ H fun xs H1 => xs.length <= sizeLine /\ ∀ p, H1 p = none -> Q (.ref p) (upd H1 p (.lst xs))
theorem bH {x1} (h : PA X es t) : PE X (.Tuple es x1 pos) (Kd t) := by
 intro pins s σ H Q I hq
 refine wpAny_Tuple_spliced (thn (h pos pins s σ H _ I hq) fun us s1 ⟨xs, H1, I1, r, z, q⟩ => ⟨by rw [<- r.length]; exact z, ?_⟩)
 have hf : H1 s1.heap.objs.size = none := I1.hok.fresh (Nat.le_refl _)
 refine ⟨.ref s1.heap.objs.size, upd H1 s1.heap.objs.size (.tup xs), I1.laid (t' := s1.toks) (fun b u e => Heap.get?_push_of_some _ e) (Nat.le_refl _) ?_, rfl, q _ hf⟩
 exact ⟨z, us, r, ⟨_, Heap.get?_push_size _ rfl, rfl, _, rfl⟩⟩
theorem cz (h : PA X es t) : PE X (.List es pos) (KR t) := by
 intro pins s σ H Q I hq
 refine wpAny_List_spliced (thn (h pos pins s σ H _ I hq) fun us s1 ⟨xs, H1, I1, r, z, q⟩ => ⟨by rw [<- r.length]; exact z, ?_⟩)
 have hf : H1 s1.heap.objs.size = none := I1.hok.fresh (Nat.le_refl _)
 refine ⟨.ref s1.heap.objs.size, upd H1 s1.heap.objs.size (.lst xs), I1.laid (t' := s1.toks) (fun b u e => Heap.get?_push_of_some _ e) (Nat.le_refl _) ?_, rfl, q _ hf⟩
 exact ⟨z, us, 0, r, Heap.get?_push_size _ rfl⟩
end
abbrev Sp := List V -> Hp -> VK -> XK -> Prop
abbrev CXT := List Env -> Hp -> Shared -> XK -> Value -> Shared -> Prop
structure Env0 (P : Program) (w : World) (K : PySem.W.Frag) (mg : Str -> Option Value) (base : Heap) (A : Around) (outer : List Env) (s : Shared) (H : Hp) : Prop where
 frames : A.frames = some outer
 mod : Mod K mg base
 bs : ∀ b o, base.get? b = some o -> s.heap.get? b = some o /\ H b = none
 bsz : base.objs.size <= s.heap.objs.size
 funs : s.heap.FunFrames base outer
 frf : ∀ b ∈ frs outer, H b = none
 hok : HOk P w H s.heap
 bare : AllBare s.gens
def CE (outer : List Env) (P : Program) (w : World) (H : Hp) (s : Shared) (Q : VK) (u : Value) (s' : Shared) : Prop :=
 ∃ v H', s'.os = s.os /\ AllBare s'.gens /\ Un (frs outer) [] H H' s.heap s'.heap /\ HOk P w H' s'.heap /\ RelV v u /\ Q v H'
def CR (CX : CXT) (outer : List Env) (P : Program) (w : World) (H : Hp) (s : Shared) (Q : VK) (E : XK) (r : Result) (s' : Shared) : Prop :=
 match r with
 | .ok (.ret u) => CE outer P w H s Q u s'
 | .ok _ => False
 | .error e => CX outer H s E e s'
structure FnOk (P : Program) (w : World) (K : PySem.W.Frag) (mg : Str -> Option Value) (base : Heap) (CX : CXT) (k : Nat) (f : Addr) (fd : FuncData) (ps : List Str) (sp : Sp) : Prop where
 len : ∀ vs H Q E, sp vs H Q E -> vs.length = ps.length
 run : ∀ (A : Around) (outer : List Env) (s : Shared) (H : Hp) (args : Args) (us : List Value) (vs : List V) (Q : VK) (E : XK), Room k A -> Env0 P w K mg base A outer s H -> BindsTo s fd args (ps.zip us) -> Vals vs us -> sp vs H Q E ->
  codeAny (model P w) A (.call (.ref f) args) (CR CX outer P w H s Q E) s
theorem FnOk.mono {P : Program} {w : World} {K : PySem.W.Frag} {mg : Str -> Option Value} {base : Heap} {CX : CXT} {j k : Nat} {f : Addr} {fd : FuncData} {ps : List Str} {sp : Sp} (F : FnOk P w K mg base CX j f fd ps sp) (h : j <= k) :
  FnOk P w K mg base CX k f fd ps sp := ⟨F.len, fun A outer s H args us vs Q E hr => F.run A outer s H args us vs Q E (hr.mono h)⟩
theorem FnOk.imp {P : Program} {w : World} {K : PySem.W.Frag} {mg : Str -> Option Value} {base : Heap} {CX : CXT} {k : Nat} {f : Addr} {fd : FuncData} {ps : List Str} {sp sp' : Sp} (F : FnOk P w K mg base CX k f fd ps sp)
  (h : ∀ vs H Q E, sp' vs H Q E -> sp vs H Q E) : FnOk P w K mg base CX k f fd ps sp' :=
 ⟨fun vs H Q E q => F.len vs H Q E (h _ _ _ _ q), fun A outer s H args us vs Q E hr he hb hv hs => F.run A outer s H args us vs Q E hr he hb hv (h _ _ _ _ hs)⟩
theorem Env0.make {P : Program} {w : World} {K : PySem.W.Frag} {mg : Str -> Option Value} {base : Heap} {A : Around} {outer : List Env} {s : Shared} {H : Hp} (e : Env0 P w K mg base A outer s H) (C : Addr) (us : List Value) (kw : List (Str × Value)) :
  Env0 P w K mg base (A.under (.builtin "type.__call__" ⟨.ref C :: us, kw⟩)) outer s H := ⟨by first | exact e.frames | (simpa [Around.under, Code.envs, Code.isFrame, pushEnvs] using e.frames), e.mod, e.bs, e.bsz, e.funs, e.frf, e.hok, e.bare⟩
theorem Env0.in1 {P : Program} {w : World} {K : PySem.W.Frag} {mg : Str -> Option Value} {base : Heap} {A : Around} {outer : List Env} {s : Shared} {H : Hp} (e : Env0 P w K mg base A outer s H) :
  Env0 P w K mg base A.in1 outer s H := ⟨e.frames, e.mod, e.bs, e.bsz, e.funs, e.frf, e.hok, e.bare⟩
section
variable {X : Cx} {pins : List (Addr × Obj)} {σ : St} {H : Hp} {s s' : Shared}
theorem Inv.env0 (I : Inv X pins σ H s) : Env0 X.prog X.w X.K X.mg X.base X.A X.stack s H :=
 ⟨I.ok.frames, I.ok.mod, I.bs, Nat.le_trans I.ok.bsz I.sz, I.stack, I.stkFree, I.hok, I.bare⟩
theorem Inv.after {Q : VK} {u : Value} (I : Inv X pins σ H s) (h : CE X.stack X.prog X.w H s Q u s') : EP X pins σ Q u s' := by
 obtain ⟨v, H', os, bare, un, hok, r, q⟩ := h
 obtain ⟨hh, g, d, t, os'⟩ := s'
 obtain rfl : os' = s.os := os
 exact ⟨v, H', I.call (h' := hh) (g' := g) (d' := d) (t' := t) (ch := []) un hok bare (fun b z => absurd z (by simp)), r, q⟩
end
def G6 (sp : Sp) (dvs : List V) (E : XK) (t : TA) : TE := fun σ H Q => t σ H fun vs H1 => sp (vs ++ dvs) H1 Q E
def G7 (C : Addr) (m : Str) (sp : Sp) (dvs : List V) (E : XK) (ta : TE) (t : TA) : TE := fun σ H Q => ta σ H fun x H1 => ∃ a dx fs, x = .ref a /\ H1 a = some (.ins C dx fs) /\ fs.lookup m = none /\
 t σ H1 fun vs H2 => sp (x :: (vs ++ dvs)) H2 Q E
def G3 (C : Addr) (sp : Sp) (dvs : List V) (E : XK) (t : TA) : TE := fun σ H Q => t σ H fun vs H1 => ∀ x dx, H1 x = none -> H1 dx = none -> dx ≠ x ->
 sp (.ref x :: (vs ++ dvs)) (upd (upd H1 dx (.own x)) x (.ins C dx [])) (fun v H2 => v = .non /\ Q (.ref x) H2) E
def Binds (K : PySem.W.Frag) (fd : FuncData) (ps : List Str) (ds : List Value) : Prop :=
 ∀ (s : Shared) (us : List Value), K.In s.heap -> (us ++ ds).length = ps.length -> BindsTo s fd ⟨us, []⟩ (ps.zip (us ++ ds))
theorem Binds.all {K : PySem.W.Frag} {fd : FuncData} {ps : List Str} (h : ∀ us : List Value, us.length = ps.length -> bindArgs fd ⟨us, []⟩ = pure (ps.zip us)) : Binds K fd ps [] := fun s us _ hl => by
 rw [List.append_nil] at hl ⊢
 exact .of_eq (h us hl)
def lX (CX : CXT) (X : Cx) (E : XK) : Prop := ∀ (pins : List (Addr × Obj)) (σ : St) (H : Hp) (s : Shared) (e : Value) (s' : Shared), Inv X pins σ H s -> CX X.stack H s E e s' -> X.xe e s'
section
variable {X : Cx} {CX : CXT} {k : Nat} {f C : Addr} {fd : FuncData} {ps : List Str} {sp : Sp} {dvs : List V} {ds : List Value} {E : XK} {x m : Str} {p pos apos : Pos} {e o : Expr} {es : List Expr} {ta : TE} {t : TA}
theorem Dj {pins : List (Addr × Obj)} {σ : St} {H : Hp} {s : Shared} {Q : VK} {us : List Value} {vs : List V} (F : FnOk X.prog X.w X.K X.mg X.base CX k f fd ps sp) (hr : Room k X.A) (hb : Binds X.K fd ps ds) (hd : Vals dvs ds) (hx : lX CX X E)
  (I : Inv X pins σ H s) (r : Vals vs us) (h : sp (vs ++ dvs) H Q E) : wpAny (model X.prog X.w) X.A (call (.ref f) us) (EP X pins σ Q) X.xe s := by
 have r2 : Vals (vs ++ dvs) (us ++ ds) := r.append hd
 have hl : (us ++ ds).length = ps.length := by rw [<- r2.length]; exact F.len _ _ _ _ h
 refine wpAny_call (codeAny_mono (F.run X.A X.stack s H ⟨us, []⟩ (us ++ ds) (vs ++ dvs) Q E hr I.env0 (hb s us I.kIn hl) r2 h) fun r s' hq => ?_)
 cases r with
 | error e => exact hx pins σ H s e s' I hq
 | ok fl =>
  cases fl with
  | ret u => exact I.after hq
  | next => exact False.elim hq
  | brk => exact False.elim hq
  | cont => exact False.elim hq
theorem Hf (F : FnOk X.prog X.w X.K X.mg X.base CX k f fd ps sp) (hr : Room k X.A) (hg : Gl X x) (hm : X.mg x = some (.ref f)) (hk : PySem.W.keepIn X.K (.ref f) = true) (hb : Binds X.K fd ps ds) (hd : Vals dvs ds) (hx : lX CX X E)
  (ha : PA X (e :: es) t) (hdb : (x == ("__debug__" : Str)) = false := by decide) (he : starEach (e :: es) X.env = (false, eval e X.env) :: starEach es X.env := by rfl) (hpl : (backTo pos (starEach es X.env)).any (·.1) = false := by rfl) :
  PE X (.Call (.Name x p) (e :: es) [] pos) (G6 sp dvs E t) := by
 intro pins s σ H Q I h
 refine wpAny_Call_Name_kw (uV I hg hm ?_ hdb)
 refine PySem.W.callWith_K (h₀ := X.base) I.ok.mod.kin hk (thn (ha pos pins s σ H _ I h) fun us s1 ⟨vs, H1, I1, r, q⟩ => ⟨I1.kIn, ?_⟩) he hpl
 exact Dj F hr hb hd hx I1 r q
theorem Ht {pl : Sem Bool} (he : PE X o ta) (c : Cls X.K C) (hm : Meth X.K C m f) (F : FnOk X.prog X.w X.K X.mg X.base CX k f fd ps sp) (hr : Room k X.A) (hb : Binds X.K fd ps ds) (hd : Vals dvs ds) (hx : lX CX X E) (ha : PA X (e :: es) t)
  (hst : starEach (e :: es) X.env = (false, eval e X.env) :: starEach es X.env := by rfl) (hpl : (backTo pos (starEach es X.env)).any (·.1) = false := by rfl)
  (ht : eval (.Call (.Attribute o m apos) (e :: es) [] pos) X.env = (do
   let ov <- eval o X.env
   standAt apos.atName
   let (f, first) <- holding [ov] (getMethod ov m pl)
   callWith pos f first (backTo pos (starEach (e :: es) X.env)) (backToKw pos (keywordEach [] X.env))) := by rfl) :
  PE X (.Call (.Attribute o m apos) (e :: es) [] pos) (G7 C m sp dvs E ta t) := by
 intro pins s σ H Q I h
 refine PySem.W.methodCall_KW (pl := pl) (thn (he pins s σ H _ I h) fun u s1 ⟨x, H1, I1, rx, a, dx, fs, ex, ea, l, q⟩ => ?_) ht
 subst ex
 obtain rfl : u = Value.ref a := rx
 refine BK I1 ea c hm l ?_
 refine PySem.W.callWith_K (first := [.ref a]) (h₀ := X.base) I.ok.mod.kin hm.kp (thn (ha pos pins s1 σ H1 _ I1 q) fun us s2 ⟨vs, H2, I2, r, q2⟩ => ⟨I2.kIn, ?_⟩) hst hpl
 exact Dj (us := .ref a :: us) (vs := .ref a :: vs) F hr hb hd hx I2 (.cons rfl r) q2
structure Mk (K : PySem.W.Frag) (C f : Addr) : Prop where
 makes : PySem.W.makesIn K C = true
 init : PySem.W.findIn K (.ref C) "__init__" = some (some (.ref f))
 fn : PySem.W.isFn K (.ref f) = true
 kp : PySem.W.keepIn K (.ref C) = true
theorem Gf {pins : List (Addr × Obj)} {σ : St} {H : Hp} {s : Shared} {Q : VK} {us : List Value} {vs : List V} (M : Mk X.K C f) (F : FnOk X.prog X.w X.K X.mg X.base CX k f fd ps sp) (hr : Room (k + 1) X.A) (hb : Binds X.K fd ps ds) (hd : Vals dvs ds)
  (hx : lX CX X E) (I : Inv X pins σ H s) (r : Vals vs us)
  (h : ∀ x dx, H x = none -> H dx = none -> dx ≠ x -> sp (.ref x :: (vs ++ dvs)) (upd (upd H dx (.own x)) x (.ins C dx [])) (fun v H2 => v = .non /\ Q (.ref x) H2) E) :
  wpAny (model X.prog X.w) X.A (call (.ref C) us) (EP X pins σ Q) X.xe s := by
 have hq := h (s.heap.objs.size + 1) s.heap.objs.size (I.hok.fresh (Nat.le_succ _)) (I.hok.fresh (Nat.le_refl _)) (Nat.ne_of_lt (Nat.lt_succ_self _))
 have I2 := Inv.made (C := C) I
 have r2 : Vals (V.ref (s.heap.objs.size + 1) :: (vs ++ dvs)) (Value.ref (s.heap.objs.size + 1) :: (us ++ ds)) := .cons rfl (r.append hd)
 have hl : (Value.ref (s.heap.objs.size + 1) :: us ++ ds).length = ps.length := by
  have e := r2.length
  rw [F.len _ _ _ _ hq] at e
  exact e.symm
 refine wpAny_call (Gi (f := f) I.kIn M.makes M.init (beq_iff_eq.mp M.fn) (codeAny_mono (F.run _ X.stack _ _ ⟨Value.ref (s.heap.objs.size + 1) :: us, []⟩ (Value.ref (s.heap.objs.size + 1) :: (us ++ ds)) _ _ E (hr.make C us [])
  (I2.env0.make C us []) (hb _ (Value.ref (s.heap.objs.size + 1) :: us) I2.kIn hl) r2 hq) fun r s' hq' => ?_))
 cases r with
 | error e => exact hx pins σ _ _ e s' I2 hq'
 | ok fl =>
  cases fl with
  | ret u =>
   obtain ⟨v, H', I3, rv, ev, q3⟩ := I2.after hq'
   subst ev
   exact ⟨rv, ⟨V.ref (s.heap.objs.size + 1), H', I3, rfl, q3⟩⟩
  | next => exact False.elim hq'
  | brk => exact False.elim hq'
  | cont => exact False.elim hq'
theorem Hj (M : Mk X.K C f) (F : FnOk X.prog X.w X.K X.mg X.base CX k f fd ps sp) (hr : Room (k + 1) X.A) (hg : Gl X x) (hm : X.mg x = some (.ref C)) (hb : Binds X.K fd ps ds) (hd : Vals dvs ds) (hx : lX CX X E)
  (ha : PA X (e :: es) t) (hdb : (x == ("__debug__" : Str)) = false := by decide) (he : starEach (e :: es) X.env = (false, eval e X.env) :: starEach es X.env := by rfl) (hpl : (backTo pos (starEach es X.env)).any (·.1) = false := by rfl) :
  PE X (.Call (.Name x p) (e :: es) [] pos) (G3 C sp dvs E t) := by
 intro pins s σ H Q I h
 refine wpAny_Call_Name_kw (uV I hg hm ?_ hdb)
 refine PySem.W.callWith_K (h₀ := X.base) I.ok.mod.kin M.kp (thn (ha pos pins s σ H _ I h) fun us s1 ⟨vs, H1, I1, r, q⟩ => ⟨I1.kIn, ?_⟩) he hpl
 exact Gf M F hr hb hd hx I1 r q
end
def PK (X : Cx) (kws : List Keyword) (t : TA) : Prop :=
 ∀ (pos : Pos) (pins : List (Addr × Obj)) (s : Shared) (σ : St) (H : Hp) (Q : List V -> Hp -> Prop), Inv X pins σ H s -> t σ H Q -> wpAny (model X.prog X.w) X.A (evalAll ((backToKw pos (keywordEach kws X.env)).map (·.2))) (AP X pins σ Q) X.xe s
section
variable {X : Cx} {CX : CXT} {k : Nat} {f C : Addr} {fd : FuncData} {ps ks : List Str} {sp : Sp} {E : XK} {x m : Str} {p pos apos kpos : Pos} {e o : Expr} {es : List Expr} {kws : List Keyword} {te ta : TE} {t tk : TA} {nm : Option Str}
structure KBinds (K : PySem.W.Frag) (fd : FuncData) (ps ks : List Str) (g : List Value -> List Value -> List Value) (gV : List V -> List V -> List V) : Prop where
 to : ∀ (s : Shared) (us ws : List Value), K.In s.heap -> (g us ws).length = ps.length -> BindsTo s fd ⟨us, ks.zip ws⟩ (ps.zip (g us ws))
 rel : ∀ {vs : List V} {us : List Value} {zs : List V} {ws : List Value}, Vals vs us -> Vals zs ws -> Vals (gV vs zs) (g us ws)
def Lg (sp : Sp) (gV : List V -> List V -> List V) (E : XK) (t tk : TA) : TE := fun σ H Q => t σ H fun vs H1 => tk σ H1 fun zs H2 => sp (gV vs zs) H2 Q E
variable {g : List Value -> List Value -> List Value} {gV : List V -> List V -> List V}
end
structure FnScope (N P : List Str) (sc : Scope) : Prop where
 kind : sc.kind = .function
 co : sc.isCoroutine = false
 gen : sc.isGenerator = false
 nd : N.Nodup
 pre : N.take P.length = P
 par : ∀ x ∈ P, sc.names.lookup x = some .local \/ sc.names.lookup x = some .cell
 nofree : ∀ y ∈ sc.names, y.2 ≠ .free
theorem wk {kindOf : Str -> Option NameKind} {x : Str} : ∀ {binds : List (Str × Value)} {m : Str -> Option Value}, (∀ v, (x, v) ∉ binds) -> bindL kindOf binds m x = m x
 | [], _, _ => rfl
 | (n, v) :: r, m, h => by
  unfold bindL
  rw [wk fun w hw => h w (List.mem_cons_of_mem _ hw)]
  split
  ·have : x ≠ n := by rintro rfl; exact h v List.mem_cons_self
   simp [this]
  ·rfl
theorem wz {kindOf : Str -> Option NameKind} {x : Str} : ∀ {binds : List (Str × Value)} {m : Str -> Option Value}, (∀ v, (x, v) ∉ binds) -> bindC kindOf binds m x = m x
 | [], _, _ => rfl
 | (n, v) :: r, m, h => by
  unfold bindC
  rw [wz fun w hw => h w (List.mem_cons_of_mem _ hw)]
  split
  ·rfl
  ·have : x ≠ n := by rintro rfl; exact h v List.mem_cons_self
   simp [this]
theorem wg {kindOf : Str -> Option NameKind} {x : Str} {v : Value} : ∀ {P : List Str} {vs : List Value} {i : Nat} {m : Str -> Option Value}, P.Nodup -> P[i]? = some x -> vs[i]? = some v -> kindOf x = some .local ->
  bindL kindOf (P.zip vs) m x = some v
 | [], _, _, _, _, h, _, _ => by simp at h
 | _ :: _, [], _, _, _, _, h, _ => by simp at h
 | p :: P, w :: vs, 0, m, nd, h1, h2, hk => by
  simp at h1 h2; subst h1; subst h2
  show bindL kindOf ((p, w) :: P.zip vs) m p = _
  unfold bindL
  rw [wk fun v hv => (List.nodup_cons.mp nd).1 (List.of_mem_zip hv).1, if_pos hk]
  simp
 | p :: P, w :: vs, i + 1, m, nd, h1, h2, hk => by
  show bindL kindOf ((p, w) :: P.zip vs) m x = _
  unfold bindL
  exact wg (i := i) (List.nodup_cons.mp nd).2 (by simpa using h1) (by simpa using h2) hk
theorem vR {kindOf : Str -> Option NameKind} {x : Str} {v : Value} : ∀ {P : List Str} {vs : List Value} {i : Nat} {m : Str -> Option Value}, P.Nodup -> P[i]? = some x -> vs[i]? = some v -> kindOf x ≠ some .local ->
  bindC kindOf (P.zip vs) m x = some v
 | [], _, _, _, _, h, _, _ => by simp at h
 | _ :: _, [], _, _, _, _, h, _ => by simp at h
 | p :: P, w :: vs, 0, m, nd, h1, h2, hk => by
  simp at h1 h2; subst h1; subst h2
  show bindC kindOf ((p, w) :: P.zip vs) m p = _
  unfold bindC
  rw [wz fun v hv => (List.nodup_cons.mp nd).1 (List.of_mem_zip hv).1, if_neg hk]
  simp
 | p :: P, w :: vs, i + 1, m, nd, h1, h2, hk => by
  show bindC kindOf ((p, w) :: P.zip vs) m x = _
  unfold bindC
  exact vR (i := i) (List.nodup_cons.mp nd).2 (by simpa using h1) (by simpa using h2) hk
def start (N : List Str) (vs : List V) : St := vs.map some ++ List.replicate (N.length - vs.length) none
def pH (CX : CXT) (P : Program) (w : World) (K : PySem.W.Frag) (mg : Str -> Option Value) (base : Heap) (N : List Str) (qual : Str) (scope : Scope) (f : Addr) (cd : Value) (A : Around) (outer : List Env) (s : Shared) (H : Hp) (E : XK) : Cx where
 prog := P
 w := w
 K := K
 mg := mg
 base := base
 A := A.deeper (envOfC qual scope s.heap.objs.size f cd)
 N := N
 s₀ := s
 H₀ := H
 env := envOfC qual scope s.heap.objs.size f cd
 outer := outer
 stack := envOfC qual scope s.heap.objs.size f cd :: outer
 ex := []
 calm := true
 fn := fun _ => true
 pn := []
 xe := fun e s' => wpAny (model P w) (A.deeper (envOfC qual scope s.heap.objs.size f cd)) (leaving (envOfC qual scope s.heap.objs.size f cd) e) (fun _ s'' => CX outer H s E e s'') (fun e' s'' => CX outer H s E e' s'') s'
theorem xu {sc : Scope} {n : Nat} {x : Str} (h : sc.names.lookup x = some .cell) : ∃ c, (cellsFrom n sc.names []).lookup x = some c := by
 have q := PySem.W.cellsFrom_some sc.names n [] (.inl h)
 exact Option.isSome_iff_exists.mp q
theorem Ef {CX : CXT} {P : Program} {w : World} {K : PySem.W.Frag} {mg : Str -> Option Value} {base : Heap} {N ps : List Str} {qual : Str} {scope : Scope} {f : Addr} {cd : Value} {A : Around} {outer : List Env} {s s1 : Shared} {H : Hp} {E : XK} {us : List Value} {vs : List V}
  (S : FnScope N ps scope) (hd : A.handled = none) (e0 : Env0 P w K mg base A outer s H) (hl : vs.length = ps.length) (r : Vals vs us)
  (x : InCallC s s.heap.objs.size (bindL (envOfC qual scope s.heap.objs.size f cd).kindOf (ps.zip us) fun _ => none) (cellsFrom (s.heap.objs.size + 1) scope.names []) (bindC (envOfC qual scope s.heap.objs.size f cd).kindOf (ps.zip us) fun _ => none) s1) :
  Inv (pH CX P w K mg base N qual scope f cd A outer s H E) [] (start N vs) H s1 := by
 have hpl : ps.length <= N.length := by have := congrArg List.length S.pre; rw [List.length_take] at this; omega
 obtain ⟨h1, tk, rfl, hk⟩ := x.done
 have noA : ∀ b : Addr, b ∉ (pH CX P w K mg base N qual scope f cd A outer s H E).ex := fun b z => absurd (show b ∈ ([] : List Addr) from z) (by simp)
 refine ⟨⟨e0.mod, S.kind, rfl, rfl, Nat.le_refl _, fun y z c h1 h2 => ?_, fun y hy => ?_, fun y c _ h => ?_, fun _ => hd, Around.frames_deeper e0.frames, .inr ⟨rfl, rfl⟩, fun b z => absurd z (noA b), e0.bs, e0.bsz, fun b _ _ => noA b, fun b z => absurd z (noA b), e0.funs, e0.frf⟩,
  rfl, e0.bare, Un.kept hk, ⟨_, x.toInCall.ns, fun i y v h1 h2 h3 => ?_⟩, fun y c h => ⟨_, x.cell y c h⟩, e0.hok.fresh (Nat.le_refl _), fun y c h => ?_, fun p hp => absurd (show p ∈ ([] : List (Addr × Obj)) from hp) (by simp), e0.hok.kept hk, ?_⟩
 ·exact name_of_addr x.apart (PySem.mem_of_lookup h1) (PySem.mem_of_lookup h2)
 ·have hy : scope.names.lookup y = some .cell \/ scope.names.lookup y = some .free := hy
  rcases hy with hy | hy
  ·exact xu hy
  ·exact absurd rfl (S.nofree _ (PySem.mem_of_lookup hy))
 ·exact Nat.le_of_lt (x.above y c (PySem.mem_of_lookup h))
 ·have hi : i < vs.length := by
   unfold start at h2
   by_cases hi : i < vs.length
   ·exact hi
   ·rw [List.getElem?_append_right (by simpa using hi)] at h2
    rw [List.getElem?_replicate] at h2
    split at h2 <;> cases h2
  have ha : vs[i]? = some v := by
   unfold start at h2
   rw [List.getElem?_append_left (by simpa using hi), List.getElem?_map] at h2
   cases e : vs[i]? with
   | none => rw [e] at h2; cases h2
   | some a => rw [e] at h2; cases h2; rfl
  obtain ⟨u, hu, rv⟩ := r.get ha
  have hp : ps[i]? = some y := by
   rw [<- S.pre, List.getElem?_take_of_lt (by omega)]; exact h1
  have ndP : ps.Nodup := by rw [<- S.pre]; exact S.nd.sublist (List.take_sublist _ _)
  refine ⟨u, rv, ?_⟩
  rcases S.par y (List.mem_of_getElem? hp) with k | k
  ·exact .inl ⟨k, wg ndP hp hu k⟩
  ·obtain ⟨c, e⟩ := xu (n := s.heap.objs.size + 1) k
   refine .inr ⟨.inl k, c, e, ?_⟩
   have q := x.cell y c e
   rw [vR ndP hp hu (by show scope.names.lookup y ≠ _; rw [k]; decide)] at q
   exact q
 ·exact e0.hok.fresh (Nat.le_of_lt (x.above y c (PySem.mem_of_lookup h)))
 ·unfold start
  show _ = N.length
  rw [List.length_append, List.length_map, List.length_replicate]
  omega
theorem JW {CX : CXT} {P : Program} {w : World} {K : PySem.W.Frag} {mg : Str -> Option Value} {base : Heap} {k : Nat} {f : Addr} {name qual : Str} {params : Arguments} {body : List Stmt} {scope : Scope} {dV kV doc pm cdv ct oc : Value} {an od : Option Addr}
  {osl : Array (Option Value)} {N ps : List Str} {sp : Sp} (lk : K.lookup f = some ⟨oc, od, .func (PySem.W.fnOf name qual params body scope dV kV doc pm an cdv ct), osl⟩) (hcd : PySem.W.codeIn K cdv qual = true) (S : FnScope N ps scope)
  (len : ∀ vs H Q E, sp vs H Q E -> vs.length = ps.length)
  (hbody : ∀ (A : Around) (outer : List Env) (s : Shared) (H : Hp) (vs : List V) (Q : VK) (E : XK), Room k (A.deeper (envOfC qual scope s.heap.objs.size f cdv)) -> sp vs H Q E ->
   ∃ t, PSs (pH CX P w K mg base N qual scope f cdv A outer s H E) body t /\ t { nx := fun _ H' => Q .non H', rt := Q } (start N vs) H) :
  FnOk P w K mg base CX (k + 1) f (PySem.W.fnOf name qual params body scope dV kV doc pm an cdv ct) ps sp := by
 refine ⟨len, fun A outer s H args us vs Q E hr e0 hb r hsp => ?_⟩
 have hl := len _ _ _ _ hsp
 have KX : K.In s.heap := e0.mod.kin.keeps fun b o e => (e0.bs b o e).1
 have lim : s.heap.NoLimit := e0.mod.nolimit.keeps fun b o e => (e0.bs b o e).1
 have hkind : ∀ y ∈ ps.zip us, scope.names.lookup y.1 = some .local \/ (scope.names.lookup y.1 = some .cell /\ ((cellsFrom (s.heap.objs.size + 1) scope.names []).lookup y.1).isSome = true) := fun ⟨n, v⟩ hy => by
  rcases S.par n (List.of_mem_zip hy).1 with q | q
  ·exact .inl q
  ·exact .inr ⟨q, PySem.W.cellsFrom_some _ _ _ (.inl q)⟩
 refine codeAny_call_function hr.depth (KX _ _ lk) rfl S.co S.gen rfl (PySem.W.codeRec_of KX hcd) (hb _ _ _ _ ?_)
 refine wpAny_newFunctionEnv_cells S.kind hkind fun env he s1 x => ?_
 subst he
 refine ⟨lim.keeps x.toInCall.keep, codeAny_func ?_⟩
 obtain ⟨t, ht, hq⟩ := hbody A outer s H vs Q E (hr.deeper _) hsp
 have I : Inv (pH CX P w K mg base N qual scope f cdv A outer s H E) [] (start N vs) H s1 := Ef S hr.hd e0 hl r x
 refine wpAny_mono (ht [] s1 (start N vs) H _ I hq) (fun fl s' hs => ?_) fun e s' hs => hs
 have fin : ∀ {σ' : St} {H' : Hp} {v : V} {u : Value}, Inv (pH CX P w K mg base N qual scope f cdv A outer s H E) [] σ' H' s' -> RelV v u -> Q v H' -> CE outer P w H s Q u s' :=
  fun {σ' H' v u} J rv q => ⟨v, H', J.os, J.bare, J.base, J.hok, rv, q⟩
 cases fl with
 | ret u =>
  obtain ⟨v, σ', H', J, rv, q⟩ := hs
  exact fin J rv q
 | next =>
  obtain ⟨σ', H', J, q⟩ := hs
  exact fin (v := V.non) (u := Value.none) J rfl q
 | brk =>
  obtain ⟨_, _, _, q⟩ := hs
  exact False.elim q
 | cont =>
  obtain ⟨_, _, _, q⟩ := hs
  exact False.elim q
end L2
namespace L2
open PySem PySem.Spec PyProof.Rows
section
variable {X : Cx} {x : Str} {p pos : Pos} {e : Expr} {es : List Expr} {t : TA} {id T : String} {r : List V -> Hp -> VK -> Prop}
def tCB (r : List V -> Hp -> VK -> Prop) (t : TA) : TE := fun σ H Q => t σ H fun vs H1 => r vs H1 Q
theorem aK (hc : CallR X (.builtin id) r) (hg : Gl X x) (hm : X.mg x = none) (hv : bootBuiltins x = some (.builtin id)) (ha : PA X (e :: es) t) (hn : x ≠ "__name__" := by decide) (hdb : (x == ("__debug__" : Str)) = false := by decide)
  (he : starEach (e :: es) X.env = (false, eval e X.env) :: starEach es X.env := by rfl) (hpl : (backTo pos (starEach es X.env)).any (·.1) = false := by rfl) : PE X (.Call (.Name x p) (e :: es) [] pos) (tCB r t) := by
 intro pins s σ H Q I h
 refine wpAny_Call_Name_kw (lY I hg hm hv ?_ hn hdb)
 exact PyProof.Rows.callWith_builtin1 (thn (ha pos pins s σ H _ I h) fun us s1 ⟨vs, H1, I1, r1, q1⟩ => hc pins s1 σ H1 vs us Q I1 r1 q1) he hpl
theorem cu (hc : CallR X (.type T) r) (hg : Gl X x) (hm : X.mg x = none) (hv : bootBuiltins x = some (.type T)) (ha : PA X (e :: es) t) (hn : x ≠ "__name__" := by decide) (hdb : (x == ("__debug__" : Str)) = false := by decide)
  (he : starEach (e :: es) X.env = (false, eval e X.env) :: starEach es X.env := by rfl) (hpl : (backTo pos (starEach es X.env)).any (·.1) = false := by rfl) : PE X (.Call (.Name x p) (e :: es) [] pos) (tCB r t) := by
 intro pins s σ H Q I h
 refine wpAny_Call_Name_kw (lY I hg hm hv ?_ hn hdb)
 exact PyProof.Rows.callWith_type1 (thn (ha pos pins s σ H _ I h) fun us s1 ⟨vs, H1, I1, r1, q1⟩ => hc pins s1 σ H1 vs us Q I1 r1 q1) he hpl
end
end L2
namespace HT
open PySem PyProof.Rows
def lexLt : List Int -> List Int -> Bool
 | [], [] => false
 | [], _ :: _ => true
 | _ :: _, [] => false
 | x :: xs, y :: ys => if x = y then lexLt xs ys else decide (x < y)
section
open PySem.SeqAt
open PySem.AutoSeq1 (wpAny_loadPart')
open PySem.MeetsSeq PySem.MeetsSeq2 PySem.MeetsSeq3
end
section
variable {prog : Program} {w : World} {A : Around} {E : Value -> Shared -> Prop} {s : Shared}
def sIx (n d : Nat) : Option Int -> Nat
 | none => d
 | some v => if v < 0 then (v + (n : Int)).toNat else min v.toNat n
end
end HT
namespace L2
open PySem PySem.Spec PyProof.Rows
abbrev TO := St -> Hp -> (Option Int -> Hp -> Prop) -> Prop
def PO (X : Cx) (e : Option Expr) (t : TO) : Prop :=
 ∀ (pins : List (Addr × Obj)) (s : Shared) (σ : St) (H : Hp) (Q : Option Int -> Hp -> Prop), Inv X pins σ H s -> t σ H Q ->
  wpAny (model X.prog X.w) X.A (evalPart e X.env) (fun u s' => ∃ o H', Inv X pins σ H' s' /\ IsPart u o /\ Q o H') X.xe s
def Ib : TO := fun _ H Q => Q none H
def Ka (t : TE) : TO := fun σ H Q => t σ H fun x H1 => ∃ i, x = .int i /\ Q (some i) H1
section
variable {X : Cx} {e : Expr} {te : TE} {lo hi : Option Expr} {tl th : TO} {pos p2 : Pos}
theorem gh : PO X none Ib := by
 intro pins s σ H Q I h
 rw [evalPart_none]
 exact wpAny_pure ⟨none, H, I, .none, h⟩
theorem fY (h : PE X e te) : PO X (some e) (Ka te) := by
 intro pins s σ H Q I hw
 rw [evalPart_some]
 refine thn (h pins s σ H _ I hw) fun u s1 ⟨x, H1, I1, r1, q1⟩ => ?_
 obtain ⟨i, rfl, q⟩ := q1
 obtain ⟨t, rfl⟩ := r1
 exact ⟨some i, H1, I1, .int i t, q⟩
def SlR (X : Cx) (r : V -> Option Int -> Option Int -> Hp -> VK -> Prop) : Prop :=
 ∀ (pins : List (Addr × Obj)) (s : Shared) (σ : St) (H : Hp) (x : V) (v vl vu : Value) (lo hi : Option Int) (sl : Addr) (Q : VK), Inv X pins σ H s -> RelV x v -> s.heap.IsSliceOf sl vl vu .none -> IsPart vl lo -> IsPart vu hi -> r x lo hi H Q ->
  ∃ T id, typeLookup (.type T) "__getitem__" = pure (some (.builtin id)) /\ s.TypeIs v T /\ wpAny (model X.prog X.w) X.A (getItem v (.ref sl)) (EP X pins σ Q) X.xe s
theorem SlR.or {r r' : V -> Option Int -> Option Int -> Hp -> VK -> Prop} (h : SlR X r) (h' : SlR X r') : SlR X (fun x lo hi H Q => r x lo hi H Q \/ r' x lo hi H Q) := by
 intro pins s σ H x v vl vu lo hi sl Q I rx hs pl pu q
 rcases q with q | q
 ·exact h pins s σ H x v vl vu lo hi sl Q I rx hs pl pu q
 ·exact h' pins s σ H x v vl vu lo hi sl Q I rx hs pl pu q
def tSl (r : V -> Option Int -> Option Int -> Hp -> VK -> Prop) (te : TE) (tl th : TO) : TE := fun σ H Q => te σ H fun x H1 => tl σ H1 fun l H2 => th σ H2 fun u H3 => r x l u H3 Q
theorem eV {r : V -> Option Int -> Option Int -> Hp -> VK -> Prop} (hr : SlR X r) (he : PE X e te) (hl : PO X lo tl) (hu : PO X hi th) : PE X (.Subscript e (.Slice lo hi none p2) pos) (tSl r te tl th) := by
 intro pins s σ H Q I h
 refine Subscript_ (thn (he pins s σ H _ I h) fun v s1 ⟨x, H1, I1, r1, q1⟩ => ?_)
 refine wpAny_Slice (thn (hl pins s1 σ H1 _ I1 q1) fun vl s2 ⟨l, H2, I2, pl, q2⟩ => thn (hu pins s2 σ H2 _ I2 q2) fun vu s3 ⟨u, H3, I3, pu, q3⟩ => ?_)
 rw [evalPart_none]
 refine wpAny_pure ?_
 have I4 : Inv X pins σ H3 { s3 with heap := s3.heap.push { cls := .type "slice", data := .fields #[vl, vu, .none] } } := I3.kept (t' := s3.toks) fun b ob q => Heap.get?_push_of_some _ q
 obtain ⟨T, id, hT, ht, hg⟩ := hr pins { s3 with heap := s3.heap.push { cls := .type "slice", data := .fields #[vl, vu, .none] } } σ H3 x v vl vu l u s3.heap.objs.size Q I4 r1 (Heap.IsSliceOf.new ..) pl pu q3
 show wpAny (model X.prog X.w) X.A (subscriptTail e (.Slice lo hi none p2) v (.ref s3.heap.objs.size)) (EP X pins σ Q) X.xe { s3 with heap := s3.heap.push { cls := .type "slice", data := .fields #[vl, vu, .none] } }
 exact tail_any (ops := [.ref s3.heap.objs.size, v]) ht hT hg (by with_unfolding_all rfl)
def cP (xs : List V) (lo hi : Option Int) : List V := (xs.drop (HT.sIx xs.length 0 lo)).take (HT.sIx xs.length xs.length hi - HT.sIx xs.length 0 lo)
theorem zU (xs : List V) (lo hi : Option Int) : (cP xs lo hi).length <= xs.length := by
 unfold cP
 rw [List.length_take, List.length_drop]
 omega
def Mj (K : PySem.W.Frag) : V -> Option Int -> Option Int -> Hp -> VK -> Prop := fun x lo hi H Q => ∃ a xs, x = .ref a /\ SqT K H a xs /\
 ¬ (HT.sIx xs.length 0 lo = 0 /\ HT.sIx xs.length xs.length hi = xs.length) /\ ∀ p, H p = none -> Q (.ref p) (upd H p (.tup (cP xs lo hi)))
def Lx (K : PySem.W.Frag) : R2 := fun x y H Q => ∃ a b ns ms, x = .ref a /\ y = .ref b /\ SqT K H a (ns.map V.int) /\ SqT K H b (ms.map V.int) /\ Q (.bl (HT.lexLt ns ms)) H
def Ln (K : PySem.W.Frag) : R2 := fun x y H Q => ∃ a b xs ys, x = .ref a /\ y = .ref b /\ SqT K H a xs /\ SqT K H b ys /\ xs ≠ [] /\ xs.length + ys.length <= sizeLine /\
 (ys = [] -> Q (.ref a) H) /\ (ys ≠ [] -> ∀ p, H p = none -> Q (.ref p) (upd H p (.tup (xs ++ ys))))
end
end L2
namespace L2
open PySem PySem.Spec PyProof.Rows
def ixN (n : Nat) (i : Int) : Option Nat := if 0 <= i then (if i < n then some i.toNat else none) else if -(n : Int) <= i then some (i + n).toNat else none
def atI {α : Type} (xs : List α) (i : Int) : Option α := (ixN xs.length i).bind fun j => xs[j]?
theorem Bc {n : Nat} {i : Int} {j : Nat} (h : ixN n i = some j) : seqIndex? i n = some j /\ j < n /\ -(n : Int) <= i /\ i < n := by
 unfold ixN at h
 by_cases h0 : 0 <= i
 ·rw [if_pos h0] at h
  by_cases h1 : i < n
  ·rw [if_pos h1] at h
   have e : i.toNat = j := Option.some.inj h
   exact ⟨by rw [seqIndex_of h0 h1, e], by omega, by omega, h1⟩
  ·rw [if_neg h1] at h; cases h
 ·rw [if_neg h0] at h
  by_cases h1 : -(n : Int) <= i
  ·rw [if_pos h1] at h
   have e : (i + n).toNat = j := Option.some.inj h
   exact ⟨by rw [seqIndex_neg (by omega) h1, e], by omega, h1, by omega⟩
  ·rw [if_neg h1] at h; cases h
theorem uC {α : Type} {xs : List α} {i : Int} {v : α} (h : atI xs i = some v) : ∃ j, seqIndex? i xs.length = some j /\ xs[j]? = some v /\ j < xs.length /\ -(xs.length : Int) <= i /\ i < xs.length := by
 unfold atI at h
 cases e : ixN xs.length i with
 | none => rw [e] at h; cases h
 | some j =>
  rw [e] at h
  obtain ⟨h1, h2, h3, h4⟩ := Bc e
  exact ⟨j, h1, h, h2, h3, h4⟩
theorem gP {α : Type} {xs : List α} {j : Nat} {v : α} (h : xs[j]? = some v) : atI xs (j : Int) = some v := by
 have hj : j < xs.length := (List.getElem?_eq_some_iff.mp h).1
 have e : ixN xs.length (j : Int) = some j := by
  unfold ixN
  rw [if_pos (by omega), if_pos (by omega)]; simp
 unfold atI; rw [e]; exact h
def Hc (b : Expr) : Prop := ∀ o i, subscripted b false o i = operate [o, i] (getItem o i)
def IxR (X : Cx) (r : R2) : Prop :=
 ∀ (value slice : Expr) (pins : List (Addr × Obj)) (s : Shared) (σ : St) (H : Hp) (x y : V) (v u : Value) (Q : VK), Inv X pins σ H s -> RelV x v -> RelV y u -> r x y H Q ->
  subscripted slice false v u = operate [v, u] (getItem v u) -> wpAny (model X.prog X.w) X.A (subscriptTail value slice v u) (EP X pins σ Q) X.xe s
def MtR (X : Cx) (id : String) (r : V -> List V -> Hp -> VK -> Prop) : Prop :=
 ∀ (pins : List (Addr × Obj)) (s : Shared) (σ : St) (H : Hp) (x : V) (xs : List V) (v : Value) (us : List Value) (Q : VK), Inv X pins σ H s -> RelV x v -> Vals xs us -> r x xs H Q ->
  wpAny (model X.prog X.w) X.A (call (.builtin id) (v :: us)) (EP X pins σ Q) X.xe s
section
variable {X : Cx} {a b : Expr} {ta tb : TE} {pos : Pos}
theorem IxR.or {r r' : R2} (h : IxR X r) (h' : IxR X r') : IxR X (fun x y H Q => r x y H Q \/ r' x y H Q) := by
 intro value slice pins s σ H x y v u Q I rx ry q hs
 rcases q with q | q
 ·exact h value slice pins s σ H x y v u Q I rx ry q hs
 ·exact h' value slice pins s σ H x y v u Q I rx ry q hs
theorem MtR.or {id : String} {r r' : V -> List V -> Hp -> VK -> Prop} (h : MtR X id r) (h' : MtR X id r') : MtR X id (fun x xs H Q => r x xs H Q \/ r' x xs H Q) := by
 intro pins s σ H x xs v us Q I rx rs q
 rcases q with q | q
 ·exact h pins s σ H x xs v us Q I rx rs q
 ·exact h' pins s σ H x xs v us Q I rx rs q
theorem aQ {r : R2} (hr : IxR X r) (ha : PE X a ta) (hb : PE X b tb) (hs : Hc b) : PE X (.Subscript a b pos) (tOp r ta tb) := by
 intro pins s σ H Q I h
 exact Subscript_ (Gh ha hb I h fun v u s2 x y H2 I2 rx ry q => hr a b pins s2 σ H2 x y v u Q I2 rx ry q (hs _ _))
def yu (K : PySem.W.Frag) : R2 := fun x y H Q => ∃ p xs i v, x = .ref p /\ y = .int i /\ SqL K H p xs /\ atI xs i = some v /\ Q v H
def Fo (K : PySem.W.Frag) : R2 := fun x y H Q => ∃ p xs i v, x = .ref p /\ y = .int i /\ SqT K H p xs /\ atI xs i = some v /\ Q v H
def Ks : R2 := fun x y H Q => ∃ z i c, x = .str z /\ y = .int i /\ z.length <= sizeLine /\ atI z.cps.toList i = some c /\ Q (.str ⟨#[c]⟩) H
theorem Hw : IxR X (yu X.K) := by
 intro value slice pins s σ H x y v u Q I rx ry h hs
 obtain ⟨p, xs, i, z, rfl, rfl, hq, he, q⟩ := h
 cases rx
 obtain ⟨t, rfl⟩ := ry
 obtain ⟨its, r, pl, hz⟩ := I.list hq
 obtain ⟨j, h1, h2, h3, h4, h5⟩ := uC he
 obtain ⟨w, ew, rw'⟩ := r.get h2
 have hl := r.length
 have hn := ph
 have fin : EP X pins σ Q w s := ⟨z, H, I, rw', q⟩
 by_cases h0 : 0 <= i
 ·have hj : i.toNat = j := by
   rw [seqIndex_of h0 h5] at h1
   exact Option.some.inj h1
  exact item_listR pl.isList h0 (by omega) (by rw [hj]; simpa using ew) fin hs
 ·have hj : (i + (its.toArray.size : Int)).toNat = j := by
   rw [seqIndex_neg (by omega) h4] at h1
   rw [List.size_toArray, <- hl]
   exact Option.some.inj h1
  exact subscriptTail_builtinR (x := w) pl.isList.typeIs slot_list_getitem.lookup
   (wpAny_getItem_list_neg (Q := fun r s' => r = w /\ EP X pins σ Q r s') pl.isList (by omega) (by rw [List.size_toArray] <;> omega) (by omega) (by rw [hj]; simpa using ew) ⟨rfl, fin⟩) hs
theorem JQ : IxR X (Fo X.K) := by
 intro value slice pins s σ H x y v u Q I rx ry h hs
 obtain ⟨p, xs, i, z, rfl, rfl, hq, he, q⟩ := h
 cases rx
 obtain ⟨t, rfl⟩ := ry
 obtain ⟨its, r, pl, hz⟩ := I.tuple hq
 obtain ⟨j, h1, h2, h3, h4, h5⟩ := uC he
 obtain ⟨w, ew, rw'⟩ := r.get h2
 have hl := r.length
 have hn := ph
 have fin : EP X pins σ Q w s := ⟨z, H, I, rw', q⟩
 exact subscriptTail_builtinR (x := w) pl.typeIs slot_tuple_getitem.lookup
  (getItem_tuple (j := j) (Q := fun r s' => r = w /\ EP X pins σ Q r s') pl (by omega) (by omega) (by rw [List.size_toArray, <- hl]; exact h1) (by simpa using ew) ⟨rfl, fin⟩) hs
def rIx (K : PySem.W.Frag) : R2 := fun x y H Q => yu K x y H Q \/ Fo K x y H Q \/ Ks x y H Q
theorem Ci (its : List Value) (n j : Nat) (u : Value) : Obj.mapSeq (·.setIfInBounds j u) { cls := .type "list", data := .seq its.toArray n } = { cls := .type "list", data := .seq (its.set j u).toArray n } := by
 simp [Obj.mapSeq]
theorem Inv.lst {pins : List (Addr × Obj)} {σ : St} {H : Hp} {s : Shared} {p : Addr} {xs : List V} (I : Inv X pins σ H s) (h : H p = some (.lst xs)) :
  ∃ (its : List Value) (n : Nat), Vals xs its /\ s.heap.get? p = some { cls := .type "list", data := .seq its.toArray n } /\ xs.length <= sizeLine := by
 obtain ⟨z, its, n, r, e⟩ := I.hok p _ h
 exact ⟨its, n, r, e, z⟩
theorem Inv.lstUpd {pins : List (Addr × Obj)} {σ : St} {H : Hp} {s : Shared} {p : Addr} {xs ys : List V} {its its' : List Value} {n n' : Nat} {f : Obj -> Obj} (I : Inv X pins σ H s) (h : H p = some (.lst xs))
  (ho : s.heap.get? p = some { cls := .type "list", data := .seq its.toArray n }) (hf : f { cls := .type "list", data := .seq its.toArray n } = { cls := .type "list", data := .seq its'.toArray n' }) (r : Vals ys its') (hz : ys.length <= sizeLine) (t : Nat) :
  Inv X pins σ (upd H p (.lst ys)) { s with heap := s.heap.update p f, toks := t } := by
 have e : (s.heap.update p f).get? p = some { cls := .type "list", data := .seq its'.toArray n' } := by
  rw [Heap.get?_update_self f ho (by rw [hf] <;> rfl), hf]
 refine I.write (x := p) (e := p) (by rw [h]; trivial) (.inl rfl) (fun b u hb q => (Heap.get?_update_other _ _ (Ne.symm hb)).trans q) ⟨_, e⟩ ?_
 exact ⟨hz, its', n', r, e⟩
def JV : V -> V -> V -> Hp -> (Hp -> Prop) -> Prop := fun o i v H Q => ∃ p xs k j, o = .ref p /\ i = .int k /\ H p = some (.lst xs) /\ ixN xs.length k = some j /\ Q (upd H p (.lst (xs.set j v)))
theorem set_list : Fi X JV := by
 intro pins s σ H o i v ov iv u Q I ro ri rv h
 obtain ⟨p, xs, k, j, rfl, rfl, hp, hj, q⟩ := h
 cases ro
 obtain ⟨t, rfl⟩ := ri
 obtain ⟨its, n, r, ho, hz⟩ := I.lst hp
 obtain ⟨h1, h2, h3, h4⟩ := Bc hj
 have hl := r.length
 have hn := ph
 have I' : Inv X pins σ (upd H p (.lst (xs.set j v))) { s with heap := s.heap.update p (Obj.mapSeq (·.setIfInBounds j u)) } :=
  I.lstUpd hp ho (Ci its n j u) (r.set rv j) (by rw [List.length_set]; exact hz) s.toks
 by_cases h0 : 0 <= k
 ·have hk : k.toNat = j := by
   rw [seqIndex_of h0 h4] at h1
   exact Option.some.inj h1
  exact PySem.W.ki_setAt ho h0 (by omega) (by rw [List.size_toArray, <- hl]; exact h4) (by rw [hk]; exact ⟨_, I', q⟩)
 ·have hk : (k + (its.toArray.size : Int)).toNat = j := by
   rw [seqIndex_neg (by omega) h3] at h1
   rw [List.size_toArray, <- hl]
   exact Option.some.inj h1
  exact PySem.W.ki_setBack ho (by omega) (by rw [List.size_toArray, <- hl]; exact h3) (by omega) (by rw [hk]; exact ⟨_, I', q⟩)
theorem yJ (lo hi : Option Int) (n : Nat) : (sliceBounds lo hi none n).1 = ((HT.sIx n 0 lo : Nat) : Int) /\ (sliceBounds lo hi none n).2.1 = ((HT.sIx n n hi : Nat) : Int) /\ (sliceBounds lo hi none n).2.2 = 1 := by
 refine ⟨?_, ?_, rfl⟩
 ·cases lo with
  | none => simp [sliceBounds, HT.sIx]
  | some i =>
   simp only [sliceBounds, HT.sIx, Option.getD_none, show (1 : Int) > 0 by decide, if_true]
   by_cases h : i < 0
   ·simp only [h, if_true] <;> omega
   ·simp only [h, if_false] <;> omega
 ·cases hi with
  | none => simp [sliceBounds, HT.sIx]
  | some i =>
   simp only [sliceBounds, HT.sIx, Option.getD_none, show (1 : Int) > 0 by decide, if_true]
   by_cases h : i < 0
   ·simp only [h, if_true] <;> omega
   ·simp only [h, if_false] <;> omega
theorem wJ (its : List Value) (lo hi : Option Int) : slicePick its.toArray lo hi none = ((its.drop (HT.sIx its.length 0 lo)).take (HT.sIx its.length its.length hi - HT.sIx its.length 0 lo)).toArray := by
 obtain ⟨h1, h2, h3⟩ := yJ lo hi its.toArray.size
 unfold slicePick
 rw [h1, h2, h3]
 simp only [sliceRange_one, pick_run, List.size_toArray] <;> rfl
def JR (K : PySem.W.Frag) : V -> Option Int -> Option Int -> Hp -> VK -> Prop := fun x lo hi H Q => ∃ a xs, x = .ref a /\ SqL K H a xs /\ ∀ p, H p = none -> Q (.ref p) (upd H p (.lst (cP xs lo hi)))
theorem H_ : SlR X (JR X.K) := by
 intro pins s σ H x v vl vu lo hi sl Q I rx hs pl pu h
 obtain ⟨a, xs, rfl, hx, q⟩ := h
 cases rx
 obtain ⟨its, r, ht, hz⟩ := I.list hx
 have hlen := r.length
 refine ⟨"list", _, slot_list_getitem.lookup, ht.isList.typeIs, ?_⟩
 refine wpAny_getItem_list_slice ht.isList hs pl pu .none (by simp) ?_ (by rw [List.size_toArray] <;> omega)
 rw [wJ, <- hlen]
 refine ⟨.ref s.heap.objs.size, _, I.laid (t' := s.toks) (o := .lst (cP xs lo hi)) (fun b ob q => Heap.get?_push_of_some _ q) (Nat.le_refl _) ?_, rfl, q _ (I.hok.fresh (Nat.le_refl _))⟩
 exact ⟨Nat.le_trans (zU xs lo hi) hz, _, 0, (r.drop (HT.sIx xs.length 0 lo)).take (HT.sIx xs.length xs.length hi - HT.sIx xs.length 0 lo), Heap.get?_push_size _ rfl⟩
def jR : V -> Bool
 | .non => true
 | .bl _ => true
 | .int _ => true
 | .str _ => true
 | _ => false
def eqV : V -> V -> Bool
 | .non, .non => true
 | .bl a, .bl b => a == b
 | .bl a, .int b => (if a then 1 else 0) == b
 | .int a, .bl b => a == (if b then 1 else 0)
 | .int a, .int b => a == b
 | .str a, .str b => a == b
 | _, _ => false
theorem Jj {A : Around} {s : Shared} {y x : V} {u v : Value} (ry : RelV y u) (rx : RelV x v) (fy : jR y = true) (fx : jR x = true) : SeqAt.EqAt A s u v (eqV y x) := by
 cases y with
 | non =>
  cases ry
  cases x with
  | non => cases rx; exact SeqAt.EqAt.same _
  | bl b => cases rx; exact SeqAt.EqAt.none_bool b
  | int b => obtain ⟨t, rfl⟩ := rx; exact SeqAt.EqAt.none_int b t
  | str b => obtain ⟨t, rfl⟩ := rx; exact SeqAt.EqAt.none_str b t
  | _ => exact absurd (show false = true from fx) Bool.false_ne_true
 | bl a =>
  cases ry
  cases x with
  | non => cases rx; exact SeqAt.EqAt.bool_none a
  | bl b => cases rx; exact SeqAt.EqAt.bool_bool a b
  | int b => obtain ⟨t, rfl⟩ := rx; exact SeqAt.EqAt.bool_int a b t
  | str b => obtain ⟨t, rfl⟩ := rx; exact SeqAt.EqAt.bool_str a b t
  | _ => exact absurd (show false = true from fx) Bool.false_ne_true
 | int a =>
  obtain ⟨t', rfl⟩ := ry
  cases x with
  | non => cases rx; exact SeqAt.EqAt.int_none a t'
  | bl b => cases rx; exact SeqAt.EqAt.int_bool a t' b
  | int b => obtain ⟨t, rfl⟩ := rx; exact SeqAt.EqAt.int_int a t' b t
  | str b => obtain ⟨t, rfl⟩ := rx; exact SeqAt.EqAt.int_str a t' b t
  | _ => exact absurd (show false = true from fx) Bool.false_ne_true
 | str a =>
  obtain ⟨t', rfl⟩ := ry
  cases x with
  | non => cases rx; exact SeqAt.EqAt.str_none a t'
  | bl b => cases rx; exact SeqAt.EqAt.str_bool a t' b
  | int b => obtain ⟨t, rfl⟩ := rx; exact SeqAt.EqAt.str_int a t' b t
  | str b => obtain ⟨t, rfl⟩ := rx; exact SeqAt.EqAt.str_str a t' b t
  | _ => exact absurd (show false = true from fx) Bool.false_ne_true
 | _ => exact absurd (show false = true from fy) Bool.false_ne_true
def eqU (x : V) (u : Value) : Bool := match u with
 | .none => eqV .non x
 | .bool b => eqV (.bl b) x
 | .int i _ => eqV (.int i) x
 | .str z _ => eqV (.str z) x
 | _ => false
theorem DQ {x y : V} {u : Value} (r : RelV y u) (f : jR y = true) : eqU x u = eqV y x := by
 cases y with
 | non => cases r; rfl
 | bl b => cases r; rfl
 | int i => obtain ⟨t, rfl⟩ := r; rfl
 | str z => obtain ⟨t, rfl⟩ := r; rfl
 | _ => exact absurd (show false = true from f) Bool.false_ne_true
theorem vh {x : V} : ∀ {xs : List V} {us : List Value}, Vals xs us -> xs.all jR = true -> us.any (eqU x) = xs.any fun y => eqV y x
 | _, _, .nil, _ => rfl
 | y :: xs, u :: us, .cons r t, f => by
  rw [List.all_cons, Bool.and_eq_true] at f
  rw [List.any_cons, List.any_cons, DQ r f.1, vh t f.2]
theorem qT {A : Around} {s : Shared} {x : V} {v : Value} (rx : RelV x v) (fx : jR x = true) : ∀ {xs : List V} {us : List Value}, Vals xs us -> xs.all jR = true -> ∀ u ∈ us, SeqAt.EqAt A s u v (eqU x u)
 | _, _, .nil, _ => fun u hu => by cases hu
 | y :: xs, u :: us, .cons r t, f => fun u' hu => by
  rw [List.all_cons, Bool.and_eq_true] at f
  rcases List.mem_cons.mp hu with rfl | hu
  ·rw [DQ r f.1]; exact Jj r rx f.1 fx
  ·exact qT rx fx t f.2 u' hu
def inV (x : V) (xs : List V) : Bool := xs.any fun y => eqV y x
def rIn (K : PySem.W.Frag) (neg : Bool) : R2 := fun x y H Q => ∃ p xs, y = .ref p /\ (SqL K H p xs \/ SqT K H p xs) /\ jR x = true /\ xs.all jR = true /\ Q (.bl (if neg then !inV x xs else inV x xs)) H
theorem DR : OpR X (compareOp .In) (rIn X.K false) := by
 intro pins s σ H x y v u Q I rx ry h
 obtain ⟨p, xs, rfl, hq, fx, fs, q⟩ := h
 cases ry
 rcases hq with hq | hq
 ·obtain ⟨its, r, pl, hz⟩ := I.list hq
  refine SeqAt.in_listAt (eqU x) pl.isList (fun w hw => qT rx fx r fs w (by simpa using hw)) ⟨.bl _, H, I, rfl, ?_⟩
  rw [show its.toArray.any (eqU x) = its.any (eqU x) by simp, vh r fs]
  exact q
 ·obtain ⟨its, r, pl, hz⟩ := I.tuple hq
  refine SeqAt.in_tupleAt (eqU x) pl (fun w hw => qT rx fx r fs w (by simpa using hw)) ⟨.bl _, H, I, rfl, ?_⟩
  rw [show its.toArray.any (eqU x) = its.any (eqU x) by simp, vh r fs]
  exact q
theorem yD : CallR X (.builtin "len") (fun xs H Q => ∃ p ys, xs = [.ref p] /\ (SqL X.K H p ys \/ SqT X.K H p ys) /\ Q (.int ys.length) H) := by
 intro pins s σ H xs us Q I r h
 obtain ⟨p, ys, rfl, hq, q⟩ := h
 obtain ⟨u, rfl, rx⟩ := vals1 r
 cases rx
 have hn := ph
 rcases hq with hq | hq
 ·obtain ⟨its, r', pl, hz⟩ := I.list hq
  have hlen := r'.length
  exact Calls.call_len_list pl.isList (by simp only [List.size_toArray] <;> omega) ⟨.int ys.length, H, I.tok _, ⟨s.toks + 1, by rw [List.size_toArray, hlen]⟩, q⟩
 ·obtain ⟨its, r', pl, hz⟩ := I.tuple hq
  have hlen := r'.length
  exact len_tuple pl (by simp only [List.size_toArray] <;> omega) ⟨.int ys.length, H, I.tok _, ⟨s.toks + 1, by rw [List.size_toArray, hlen]⟩, q⟩
theorem CallR.or {f : Value} {r r' : List V -> Hp -> VK -> Prop} (h : CallR X f r) (h' : CallR X f r') : CallR X f (fun xs H Q => r xs H Q \/ r' xs H Q) := by
 intro pins s σ H xs us Q I rs q
 rcases q with q | q
 ·exact h pins s σ H xs us Q I rs q
 ·exact h' pins s σ H xs us Q I rs q
theorem xK : CallR X (.type "list") (fun xs H Q => ∃ p ys, xs = [.ref p] /\ (SqL X.K H p ys \/ SqT X.K H p ys) /\ ∀ l, H l = none -> Q (.ref l) (upd H l (.lst ys))) := by
 intro pins s σ H xs us Q I r h
 obtain ⟨p, ys, rfl, hq, q⟩ := h
 obtain ⟨u, rfl, rx⟩ := vals1 r
 cases rx
 have fin : ∀ (its : List Value), Vals ys its -> ys.length <= sizeLine -> ∀ (h' : Heap) (c' : Nat), (∀ b o', s.heap.get? b = some o' -> h'.get? b = some o') ->
   h'.get? s.heap.objs.size = some { cls := .type "list", dict := none, data := .seq its.toArray c', slots := #[] } -> EP X pins σ Q (.ref s.heap.objs.size) { s with heap := h' } := fun its r' hz h' c' kp e =>
  ⟨.ref s.heap.objs.size, _, I.laid (t' := s.toks) kp (Nat.le_refl _) (show ObjOk X.prog X.w _ h' _ (.lst ys) from ⟨hz, its, c', r', e⟩), rfl, q _ (I.hok.fresh (Nat.le_refl _))⟩
 rcases hq with hq | hq
 ·obtain ⟨its, r', pl, hz⟩ := I.list hq
  have hlen := r'.length
  obtain ⟨o, ho, hc, n, hd⟩ := pl.isList
  exact call_list_seq p (.inl rfl) ho hc hd (fun h' c' kp e => fin its r' hz h' c' kp e) (by simp only [List.size_toArray] <;> omega)
 ·obtain ⟨its, r', pl, hz⟩ := I.tuple hq
  have hlen := r'.length
  obtain ⟨o, ho, hc, n, hd⟩ := pl
  exact call_list_seq p (.inr rfl) ho hc hd (fun h' c' kp e => fin its r' hz h' c' kp e) (by simp only [List.size_toArray] <;> omega)
def tyV (K : PySem.W.Frag) (T : String) (x : V) (H : Hp) : Prop := match x with
 | .str _ => T = "str"
 | .int _ => T = "int"
 | .ref p => (T = "list" /\ ∃ xs, SqL K H p xs) \/ (T = "tuple" /\ ∃ o, K.lookup p = some o /\ o.cls = .type "tuple" /\ o.dict = none) \/
   (T = "dict" /\ ((∃ kvs, H p = some (.dK kvs)) \/ ∃ kvs, H p = some (.dT kvs))) \/ (T = "set" /\ ∃ S n, H p = some (.set S n))
 | _ => False
theorem Ek {pins : List (Addr × Obj)} {σ : St} {H : Hp} {s : Shared} {T : String} {x : V} {v : Value} (I : Inv X pins σ H s) (r : RelV x v) (ty : tyV X.K T x H) :
  s.TypeIs v T /\ ∀ a, v = .ref a -> ∃ ob, s.heap.get? a = some ob /\ ob.dict = none := by
 cases x with
 | str z =>
  obtain ⟨t, rfl⟩ := r
  cases (show T = "str" from ty)
  exact ⟨typeIs_str s z t, fun _ e => nomatch e⟩
 | int i =>
  obtain ⟨t, rfl⟩ := r
  cases (show T = "int" from ty)
  exact ⟨typeIs_int s i t, fun _ e => nomatch e⟩
 | ref p =>
  cases r
  rcases ty with ⟨rfl, xs, hq⟩ | ⟨rfl, o, hk, hc, hd⟩ | ⟨rfl, hk⟩ | ⟨rfl, S, n, hk⟩
  ·obtain ⟨its, _, pl, _⟩ := I.list hq
   refine ⟨pl.isList.typeIs, fun a e => ?_⟩
   cases e
   obtain ⟨o, n, e, c, hd, _⟩ := pl
   exact ⟨o, e, hd⟩
  ·refine ⟨⟨o, I.kIn p o hk, hc⟩, fun a e => ?_⟩
   cases e
   exact ⟨o, I.kIn _ o hk, hd⟩
  ·have z : ∃ o, s.heap.get? p = some o /\ o.ExactDict := by
    rcases hk with ⟨kvs, hk⟩ | ⟨kvs, hk⟩
    ·obtain ⟨_, _, _, _, o, _, _, e, ex, _⟩ := I.hok p _ hk
     exact ⟨o, e, ex⟩
    ·obtain ⟨_, _, _, _, o, _, _, e, ex, _⟩ := I.hok p _ hk
     exact ⟨o, e, ex⟩
   obtain ⟨o, e, ex⟩ := z
   refine ⟨⟨o, e, ex.1⟩, fun a e2 => ?_⟩
   cases e2
   exact ⟨o, e, ex.2.1⟩
  ·obtain ⟨o, _, _, _, e, ex, _⟩ := I.hok p _ hk
   refine ⟨⟨o, e, ex.1⟩, fun a e2 => ?_⟩
   cases e2
   exact ⟨o, e, ex.2.1⟩
 | _ => exact False.elim ty
def Kl (K : PySem.W.Frag) (T : String) (r : V -> List V -> Hp -> VK -> Prop) (to : TE) : TE := fun σ H Q => to σ H fun x H1 => tyV K T x H1 /\ r x [] H1 Q
def tBM (K : PySem.W.Frag) (T : String) (r : V -> List V -> Hp -> VK -> Prop) (to : TE) (t : TA) : TE := fun σ H Q => to σ H fun x H1 => tyV K T x H1 /\ t σ H1 fun xs H2 => r x xs H2 Q
variable {o e : Expr} {es : List Expr} {to : TE} {t : TA} {name : Str} {apos cpos : Pos} {T id : String} {r : V -> List V -> Hp -> VK -> Prop}
theorem JF (pa : PlainAttrs T) (slot : Slot T name id) (hty : typeOf (.builtin id) = pure (.type "method_descriptor")) (hm : MtR X id r) (ho : PE X o to)
  (hbase : attributeBase o name X.env (eval o X.env) = eval o X.env := by rfl) (hline : (apos.endLine == cpos.line) = true := by rfl) : PE X (.Call (.Attribute o name apos) [] [] cpos) (Kl X.K T r to) := by
 intro pins s σ H Q I h
 refine wpAny_Call_method0_late hbase hline (thn (ho pins s σ H _ I h) fun v s1 ⟨x, H1, I1, r1, ty, q1⟩ => ?_)
 obtain ⟨h1, h2⟩ := Ek I1 r1 ty
 exact ⟨T, id, pa, slot, hty, h1, h2, Calls.callWith_builtin rfl (PySem.evalArgs_none (hm pins s1 σ H1 x [] v [] Q I1 r1 .nil q1))⟩
theorem ik (pa : PlainAttrs T) (slot : Slot T name id) (hty : typeOf (.builtin id) = pure (.type "method_descriptor")) (hm : MtR X id r) (ho : PE X o to) (ha : PA X (e :: es) t)
  (hbase : attributeBase o name X.env (eval o X.env) = eval o X.env := by rfl)
  (hfew : ((backTo cpos (starEach (e :: es) X.env)).all (fun x => !x.1) && (backToKw cpos (keywordEach [] X.env)).all (fun x => x.1.isSome)
   && decide ((e :: es).length + ([] : List Keyword).length + (if ([] : List Keyword).isEmpty then 0 else 1) < 30)) = true := by rfl)
  (hline : (apos.endLine == cpos.line) = true := by rfl) (hs : starEach (e :: es) X.env = (false, eval e X.env) :: starEach es X.env := by rfl) (hplain : (backTo cpos (starEach es X.env)).any (·.1) = false := by rfl) :
  PE X (.Call (.Attribute o name apos) (e :: es) [] cpos) (tBM X.K T r to t) := by
 intro pins s σ H Q I h
 refine wpAny_Call_method_late hbase hfew hline rfl (thn (ho pins s σ H _ I h) fun v s1 ⟨x, H1, I1, r1, ty, q1⟩ => ?_)
 obtain ⟨h1, h2⟩ := Ek I1 r1 ty
 refine ⟨T, id, pa, slot, hty, h1, h2, ?_⟩
 have hA := ha cpos pins s1 σ H1 _ I1 q1
 rw [hs] at hA ⊢
 refine Calls.callWith_builtin (by show (false || (backTo cpos (starEach es X.env)).any (·.1)) = false; rw [hplain] <;> rfl) (Calls.evalArgs_plain ?_)
 exact thn hA fun us s2 ⟨vs, H2, I2, r2, q2⟩ => hm pins s2 σ H2 x vs v us Q I2 r1 r2 q2
end
end L2
namespace L2
open PySem PySem.Spec PyProof.Rows
def MtM (X : Cx) (id : String) (r : V -> List V -> Hp -> VK -> Prop) : Prop :=
 ∀ (pins : List (Addr × Obj)) (s : Shared) (σ : St) (H : Hp) (x : V) (xs : List V) (v : Value) (us : List Value) (Q : VK), Inv X pins σ H s -> RelV x v -> Vals xs us -> r x xs H Q ->
  wpAny (model X.prog X.w) X.A (call (.builtin id) (v :: us)) (EP X pins σ Q) X.xe s
theorem Vals.one : ∀ {x : V} {us : List Value}, Vals [x] us -> ∃ u, us = [u] /\ RelV x u
 | _, _, .cons r .nil => ⟨_, rfl, r⟩
theorem Vals.two : ∀ {x y : V} {us : List Value}, Vals [x, y] us -> ∃ u v, us = [u, v] /\ RelV x u /\ RelV y v
 | _, _, _, .cons r (.cons q .nil) => ⟨_, _, rfl, r, q⟩
theorem Vals.zero : ∀ {us : List Value}, Vals [] us -> us = []
 | _, .nil => rfl
theorem Vals.dropLast {xs : List V} {us : List Value} (h : Vals xs us) : Vals xs.dropLast us.dropLast := by
 induction h with
 | nil => exact .nil
 | cons r t ih =>
  cases t with
  | nil => exact .nil
  | cons q t' => exact .cons r ih
theorem Vals.eraseIdx : ∀ {xs : List V} {us : List Value} (i : Nat), Vals xs us -> Vals (xs.eraseIdx i) (us.eraseIdx i)
 | _, _, _, .nil => .nil
 | _, _, 0, .cons _ t => t
 | _, _, i + 1, .cons r t => .cons r (Vals.eraseIdx i t)
theorem Vals.reverse {xs : List V} {us : List Value} (h : Vals xs us) : Vals xs.reverse us.reverse := by
 induction h with
 | nil => exact .nil
 | cons r t ih => rw [List.reverse_cons, List.reverse_cons]; exact Vals.append ih (.cons r .nil)
theorem Vals.rep {xs : List V} {us : List Value} (h : Vals xs us) : ∀ k : Nat, Vals (List.replicate k xs).flatten (List.replicate k us).flatten
 | 0 => .nil
 | k + 1 => by
  rw [List.replicate_succ, List.replicate_succ, List.flatten_cons, List.flatten_cons]
  exact Vals.append h (Vals.rep h k)
theorem Cd {α : Type} (l : List α) : l.eraseIdx (l.length - 1) = l.dropLast := by
 induction l with
 | nil => rfl
 | cons a r ih =>
  cases r with
  | nil => rfl
  | cons b r =>
   have e : (a :: b :: r).length - 1 = ((b :: r).length - 1) + 1 := by
    have h1 : (a :: b :: r).length = r.length + 2 := rfl
    have h2 : (b :: r).length = r.length + 1 := rfl
    omega
   rw [e, List.eraseIdx_cons_succ, ih]
   all_goals rfl
theorem foldl_rep (its : List Value) : ∀ (k : Nat) (acc : List Value),
  List.foldl (fun x1 x2 => x1 ++ x2) acc.toArray (List.replicate k its.toArray) = (acc ++ (List.replicate k its).flatten).toArray
 | 0, acc => by simp
 | k + 1, acc => by
  have e : acc.toArray ++ its.toArray = (acc ++ its).toArray := by simp
  have e2 : (acc ++ its) ++ (List.replicate k its).flatten = acc ++ (List.replicate (k + 1) its).flatten := by
   rw [List.replicate_succ, List.flatten_cons, List.append_assoc]
  rw [<- e2, <- foldl_rep its k (acc ++ its), <- e, List.replicate_succ, List.foldl_cons]
section
variable {X : Cx} {pins : List (Addr × Obj)} {σ : St} {H : Hp} {s : Shared} {l b : Addr} {xs ys zs : List V}
theorem Inv.lset {its its' : List Value} {n : Nat} {f : Array Value -> Array Value} {t' : Nat} (I : Inv X pins σ H s) (hH : H l = some (.lst xs))
  (e : s.heap.get? l = some { cls := .type "list", data := .seq its.toArray n }) (hf : f its.toArray = its'.toArray) (hv : Vals ys its') (hz : ys.length <= sizeLine) :
  Inv X pins σ (upd H l (.lst ys)) { s with heap := s.heap.update l (Obj.mapSeq f), toks := t' } := by
 have q := PySem.IsL.update e f
 rw [hf] at q
 refine I.write (x := l) (e := l) (by rw [hH]; exact trivial) (.inl rfl) (fun b' u hb hu => (Heap.get?_update_other s.heap (Obj.mapSeq f) (Ne.symm hb)).trans hu) ⟨_, q⟩ ?_
 exact ⟨hz, its', _, hv, q⟩
theorem Inv.lnew {its : List Value} {t' : Nat} (I : Inv X pins σ H s) (hv : Vals ys its) (hz : ys.length <= sizeLine) :
  Inv X pins σ (upd H s.heap.objs.size (.lst ys)) { s with heap := s.heap.push { cls := .type "list", data := .seq its.toArray }, toks := t' } :=
 I.laid (fun _ _ q => Heap.get?_push_of_some _ q) (Nat.le_refl _) ⟨hz, its, 0, hv, Heap.get?_push_size _ rfl⟩
theorem Inv.fresh (I : Inv X pins σ H s) : H s.heap.objs.size = none := I.hok.fresh (Nat.le_refl _)
theorem Inv.lstM (I : Inv X pins σ H s) (hH : H l = some (.lst xs)) : xs.length <= sizeLine /\ ∃ (its : List Value) (n : Nat), Vals xs its /\ xs.length = its.length /\ s.heap.get? l = some { cls := .type "list", data := .seq its.toArray n } := by
 obtain ⟨z, its, n, r, e⟩ := I.hok l _ hH
 exact ⟨z, its, n, r, r.length, e⟩
theorem Gu {n : Nat} (h : n <= sizeLine) : Builtin.List.listTooLong n = false := by
 unfold Builtin.List.listTooLong
 exact decide_eq_false (by omega)
end
section
variable {X : Cx}
def Hu : V -> List V -> Hp -> VK -> Prop := fun x vs H Q => ∃ l xs y, x = .ref l /\ vs = [y] /\ H l = some (.lst xs) /\ xs.length < sizeLine /\ Q .non (upd H l (.lst (xs ++ [y])))
theorem dh : MtM X "list.append" Hu := by
 intro pins s σ H x vs v us Q I rx rv h
 obtain ⟨l, xs, y, rfl, rfl, hH, hz, q⟩ := h
 cases rx
 obtain ⟨u, rfl, ru⟩ := rv.one
 obtain ⟨z, its, n, r, hl, e⟩ := I.lstM hH
 refine call_meets F.slot_list_append ⟨_, e, rfl⟩ F.entry_list_append (F.args_list_append_2 _ _) (PySem.list_append l its.toArray n u (by rw [List.size_toArray]; omega)) ⟨e, ?_⟩
 refine ⟨.non, _, I.lset (its' := its ++ [u]) hH e (by simp) (r.append (.cons ru .nil)) ?_, rfl, q⟩
 rw [List.length_append, List.length_singleton]
 omega
def K_ : V -> List V -> Hp -> VK -> Prop := fun x vs H Q => ∃ l b xs zs, x = .ref l /\ vs = [.ref b] /\ H l = some (.lst xs) /\ H b = some (.lst zs) /\ xs.length + zs.length <= sizeLine /\ Q .non (upd H l (.lst (xs ++ zs)))
def K7 : V -> List V -> Hp -> VK -> Prop := fun x vs H Q => ∃ l xs y, x = .ref l /\ vs = [] /\ H l = some (.lst xs) /\ xs[xs.length - 1]? = some y /\ Q y (upd H l (.lst xs.dropLast))
theorem Jl : MtM X "list.pop" K7 := by
 intro pins s σ H x vs v us Q I rx rv h
 obtain ⟨l, xs, y, rfl, rfl, hH, hy, q⟩ := h
 cases rx
 have hus := rv.zero
 subst hus
 obtain ⟨z, its, n, r, hl, e⟩ := I.lstM hH
 obtain ⟨u, hu, ru⟩ := r.get hy
 have hy' : its.toArray[its.toArray.size - 1]? = some u := by
  show its.toArray[its.length - 1]? = some u
  rw [<- Array.getElem?_toList, <- hl]
  exact hu
 refine call_meets F.slot_list_pop ⟨_, e, rfl⟩ F.entry_list_pop (F.args_list_pop_1 _) (MeetsSeq.list_pop_last l its.toArray n u hy' (by rw [List.size_toArray]; omega)) ⟨e, ?_⟩
 refine ⟨y, _, I.lset (its' := its.dropLast) hH e ?_ r.dropLast ?_, ru, q⟩
 ·show its.toArray.eraseIdxIfInBounds (its.toArray.size - 1) = its.dropLast.toArray
  rw [List.size_toArray, List.eraseIdxIfInBounds_toArray, Cd]
 ·rw [List.length_dropLast]
  omega
def Lb : V -> List V -> Hp -> VK -> Prop := fun x vs H Q => ∃ l xs i k y, x = .ref l /\ vs = [.int i] /\ H l = some (.lst xs) /\ -(2 ^ 63) <= i /\ i < 2 ^ 63 /\ seqIndex? i xs.length = some k /\ xs[k]? = some y /\ Q y (upd H l (.lst (xs.eraseIdx k)))
def Kf : V -> List V -> Hp -> VK -> Prop := fun x vs H Q => ∃ l xs, x = .ref l /\ vs = [] /\ H l = some (.lst xs) /\ Q .non (upd H l (.lst xs.reverse))
def Ld : V -> List V -> Hp -> VK -> Prop := fun x vs H Q => ∃ l xs, x = .ref l /\ vs = [] /\ H l = some (.lst xs) /\ Q .non (upd H l (.lst []))
def Kv : R2 := fun x y H Q => ∃ l b xs zs, x = .ref l /\ y = .ref b /\ H l = some (.lst xs) /\ H b = some (.lst zs) /\ xs.length + zs.length <= sizeLine /\ ∀ p, H p = none -> Q (.ref p) (upd H p (.lst (xs ++ zs)))
theorem jj : OpR X (binaryOp .Add) Kv := by
 intro pins s σ H x y v u Q I rx ry h
 obtain ⟨l, b, xs, zs, rfl, rfl, hH, hB, hz, q⟩ := h
 cases rx
 cases ry
 obtain ⟨z, its, n, r, hl, e⟩ := I.lstM hH
 obtain ⟨z2, its2, n2, r2, hl2, e2⟩ := I.lstM hB
 refine PySem.P.add_list e e2 ?_ (by rw [List.size_toArray, List.size_toArray]; omega)
 have ea : its.toArray ++ its2.toArray = (its ++ its2).toArray := by simp
 rw [ea]
 exact ⟨.ref _, _, I.lnew (t' := s.toks) (r.append r2) (by rw [List.length_append]; omega), rfl, q _ I.fresh⟩
def Ke : R2 := fun x y H Q => ∃ l k xs, x = .ref l /\ y = .int k /\ H l = some (.lst xs) /\ -(2 ^ 63) <= k /\ k < 2 ^ 63 /\ xs.length * k.toNat <= sizeLine /\
 ∀ p, H p = none -> Q (.ref p) (upd H p (.lst (List.replicate k.toNat xs).flatten))
theorem len_rep {α : Type} (xs : List α) (k : Nat) : (List.replicate k xs).flatten.length = k * xs.length := by
 induction k with
 | zero => simp
 | succ k ih => rw [List.replicate_succ, List.flatten_cons, List.length_append, ih, Nat.succ_mul, Nat.add_comm]
theorem yO : OpR X (binaryOp .Mult) Ke := by
 intro pins s σ H x y v u Q I rx ry h
 obtain ⟨l, k, xs, rfl, rfl, hH, h1, h2, hz, q⟩ := h
 cases rx
 obtain ⟨t, rfl⟩ := ry
 obtain ⟨z, its, n, r, hl, e⟩ := I.lstM hH
 have hlen : its.toArray.size * k.toNat <= sizeLine := by rw [List.size_toArray, <- hl]; exact hz
 have hcap : ¬ its.toArray.size * k.toNat > (2 ^ 63 - 1) / 8 := by
  have : (sizeLine : Nat) <= (2 ^ 63 - 1) / 8 := by decide
  omega
 have hfit : ¬ (!Builtin.List.listFitsIndex k) = true := by
  rw [fitsIndex_both h1 h2]
  exact Bool.false_ne_true
 have hlong : ¬ Builtin.List.listTooLong (its.toArray.size * k.toNat) = true := by
  rw [Gu hlen]
  exact Bool.false_ne_true
 have hnew : List.foldl (fun x1 x2 => x1 ++ x2) #[] (List.replicate (if its.toArray.isEmpty = true then 0 else k.toNat) its.toArray) = (List.replicate k.toNat its).flatten.toArray := by
  have f0 : ∀ m : Nat, List.foldl (fun x1 x2 => x1 ++ x2) #[] (List.replicate m its.toArray) = (List.replicate m its).flatten.toArray := fun m => by
   have := foldl_rep its m []
   rw [List.nil_append] at this
   exact this
  rw [f0]
  cases its with
  | nil => simp
  | cons a r' => rw [if_neg (by simp)]
 refine wpAny_binaryOp_repeat_ref (T := "list") (U := "int") (by decide) ⟨_, e, rfl⟩ (fun s' => typeIs_int s' k t) noFill_list_mul F.fills_int_mul F.slot_int_rmul repeat_list F.slot_int_index.lookup
  (call_meets F.slot_int_rmul (typeIs_int s k t) F.entry_int_rmul (F.args_int_rmul_2 _ _) (int___rmul___int_list k t l its.toArray n)
   ⟨e, rfl, ⟨_, e, rfl⟩, call_meets F.slot_list_mul ⟨_, e, rfl⟩ F.entry_list_mul (F.args_list_mul_2 _ _) (AutoListH.list___mul___list_int_3 l its.toArray n k t hfit hcap hlong) ⟨e, ?_⟩⟩)
 rw [hnew]
 exact ⟨.ref _, _, I.lnew (t' := s.toks) (r.rep k.toNat) (by rw [len_rep, Nat.mul_comm]; exact hz), rfl, q _ I.fresh⟩
end
section
variable {prog : Program} {w : World} {A : Around} {E : Value -> Shared -> Prop} {s : Shared}
end
section
variable {X : Cx}
end
end L2
namespace Att
open PySem PySem.W PySem.Calls PyProof.Rows
theorem su {P : Params} {h : Heap} : ∀ (ns : List Int) (vs : List Value), WellAll P h vs (ns.map WData.int) -> IntsAre vs ns := by
 intro ns
 induction ns with
 | nil =>
  intro vs w
  rw [List.map_nil] at w
  cases w
  exact .nil
 | cons n ns ih =>
  intro vs w
  rw [List.map_cons] at w
  cases w with
  | cons a b =>
   cases a
   exact .cons _ _ (ih _ b)
theorem Dq {l : OpenLaw} {n : Nat} (hn : l.most = some n) {P : Params} {h : Heap} {args : List WData} {vals : List Value}
  (hpre : l.row.toRowW.claim.pre args = true) (hwl : WellAll P h vals args) :
  ∃ a vs ns, vals = [Value.ref a] /\ args = [WData.list (ns.map WData.int)] /\ h.get? a = some { cls := .type "list", data := .seq vs.toArray } /\ IntsAre vs ns /\ ns.length <= n := by
 have hsh : WShape.hasAll [] args [.list .int] = true := (pre_splitW hpre).1
 have hc : l.pre.holds [] { args := args } = true := (pre_splitW hpre).2
 obtain ⟨d, r, rfl, h1, h2⟩ := hasAllW_cons hsh
 obtain rfl := hasAllW_nil h2
 obtain ⟨xs, rfl, h3⟩ := hasW_list h1
 obtain ⟨ns, rfl⟩ := items_int h3
 have hlen : ns.length <= n := by
  unfold OpenLaw.pre at hc
  have h4 : (WTm.not (.lt (.lit (.int (n : Int))) (.len (.arg 0)))).holds [] { args := [.list (ns.map .int)] } = true := by
   have h4 := (holds_andW hc).1
   rw [hn] at h4
   exact h4
  have h5 := condW_of h4 (w_not (w_lt w_lit (w_len_list (w_arg rfl))))
  rw [List.length_map] at h5
  refine Nat.le_of_not_lt fun q => ?_
  have q' : (n : Int) < ((ns.length : Nat) : Int) := by omega
  first
   | (rw [decide_eq_true q'] at h5; exact absurd h5 (by decide))
   | (simp at h5; omega)
 cases hwl with
 | cons w1 w2 =>
  cases w2
  cases w1 with
  | list ho hall => exact ⟨_, _, ns, rfl, rfl, ho, su ns _ hall, hlen⟩
theorem Dc (l : OpenLaw) (args : List WData) : l.row.toRowW.claim.post args (.bool true) args = true :=
 postW_of (r := l.row.toRowW) (X := (true == true))
  (show WShape.has [] (.bool true) .bool = true by first | rfl | decide | simp [WShape.has, WShape.arms, WShape.armsAll])
  (show (WTm.eq .res (.lit (.bool true))).value [] { args := args, res := some (.bool true), after := args } = some (.bool (true == true)) from w_eq_bool (w_res rfl) w_lit) rfl
theorem attach_call {l : OpenLaw} {n : Nat} {q : Program} {loose : List Str} {XP : (Str -> Option Value) -> Heap -> Prop} {YP : World -> Heap -> Prop} {d : DefRec}
  (hn : l.most = some n) (hdf : d.params.defaults = [])
  (call : ∀ (w : World) (s₀ s₁ : Shared) (mg mb : Str -> Option Value) (fa : Addr) (o : Obj) (pm cd doc : Value) (a : Addr) (vs : List Value) (ns : List Int),
   Ground q loose [] XP w s₀ mg mb s₁.heap -> YP w s₁.heap ->
   s₁.heap.get? fa = some o -> o.data = .func (docDef d.name d.params d.body d.scope pm cd doc) -> s₁.heap.CodeRec cd d.name -> mg d.name = some (.ref fa) ->
   s₁.heap.get? a = some { cls := .type "list", data := .seq vs.toArray } -> IntsAre vs ns -> ns.length <= n -> s₁.gens = #[] ->
   codeAny (model l.prog w) callerA (.call (.ref fa) ⟨[.ref a], []⟩) (fun r s' => r = .ok (.ret (.bool true)) /\ OldK s₁.heap s'.heap /\ s'.os = s₁.os /\ AllBare s'.gens) s₁) :
  WalkO q loose XP YP l.row.toRowW d [] (fun f vs => PySem.call f vs) := by
 intro w s₀ s₁ mg mb G Y fa o pm cd doc dV kV ho hd hcd hD hmg hg args vals as hpre hlay hrd hwl hlo
 obtain rfl : dV = .none := Dflts.none hD hdf
 obtain rfl : kV = .none := Dflts.noKw hD
 obtain ⟨a, vs, ns, rfl, rfl, hobj, hints, hlen⟩ := Dq hn hpre hwl
 refine enter_call (codeAny_mono (call w s₀ s₁ mg mb fa o pm cd doc a vs ns G Y ho (fd_plain hd) hcd hmg hobj hints hlen hg) fun r s' hq => ?_)
 obtain ⟨rfl, h2, h3, h4⟩ := hq
 exact ⟨.inl ⟨.bool true, .bool true, [], rfl, fun _ => rfl, .bool true, Dc l _, fun _ => ⟨List.Pairwise.nil, fun _ hm => (nomatch hm)⟩⟩, h2, h3, h4⟩
section
variable {prog : Program} {w : World} {A : Around} {E : Value -> Shared -> Prop} {s : Shared} {K : Frag}
def Le (h : Heap) : Heap := { h with objs := #[] }
def ledger (h : Heap) (L d : Addr) : List (Addr × Obj) := (List.range h.objs.size).filterMap fun a => if a = L \/ a = d then none else (h.get? a).map fun o => (a, o)
end
end Att
namespace L2
open PySem PySem.Spec PyProof.Rows
theorem ww : ∀ {vs : List Value} {ns : List Int}, IntsAre vs ns -> Vals (ns.map V.int) vs
 | _, _, .nil => .nil
 | _, _, .cons n t h => .cons ⟨t, rfl⟩ (ww h)
def Only (H : Hp) : Prop := ∀ b, H b = none \/ ∃ o xs, H b = some (.frz o (.lst xs))
theorem Fw {P : Program} {w : World} {K : PySem.W.Frag} {mg mb : Str -> Option Value} {CX : CXT} {k : Nat} {fa a : Addr} {fd : FuncData} {x : Str} {sp : Sp} {s₁ : Shared} {vs : List Value} {ns : List Int}
  (KX : K.In s₁.heap) (hns : s₁.heap.Ns mainGlobals mg) (hb : s₁.heap.Ns builtinsNs mb) (hbb : ∀ x : Str, x ≠ "__name__" -> mb x = bootBuiltins x) (hlim : s₁.heap.NoLimit) (hg : s₁.gens = #[])
  (ha : s₁.heap.get? a = some { cls := .type "list", data := .seq vs.toArray }) (hi : IntsAre vs ns) (hl : ns.length <= sizeLine) (hr : Room k callerA)
  (F : ∀ base : Heap, K.In base -> base.Ns mainGlobals mg -> FnOk P w K mg base CX k fa fd [x] sp) (hbind : ∀ (s : Shared) (u : Value), BindsTo s fd ⟨[u], []⟩ [(x, u)])
  (hsp : ∀ H : Hp, Only H -> SqL K H a (ns.map V.int) -> sp [.ref a] H (fun v _ => v = .bl true) fun _ _ _ => False)
  (hCX : ∀ H e s', CX [] H s₁ (fun _ _ _ => False) e s' -> False) :
  codeAny (model P w) callerA (.call (.ref fa) ⟨[.ref a], []⟩) (fun r s' => r = .ok (.ret (.bool true)) /\ OldK s₁.heap s'.heap /\ s'.os = s₁.os /\ AllBare s'.gens) s₁ := by
 have rv := ww hi
 have lenV := hi.length
 have core : ∀ H : Hp, Only H -> SqL K H a (ns.map V.int) -> HOk P w H s₁.heap -> (∀ b, H b ≠ none -> b = a) -> (H a ≠ none -> K.lookup a = none) ->
   codeAny (model P w) callerA (.call (.ref fa) ⟨[.ref a], []⟩) (fun r s' => r = .ok (.ret (.bool true)) /\ OldK s₁.heap s'.heap /\ s'.os = s₁.os /\ AllBare s'.gens) s₁ := by
  intro H hO hS hok hA hK
  have base_of : ∀ {b : Addr} {o : Obj}, s₁.heap.get? b = some o -> H b = none -> (nW s₁.heap H).get? b = some o := fun e n => FZ e n
  have noA : ∀ {b : Addr} {o : Obj} {es : Array DictEntry} {ep : Nat}, s₁.heap.get? b = some o -> o.data = .dict es ep -> H b = none := fun {b o es ep} e d => by
   cases q : H b with
   | none => rfl
   | some u =>
    have e' : b = a := hA b (by rw [q]; simp)
    subst e'
    rw [ha] at e; cases e
    have d' : Data.seq vs.toArray _ = Data.dict es ep := d
    cases d'
  have nsK : ∀ {b : Addr} {m : Str -> Option Value}, s₁.heap.Ns b m -> (nW s₁.heap H).Ns b m := fun {b m} ⟨o, es, ep, e, d, r⟩ => ⟨o, es, ep, base_of e (noA e d), d, r⟩
  have hKb : K.In (nW s₁.heap H) := fun b o e => base_of (KX b o e) (by
   cases q : H b with
   | none => rfl
   | some u =>
    have e' : b = a := hA b (by rw [q]; simp)
    subst e'
    rw [hK (by rw [q]; simp)] at e; cases e)
  have hM : Mod K mg (nW s₁.heap H) := ⟨hKb, nsK hns, ⟨mb, nsK hb, hbb⟩, let ⟨mc, h1, h2⟩ := hlim; ⟨mc, nsK h1, h2⟩⟩
  have e0 : Env0 P w K mg (nW s₁.heap H) callerA [] s₁ H := ⟨rfl, hM, fun b o e => Hy e, Nat.le_of_eq (Eu _ _), trivial, fun b hb => absurd (show b ∈ ([] : List Addr) from hb) (by simp), hok, .of_eq hg⟩
  refine codeAny_mono ((F _ hKb (nsK hns)).run callerA [] s₁ H ⟨[.ref a], []⟩ [.ref a] [.ref a] _ _ hr e0 (hbind s₁ (.ref a)) (.cons rfl .nil) (hsp H hO hS)) fun r s' h => ?_
  cases r with
  | error e => exact (hCX H e s' h).elim
  | ok fl =>
   cases fl with
   | next => exact False.elim h
   | brk => exact False.elim h
   | cont => exact False.elim h
   | ret u =>
    obtain ⟨v, H', os, bare, un, hok', r', q⟩ := h
    have q' : v = .bl true := q
    subst q'
    obtain rfl : u = Value.bool true := r'
    refine ⟨rfl, OldK.of_keep fun b o e => ?_, os, bare⟩
    cases q : H b with
    | none => exact un.keep b o e q (by intro z; exact absurd (show b ∈ ([] : List Addr) from z) (by simp)) (by simp)
    | some u =>
     rcases hO b with z | ⟨ob, xs, z⟩
     ·rw [q] at z; cases z
     ·have z2 := un.frzs b ob _ z
      obtain ⟨e1, _⟩ := hok b _ z
      obtain ⟨e2, _⟩ := hok' b _ z2
      rw [e] at e1; cases e1
      exact e2
 cases hk : K.lookup a with
 | some o =>
  have e := KX a o hk
  rw [ha] at e
  cases e
  refine core (fun _ => none) (fun _ => .inl rfl) (.inr ⟨_, vs.toArray, _, hk, rfl, rfl, rfl, by rw [List.size_toArray, lenV]; exact hl, by simpa using rv⟩) (fun b u z => by have z' : (none : Option HO) = some u := z; cases z') (fun b z => absurd rfl z) fun z => absurd rfl z
 | none =>
  refine core (fun b => if b = a then some (.frz { cls := .type "list", data := .seq vs.toArray } (.lst (ns.map V.int))) else none) (fun b => ?_) (.inl (.inr ⟨{ cls := .type "list", data := .seq vs.toArray }, if_pos rfl⟩)) (fun b u z => ?_) (fun b z => ?_) fun _ => hk
  ·by_cases hb : b = a
   ·exact .inr ⟨_, _, if_pos hb⟩
   ·exact .inl (if_neg hb)
  ·by_cases hb : b = a
   ·have z' := (if_pos hb).symm.trans z
    cases z'
    subst hb
    exact ⟨ha, by rw [List.length_map]; exact hl, vs, _, rv, ha⟩
   ·have z' := (if_neg hb).symm.trans z
    cases z'
  ·by_cases hb : b = a
   ·exact hb
   ·exact absurd (if_neg hb) z
end L2
namespace L2
open PySem PySem.Spec PyProof.Rows
abbrev KOf {K : PySem.W.Frag} {h : Heap} (_ : K.In h) : PySem.W.Frag := K
theorem walk_of {l : PySem.W.OpenLaw} {n k : Nat} {q : Program} {loose : List Str} {XP : (Str -> Option Value) -> Heap -> Prop} {YP : World -> Heap -> Prop} {d : DefRec} {K : Params -> PySem.W.Frag} {CX : World -> CXT} {sp : World -> Sp} {x : Str}
  (hn : l.most = some n) (hn2 : n <= sizeLine) (hdf : d.params.defaults = []) (hr : Room k callerA)
  (hY : ∀ (w : World) (h : Heap), YP w h -> (K w.params).In h)
  (F : ∀ (w : World) (mg : Str -> Option Value) (fa : Addr) (h : Heap), (K w.params).In h -> h.Ns mainGlobals mg -> mg d.name = some (.ref fa) ->
   ∃ fd : FuncData, (∀ (s : Shared) (u : Value), BindsTo s fd ⟨[u], []⟩ [(x, u)]) /\
    ∀ base : Heap, (K w.params).In base -> base.Ns mainGlobals mg -> FnOk l.prog w (K w.params) mg base (CX w) k fa fd [x] (sp w))
  (hsp : ∀ (w : World) (H : Hp) (a : Addr) (ns : List Int), ns.length <= n -> Only H -> SqL (K w.params) H a (ns.map V.int) -> sp w [.ref a] H (fun v _ => v = .bl true) fun _ _ _ => False)
  (hCX : ∀ (w : World) (H : Hp) (s : Shared) (e : Value) (s' : Shared), CX w [] H s (fun _ _ _ => False) e s' -> False) :
  PySem.W.WalkO q loose XP YP l.row.toRowW d [] (fun f vs => PySem.call f vs) := by
 refine Att.attach_call hn hdf fun w s₀ s₁ mg mb fa o pm cd doc a vs ns G Y ho hd hcd hmg hobj hints hlen hg => ?_
 have KX := hY w _ Y
 obtain ⟨fd, hb, hF⟩ := F w mg fa _ KX G.T.g hmg
 exact Fw KX G.T.g G.T.b G.T.builtins G.T.nolimit hg hobj hints (Nat.le_trans hlen hn2) hr hF hb (fun H hO hS => hsp w H a ns hlen hO hS) fun H e s' => hCX w H s₁ e s'
end L2
namespace L2
open PySem PySem.Spec PyProof.Rows
def inClass (s : Stmt) (j : Nat) : Stmt := match s with
 | .ClassDef _ _ _ body _ _ _ _ _ _ _ => body.getD j (.Pass ⟨0, 0, 0, 0⟩)
 | _ => .Pass ⟨0, 0, 0, 0⟩
def fu (s : Stmt) : Arguments := match s with
 | .FunctionDef _ a _ _ _ _ _ _ _ _ => a
 | _ => { posonlyargs := [], args := [], vararg := none, kwonlyargs := [], kw_defaults := [], kwarg := none, defaults := [] }
def dC (s : Stmt) : List Stmt := match s with
 | .FunctionDef _ _ b _ _ _ _ _ _ _ => b
 | _ => []
def aH (s : Stmt) : Scope := match s with
 | .FunctionDef _ _ _ _ _ _ sc _ _ _ => sc
 | _ => { kind := .function, names := [], isGenerator := false, isCoroutine := false }
abbrev CX0 : CXT := fun _ _ _ _ _ _ => False
abbrev E0 : XK := fun _ _ _ => False
theorem BL {X : Cx} : lX CX0 X E0 := fun _ _ _ _ _ _ _ h => h.elim
structure Fun (K : PySem.W.Frag) (x qual : Str) (st : Stmt) (f : Addr) (fd : FuncData) : Prop where
 ex : ∃ (oc : Value) (od : Option Addr) (kV doc pm : Value) (an : Option Addr) (cdv ct : Value) (osl : Array (Option Value)),
  fd = PySem.W.fnOf x qual (fu st) (dC st) (aH st) .none kV doc pm an cdv ct /\ K.lookup f = some ⟨oc, od, .func fd, osl⟩ /\ PySem.W.codeIn K cdv qual = true
 kp : PySem.W.keepIn K (.ref f) = true
section
variable {P : Program} {w : World} {K : PySem.W.Frag} {mg : Str -> Option Value} {base : Heap}
theorem Fun.ok {x qual : Str} {st : Stmt} {f : Addr} {fd : FuncData} {N ps : List Str} {k : Nat} {sp : Sp} (F : Fun K x qual st f fd) (S : FnScope N ps (aH st)) (len : ∀ vs H Q E, sp vs H Q E -> vs.length = ps.length)
  (hbody : ∀ (cdv : Value) (A : Around) (outer : List Env) (s : Shared) (H : Hp) (vs : List V) (Q : VK) (E : XK), Room k (A.deeper (envOfC qual (aH st) s.heap.objs.size f cdv)) -> sp vs H Q E ->
   ∃ t, PSs (pH CX0 P w K mg base N qual (aH st) f cdv A outer s H E).nox (dC st) t /\ t { nx := fun _ H' => Q .non H', rt := Q } (start N vs) H) : FnOk P w K mg base CX0 (k + 1) f fd ps sp := by
 obtain ⟨oc, od, kV, doc, pm, an, cdv, ct, osl, rfl, lk, hcd⟩ := F.ex
 refine JW lk hcd S len fun A outer s H vs Q E hr hsp => ?_
 obtain ⟨t, h, q⟩ := hbody cdv A outer s H vs Q E hr hsp
 exact ⟨t, h.nox, q⟩
theorem Fun.binds {x qual : Str} {st : Stmt} {f : Addr} {fd : FuncData} {ps : List Str} (F : Fun K x qual st f fd)
  (h : ∀ (kV doc pm : Value) (an : Option Addr) (cdv ct : Value) (us : List Value), us.length = ps.length -> bindArgs (PySem.W.fnOf x qual (fu st) (dC st) (aH st) .none kV doc pm an cdv ct) ⟨us, []⟩ = pure (ps.zip us)) : Binds K fd ps [] := by
 obtain ⟨oc, od, kV, doc, pm, an, cdv, ct, osl, rfl, lk, hcd⟩ := F.ex
 exact .all (h kV doc pm an cdv ct)
theorem zF {x qual : Str} {st : Stmt} {f : Addr} {oc : Value} {od an : Option Addr} {osl : Array (Option Value)} {kV doc pm cdv ct : Value} (l : K.lookup f = some ⟨oc, od, .func (PySem.W.fnOf x qual (fu st) (dC st) (aH st) .none kV doc pm an cdv ct), osl⟩)
  (c : PySem.W.codeIn K cdv qual = true) (k : PySem.W.keepIn K (.ref f) = true) : Fun K x qual st f (PySem.W.fnOf x qual (fu st) (dC st) (aH st) .none kV doc pm an cdv ct) := ⟨⟨oc, od, kV, doc, pm, an, cdv, ct, osl, rfl, l, c⟩, k⟩
end
theorem aO {n : Nat} (h : n <= 1000) : n < sizeLine := Nat.lt_of_le_of_lt h (by decide)
section
variable {X : Cx}
theorem pv (i : Nat) {x : Str} {pos : Pos} (hN : X.N[i]? = some x := by rfl) (hv : Vis X.env.scope x := by first | exact Or.inl rfl | exact Or.inr (Or.inl rfl) | exact Or.inr (Or.inr rfl)) (hd : (x == ("__debug__" : Str)) = false := by decide)
  (hcd : (x == ("__classdict__" : Str)) = false := by decide) : PE X (.Name x pos) (Im i) := Jt hN hv hd hcd
end
theorem bK {A B : Prop} (h : B) : if false = true then A else B := by
 rw [if_neg Bool.false_ne_true]
 exact h
theorem cX {A B : Prop} (h : A) : if true = true then A else B := by
 rw [if_pos rfl]
 exact h
theorem lR {c A B : Prop} [Decidable c] (h1 : c -> A) (h2 : ¬ c -> B) : if c then A else B := by
 by_cases h : c
 ·rw [if_pos h]
  exact h1 h
 ·rw [if_neg h]
  exact h2 h
theorem GZ {c A B : Prop} [Decidable c] (hc : c) (h : B) : if (!decide c) = true then A else B := by
 rw [decide_eq_true hc]
 exact bK h
def Same (H H' : Hp) : Prop := ∀ b o, H b = some o -> H' b = some o
theorem Same.refl (H : Hp) : Same H H := fun _ _ h => h
theorem Same.trans {H H1 H2 : Hp} (a : Same H H1) (b : Same H1 H2) : Same H H2 := fun c o h => b c o (a c o h)
theorem Same.free {H H' : Hp} (e : Same H H') {l : Addr} (h : H' l = Option.none) : H l = Option.none := by
 cases q : H l with
 | none => rfl
 | some o =>
  rw [e l o q] at h
  cases h
theorem Same.seq {K : PySem.W.Frag} {H H' : Hp} {a : Addr} {xs : List V} (e : Same H H') (h : SqL K H a xs) : SqL K H' a xs := by
 rcases h with (h | ⟨o, h⟩) | h
 ·exact .inl (.inl (e _ _ h))
 ·exact .inl (.inr ⟨o, e _ _ h⟩)
 ·exact .inr h
end L2
set_option Elab.async false
set_option linter.all false
set_option maxRecDepth 100000
namespace L2
open PySem PySem.Spec PyProof.Rows
theorem Inv.track {X : Cx} {pins : List (Addr × Obj)} {σ : St} {H : Hp} {s : Shared} {D : Addr} {o : HO} (I : Inv X pins σ H s) (f : gC X pins H D) (new : ObjOk X.prog X.w (upd H D o) s.heap D o) : Inv X pins σ (upd H D o) s := by
 obtain ⟨f0, f1, f2, f3, f4, f5⟩ := f
 refine I.step (h' := s.heap) (g' := s.gens) (d' := s.drawn) (t' := s.toks) (ch := [D]) (fun b hb => ?_) (fun b u _ _ _ e _ => e) (fun b u _ _ _ e _ => ⟨u.slots, e⟩) (fun b u hc _ n => ?_) (fun b u _ e => ⟨u, e⟩)
  (fun b xs q => ?_) (fun b u xs q => ?_) (fun b ps q => ⟨#[], ?_⟩) (fun m hm => hm) (fun b u e => ?_) I.bare
 ·have e : b = D := by simpa using hb
  subst e
  exact ⟨f3, f1, f4, f5⟩
 ·rw [aJ (by simpa using hc)]
  exact n
 ·rw [aJ (aV q f0)]
  exact q
 ·rw [aJ (aV q f0)]
  exact q
 ·rw [aJ (aV q f0), q]
  simp
 ·by_cases hb : b = D
  ·subst hb
   rw [aq] at e
   cases e
   exact new
  ·rw [aJ hb] at e
   exact (I.hok b u e).stay (fun c v _ q => q) (fun c q => by rw [aJ (aV q f0)]; exact q) fun c xs q => by rw [aJ (aV q f0)]; exact q
def gY (scope : Scope) (env : Env) : List (Str × Addr) :=
 scope.names.foldl (fun acc x => if x.2 == .free then (match env.cells.lookup x.1 with | some a => (x.1, a) :: acc | none => acc) else acc) []
theorem zJ {env : Env} : ∀ (names : List (Str × NameKind)) (acc : List (Str × Addr)), (∀ x c, acc.lookup x = some c -> env.cells.lookup x = some c) ->
  ∀ x c, (names.foldl (fun acc x => if x.2 == .free then (match env.cells.lookup x.1 with | some a => (x.1, a) :: acc | none => acc) else acc) acc).lookup x = some c -> env.cells.lookup x = some c
 | [], acc, h, x, c, e => h x c e
 | (n, k) :: r, acc, h, x, c, e => by
  rw [List.foldl_cons] at e
  refine zJ r _ (fun y d q => ?_) x c e
  by_cases hk : (k == NameKind.free) = true
  ·simp only [hk, if_true] at q
   cases hc : env.cells.lookup n with
   | none => rw [hc] at q; exact h y d q
   | some a =>
    rw [hc] at q
    simp only [List.lookup_cons] at q
    cases hy : y == n with
    | true =>
     rw [hy] at q
     have : y = n := by simpa using hy
     subst this
     rw [hc]
     exact q
    | false =>
     rw [hy] at q
     exact h y d q
  ·rw [if_neg hk] at q
   exact h y d q
theorem oY {scope : Scope} {env : Env} {x : Str} {c : Addr} (e : (gY scope env).lookup x = some c) : env.cells.lookup x = some c :=
 zJ scope.names [] (fun _ _ q => by simp at q) x c e
theorem qF {env : Env} {x : Str} : ∀ (names : List (Str × NameKind)) (acc : List (Str × Addr)), (acc.lookup x).isSome = true ->
  ((names.foldl (fun acc x => if x.2 == .free then (match env.cells.lookup x.1 with | some a => (x.1, a) :: acc | none => acc) else acc) acc).lookup x).isSome = true
 | [], _, h => h
 | (n, k) :: r, acc, h => by
  rw [List.foldl_cons]
  refine qF r _ ?_
  by_cases hk : (k == NameKind.free) = true
  ·simp only [hk, if_true]
   cases hc : env.cells.lookup n with
   | none => exact h
   | some a =>
    simp only [List.lookup_cons]
    cases hy : x == n with
    | true => rfl
    | false => exact h
  ·rw [if_neg hk]
   exact h
theorem tY {env : Env} {x : Str} {c : Addr} (hc : env.cells.lookup x = some c) : ∀ (names : List (Str × NameKind)) (acc : List (Str × Addr)), (x, NameKind.free) ∈ names ->
  ((names.foldl (fun acc x => if x.2 == .free then (match env.cells.lookup x.1 with | some a => (x.1, a) :: acc | none => acc) else acc) acc).lookup x).isSome = true
 | [], _, h => nomatch h
 | (n, k) :: r, acc, h => by
  rw [List.foldl_cons]
  rcases List.mem_cons.mp h with e | h
  ·cases e
   refine qF r _ ?_
   simp [hc, List.lookup_cons]
  ·exact tY hc r _ h
theorem v_ {scope : Scope} {env : Env} {x : Str} {c : Addr} (hc : env.cells.lookup x = some c) (hm : (x, NameKind.free) ∈ scope.names) : (gY scope env).lookup x = some c := by
 have h := tY (env := env) hc scope.names [] hm
 obtain ⟨d, e⟩ := Option.isSome_iff_exists.mp h
 have e' : (gY scope env).lookup x = some d := e
 have := oY e'
 rw [hc] at this
 cases this
 exact e'
theorem jC {env : Env} : ∀ (names : List (Str × NameKind)) (acc : List (Str × Addr)), (∀ n, (n, NameKind.free) ∈ names -> ∃ c, env.cells.lookup n = some c) ->
  (forIn names acc fun x r => (if x.2 == .free then do let c <- cellOf env x.1; pure (ForInStep.yield ((x.1, c) :: r)) else pure (ForInStep.yield r) : Sem _)) =
   pure (names.foldl (fun acc x => if x.2 == .free then (match env.cells.lookup x.1 with | some a => (x.1, a) :: acc | none => acc) else acc) acc)
 | [], _, _ => rfl
 | (n, k) :: r, acc, h => by
  rw [List.forIn_cons, List.foldl_cons]
  by_cases hk : (k == NameKind.free) = true
  ·have hk' : k = .free := by simpa using hk
   obtain ⟨c, hc⟩ := h n (by rw [hk']; exact List.mem_cons_self)
   simp only [hk, if_true, cellOf, hc]
   exact jC r _ fun y hy => h y (List.mem_cons_of_mem _ hy)
  ·simp only [hk, if_false, Bool.false_eq_true]
   exact jC r _ fun y hy => h y (List.mem_cons_of_mem _ hy)
theorem wI {scope : Scope} {env : Env} (h : ∀ n, (n, NameKind.free) ∈ scope.names -> ∃ c, env.cells.lookup n = some c) : closureFor scope env = pure (gY scope env) := by
 have e := jC (env := env) scope.names [] h
 unfold gY
 show (forIn scope.names [] (fun x r => (if x.2 == .free then do let c <- cellOf env x.1; pure (ForInStep.yield ((x.1, c) :: r)) else pure (ForInStep.yield r) : Sem _)) >>= fun cs => pure cs) = _
 rw [e]
 rfl
theorem xW {scope : Scope} {env : Env} {x : Str} (h : (relabel scope env).names.lookup x = some .cell \/ (relabel scope env).names.lookup x = some .free) : scope.names.lookup x = some .free \/ scope.names.lookup x = some .cell := by
  have go : ∀ names : List (Str × NameKind),
      ((names.map fun (n, k) => if (k == NameKind.free && env.scope.kind == .function && env.kindOf n == some .cell) then (n, NameKind.cell) else (n, k)).lookup x = some .cell \/
       (names.map fun (n, k) => if (k == NameKind.free && env.scope.kind == .function && env.kindOf n == some .cell) then (n, NameKind.cell) else (n, k)).lookup x = some .free) -> names.lookup x = some .free \/ names.lookup x = some .cell := by
    intro names
    induction names with
    | nil => intro h; simp at h
    | cons y r ih =>
      obtain ⟨n, k⟩ := y
      intro h
      rw [List.map_cons] at h
      cases hx : x == n with
      | true =>
        rw [List.lookup_cons, hx]
        by_cases hf : (k == NameKind.free && env.scope.kind == .function && env.kindOf n == some .cell) = true
        · have : (k == NameKind.free) = true := by
            cases q : (k == NameKind.free) with
            | true => rfl
            | false => rw [q] at hf; simp at hf
          have e : k = .free := by simpa using this
          rw [e]
          exact .inl rfl
        · simp only [hf, Bool.false_eq_true, if_false, List.lookup_cons, hx] at h
          rcases h with h | h
          · exact .inr h
          · exact .inl h
      | false =>
        rw [List.lookup_cons, hx]
        refine ih ?_
        by_cases hf : (k == NameKind.free && env.scope.kind == .function && env.kindOf n == some .cell) = true
        · simpa only [hf, if_true, List.lookup_cons, hx] using h
        · simpa only [hf, Bool.false_eq_true, if_false, List.lookup_cons, hx] using h
  exact go scope.names h
theorem zR {scope : Scope} {env : Env} {x : Str} (h : scope.names.lookup x = some .free) : (relabel scope env).names.lookup x = some .cell \/ (relabel scope env).names.lookup x = some .free := by
  have go : ∀ names : List (Str × NameKind), names.lookup x = some .free ->
      ((names.map fun (n, k) => if (k == NameKind.free && env.scope.kind == .function && env.kindOf n == some .cell) then (n, NameKind.cell) else (n, k)).lookup x = some .cell \/
       (names.map fun (n, k) => if (k == NameKind.free && env.scope.kind == .function && env.kindOf n == some .cell) then (n, NameKind.cell) else (n, k)).lookup x = some .free) := by
    intro names
    induction names with
    | nil => intro h; simp at h
    | cons y r ih =>
      obtain ⟨n, k⟩ := y
      intro h
      rw [List.map_cons]
      cases hx : x == n with
      | true =>
        rw [List.lookup_cons, hx] at h
        have e : k = .free := Option.some.inj h
        subst e
        by_cases hf : ((NameKind.free == NameKind.free) && env.scope.kind == .function && env.kindOf n == some .cell) = true
        · left; simp only [hf, if_true, List.lookup_cons, hx]
        · right; simp only [hf, Bool.false_eq_true, if_false, List.lookup_cons, hx]
      | false =>
        rw [List.lookup_cons, hx] at h
        by_cases hf : (k == NameKind.free && env.scope.kind == .function && env.kindOf n == some .cell) = true
        · simpa only [hf, if_true, List.lookup_cons, hx] using ih h
        · simpa only [hf, Bool.false_eq_true, if_false, List.lookup_cons, hx] using ih h
  exact go scope.names h
theorem jm : ∀ {names : List (Str × NameKind)} {x : Str}, names.lookup x = some .free -> (x, NameKind.free) ∈ names := fun h => PySem.mem_of_lookup h
theorem d7 : ∀ (names : List (Str × NameKind)) (n : Nat) (acc : List (Str × Addr)), cellsFrom n names acc = cellsFrom n names [] ++ acc
 | [], _, _ => rfl
 | (x, k) :: r, n, acc => by
  unfold cellsFrom
  split
  ·rw [d7 r (n + 1) ((x, n) :: acc), d7 r (n + 1) [(x, n)], List.append_assoc]
   rfl
  ·exact d7 r n acc
theorem jH : ∀ {names : List (Str × NameKind)} {n : Nat} {acc : List (Str × Addr)} {x : Str} {c : Addr}, (x, c) ∈ cellsFrom n names acc -> (x, NameKind.cell) ∈ names \/ (x, c) ∈ acc
 | [], _, _, _, _, h => .inr h
 | (y, k) :: r, n, acc, x, c, h => by
  unfold cellsFrom at h
  split at h
  ·rename_i hk
   have hk' : k = .cell := by simpa using hk
   rcases jH h with q | q
   ·exact .inl (List.mem_cons_of_mem _ q)
   ·rcases List.mem_cons.mp q with e | q
    ·cases e
     rw [hk']
     exact .inl List.mem_cons_self
    ·exact .inr q
  ·rcases jH h with q | q
   ·exact .inl (List.mem_cons_of_mem _ q)
   ·exact .inr q
def fQ (scope : Scope) (env : Env) (C : Addr) : List (Str × Addr) := cellsFrom (C + 1) scope.names (gY scope env)
theorem dg {scope : Scope} {env : Env} {C : Addr} {x : Str} {c : Addr} (e : (fQ scope env C).lookup x = some c) : (x, c) ∈ cellsFrom (C + 1) scope.names [] \/ ((cellsFrom (C + 1) scope.names []).lookup x = none /\ (gY scope env).lookup x = some c) := by
 unfold fQ at e
 rw [d7, List.lookup_append] at e
 cases q : (cellsFrom (C + 1) scope.names []).lookup x with
 | some d =>
  rw [q] at e
  have e' : d = c := by simpa using e
  subst e'
  exact .inl (PySem.mem_of_lookup q)
 | none =>
  rw [q] at e
  exact .inr ⟨rfl, by simpa using e⟩
theorem Ah {M : Model} {A : Around} {E : Value -> Shared -> Prop} {s : Shared} {scope : Scope} {globals : Addr} {cl : List (Str × Addr)} {qual : Str} {env : Env} {Q : Env -> Shared -> Prop}
  (hQ : ∀ h', h'.Ns s.heap.objs.size (fun _ => none) -> (∀ b o, s.heap.get? b = some o -> h'.get? b = some o) -> CellsOk h' (s.heap.objs.size + 1) (cellsFrom (s.heap.objs.size + 1) scope.names []) ->
   Q (newEnv scope s.heap.objs.size globals (cellsFrom (s.heap.objs.size + 1) scope.names cl) qual none .none (some env) builtinsNs) { s with heap := h' }) :
  wpAny M A (newFunctionEnv scope globals cl [] qual none .none (some env)) Q E s := by
 simp only [newFunctionEnv, Option.isSome_some, if_true]
 refine wpAny_bind (wpAny_alloc ?_)
 refine wpAny_bind (wpAny_layCells _ (fun name kind cells => by cases hkc : kind == NameKind.cell <;> simp [hkc]) _ _ _ _ ?_)
 have ok := cellsFrom_ok scope.names (s.heap.push { cls := .type "dict", data := .dict #[] }) (s.heap.objs.size + 1) [] ⟨fun _ _ hm => (nomatch hm), List.Pairwise.nil⟩ (by rw [Heap.size_push]; exact Nat.le_refl _)
 rw [Heap.size_push] at ok
 rw [show ({ s with heap := s.heap.push { cls := .type "dict", data := .dict #[] } } : Shared).heap.objs.size = s.heap.objs.size + 1 from Heap.size_push ..]
 refine wpAny_bind (wpAny_pure (wpAny_pure ?_))
 exact hQ _ ((Heap.Ns.new s.heap (.type "dict")).keeps (pushCells_keeps _ _)) (fun b o e => pushCells_keeps _ _ b o (Heap.get?_push_of_some _ e)) ok
def cg (X : Cx) (pins : List (Addr × Obj)) (scope : Scope) (N' : List Str) (fp : List Addr) (s2 : Shared) (C : Addr) (H : Hp) : Cx where
 prog := X.prog
 w := X.w
 K := X.K
 mg := X.mg
 base := X.base
 A := X.A
 N := N'
 s₀ := s2
 H₀ := H
 env := compEnvC scope (fQ scope X.env C) C X.env
 outer := X.stack
 stack := X.stack
 ex := fp
 fn := fun x => scope.names.lookup x == some .cell
 calm := X.calm
 pn := X.pn ++ pins
 xe := fun _ _ => False
def fH (src : List (Option Nat)) (σ : St) : St := src.map fun o => match o with | none => none | some j => (σ[j]?).getD none
def ud (scope around : Scope) (N N' : List Str) (src : List (Option Nat)) : Bool :=
 scope.kind == .function && scope.names.all (fun x => (x.2 != .cell || scope.names.lookup x.1 == some .cell) && (x.2 != .local || scope.names.lookup x.1 == some .local) && (x.2 != .free || around.names.lookup x.1 == some .cell || around.names.lookup x.1 == some .free)) &&
 N'.length == src.length && (N'.zip src).all fun x => match x.2 with | none => true | some j => N[j]? == some x.1 && scope.names.lookup x.1 == some .free
structure CompOk (scope around : Scope) (N N' : List Str) (src : List (Option Nat)) : Prop where
 kind : scope.kind = .function
 cellk : ∀ y ∈ scope.names, y.2 = .cell -> scope.names.lookup y.1 = some .cell
 loc : ∀ y ∈ scope.names, y.2 = .local -> scope.names.lookup y.1 = some .local
 free : ∀ y, (y, NameKind.free) ∈ scope.names -> around.names.lookup y = some .cell \/ around.names.lookup y = some .free
 len : N'.length = src.length
 src : ∀ (i j : Nat) (x : Str), N'[i]? = some x -> src[i]? = some (some j) -> N[j]? = some x /\ scope.names.lookup x = some .free
theorem CompOk.of {scope around : Scope} {N N' : List Str} {src : List (Option Nat)} (h : ud scope around N N' src = true) : CompOk scope around N N' src := by
 unfold ud at h
 simp only [Bool.and_eq_true, List.all_eq_true] at h
 obtain ⟨⟨⟨h1, h2⟩, h3⟩, h4⟩ := h
 refine ⟨by simpa using h1, fun y hy e => ?_, fun y hy e => ?_, fun y hy => ?_, by simpa using h3, fun i j x e1 e2 => ?_⟩
 ·have := (h2 y hy).1.1
  rw [e] at this
  simpa using this
 ·have := (h2 y hy).1.2
  rw [e] at this
  simpa using this
 ·have := (h2 _ hy).2
  simpa using this
 ·have hm : (x, some j) ∈ N'.zip src := by
   refine List.mem_of_getElem? (i := i) ?_
   rw [List.getElem?_zip_eq_some]
   exact ⟨e1, e2⟩
  have := h4 _ hm
  simpa using this
theorem Ep {src : List (Option Nat)} {σ : St} {i : Nat} {v : V} (e : (fH src σ)[i]? = some (some v)) : ∃ j, src[i]? = some (some j) /\ σ[j]? = some (some v) := by
 unfold fH at e
 rw [List.getElem?_map] at e
 cases q : src[i]? with
 | none => rw [q] at e; cases e
 | some o =>
  rw [q] at e
  cases o with
  | none => simp at e
  | some j =>
   refine ⟨j, rfl, ?_⟩
   have e' : (σ[j]?).getD none = some v := by simpa using e
   cases r : σ[j]? with
   | none => rw [r] at e'; cases e'
   | some y => rw [r] at e'; simpa using e'
section
variable {X : Cx} {pins : List (Addr × Obj)} {σ : St} {H : Hp} {s2 : Shared} {scope : Scope} {N' : List Str} {src : List (Option Nat)} {fp : List Addr} {C : Addr}
theorem xN (k : CompOk scope X.env.scope X.N N' src) (I : Inv X pins σ H s2) (m : Str -> Option Value) (i : Nat) (x : Str) (v : V) (e1 : N'[i]? = some x) (e2 : (fH src σ)[i]? = some (some v)) :
  ∃ u, RelV v u /\ Look (compEnvC scope (fQ scope X.env C) C X.env) s2.heap m x u := by
 obtain ⟨j, ej, ev⟩ := Ep e2
 obtain ⟨hN, hf⟩ := k.src i j x e1 ej
 have hm := jm hf
 have hk : X.env.scope.names.lookup x = some .cell \/ X.env.scope.names.lookup x = some .free := k.free x hm
 obtain ⟨m0, _, hl⟩ := I.loc
 obtain ⟨u, r, lk⟩ := hl j x v hN ev (.inr hk)
 refine ⟨u, r, .inr ⟨zR hf, ?_⟩⟩
 rcases lk with ⟨q, _⟩ | ⟨_, c, hc, z⟩
 ·have q' : X.env.scope.names.lookup x = some .local := q
  rcases hk with w | w
  ·rw [w] at q'; cases q'
  ·rw [w] at q'; cases q'
 ·refine ⟨c, ?_, z⟩
  have q : (cellsFrom (C + 1) scope.names []).lookup x = none := by
   cases q : (cellsFrom (C + 1) scope.names []).lookup x with
   | none => rfl
   | some d =>
    rcases jH (PySem.mem_of_lookup q) with y | y
    ·have := k.cellk _ y rfl
     rw [hf] at this
     cases this
    ·exact nomatch y
  show (fQ scope X.env C).lookup x = some c
  unfold fQ
  rw [d7, List.lookup_append, q, v_ hc hm]
  rfl
theorem zT (k : CompOk scope X.env.scope X.N N' src) {s0 : Shared} {H0 : Hp} {pl : List (Addr × Obj)} {σ' : St} (I : Inv X pins σ H s2) (I' : Inv (cg X pins scope N' fp s0 C H0) pl σ' H s2) : Inv (cg X pins scope N' fp s0 C H0) pl (fH src σ) H s2 := by
 obtain ⟨m, hns, _⟩ := I'.loc
 refine ⟨I'.ok, I'.os, I'.bare, I'.base, ⟨m, hns, fun i x v e1 e2 _ => xN (C := C) k I m i x v e1 e2⟩, I'.cell, I'.free, I'.freeC, I'.pin, I'.hok, ?_⟩
 unfold fH
 rw [List.length_map]
 exact k.len.symm
theorem Gg (k : CompOk scope X.env.scope X.N N' src) (I : Inv X pins σ H s2) (f : ∀ b ∈ fp, gC X pins H b) (fo : ∀ b ∈ fp, ∃ o, s2.heap.get? b = some o) (hC : s2.heap.objs.size <= C) {h1 : Heap} {tk : Nat} {m : Str -> Option Value} (hns : h1.Ns C m)
  (old : ∀ b o, s2.heap.get? b = some o -> h1.get? b = some o) (own : CellsOk h1 (C + 1) (cellsFrom (C + 1) scope.names [])) : Inv (cg X pins scope N' fp s2 C H) [] (fH src σ) H { s2 with heap := h1, toks := tk } := by
 have sub : ∀ x c, (gY scope X.env).lookup x = some c -> X.env.cells.lookup x = some c := fun x c e => oY e
 have oldc : ∀ x c, (gY scope X.env).lookup x = some c -> c < s2.heap.objs.size := fun x c e => by
  obtain ⟨v, q⟩ := I.cell x c (sub x c e)
  exact q.lt
 have ltC : ∀ b o, s2.heap.get? b = some o -> b ≠ C := fun b o e => Nat.ne_of_lt (Nat.lt_of_lt_of_le (Heap.lt_size e) hC)
 have nst : ∀ b, b ≠ X.env.locals -> b ∉ X.fs -> b ∉ frs X.stack := fun b h1 h2 hb => by
  rcases List.mem_cons.mp (I.stkSub b hb) with z | z
  ·exact h1 z
  ·exact h2 z
 refine ⟨⟨I.ok.mod, k.kind, I.ok.glob, I.ok.blt, hC, fun x y c e1 e2 => ?_, fun x hx => ?_, fun x c z e => ?_, I.ok.hd, I.ok.frames, .inl rfl, fun b hb => ⟨?_, fun x c e => ?_⟩,
   I.bs, Nat.le_trans I.ok.bsz I.sz, fun b o e hb => ?_, fun b hb => nst b (f b hb).2.1 (f b hb).2.2.1, I.stack, I.stkFree⟩,
  rfl, I.bare, Un.kept old, ⟨m, hns, fun i x v e1 e2 _ => ?_⟩, fun x c e => ?_, I.hok.fresh hC, fun x c e => ?_, fun p hp => ?_, I.hok.kept old, ?_⟩
 ·rcases dg e1 with q | ⟨_, q⟩
  ·rcases dg e2 with r | ⟨_, r⟩
   ·exact name_of_addr own.apart q r
   ·have h1 := (own.empty _ _ q).2
    have h2 := oldc _ _ r
    exact absurd (Nat.lt_of_lt_of_le h2 hC) (by omega)
  ·rcases dg e2 with r | ⟨_, r⟩
   ·have h1 := (own.empty _ _ r).2
    have h2 := oldc _ _ q
    exact absurd (Nat.lt_of_lt_of_le h2 hC) (by omega)
   ·exact I.ok.inj x y c (sub x c q) (sub y c r)
 ·show ∃ c, (fQ scope X.env C).lookup x = some c
  unfold fQ
  rw [d7, List.lookup_append]
  cases q : (cellsFrom (C + 1) scope.names []).lookup x with
  | some d => exact ⟨d, by simp⟩
  | none =>
   rcases xW hx with hf | hf
   ·have hm := jm hf
    have hk : X.env.kindOf x = some .cell \/ X.env.kindOf x = some .free := k.free x hm
    obtain ⟨c, hc⟩ := I.ok.has x hk
    exact ⟨c, by rw [v_ hc hm]; rfl⟩
   ·have := PySem.W.cellsFrom_some scope.names (C + 1) [] (.inl hf)
    rw [q] at this
    cases this
 ·have z1 : (scope.names.lookup x == some NameKind.cell) = true := z
  have z' : scope.names.lookup x = some .cell := by simpa using z1
  rcases dg e with q | ⟨q, _⟩
  ·exact Nat.le_trans hC (by have := (own.empty _ _ q).2; omega)
  ·have := PySem.W.cellsFrom_some scope.names (C + 1) [] (.inl z')
   rw [q] at this
   cases this
 ·obtain ⟨o, e⟩ := fo b hb
  exact ltC b o e
 ·rcases dg e with q | ⟨_, q⟩
  ·obtain ⟨o, eb⟩ := fo b hb
   have h1 := (own.empty _ _ q).2
   have h2 := Nat.lt_of_lt_of_le (Heap.lt_size eb) hC
   exact Nat.ne_of_gt (Nat.lt_of_lt_of_le h2 (Nat.le_trans (Nat.le_succ C) h1))
  ·exact (f b hb).2.2.2.2.1 x c (sub x c q)
 ·rcases (f b hb).2.2.2.1 with z | z
  ·exact I.ok.noex b o e z
  ·exact absurd (Nat.lt_of_lt_of_le (Heap.lt_size e) (Nat.le_trans I.ok.bsz z)) (Nat.lt_irrefl _)
 ·exact xN (C := C) k (I.kept (t' := tk) old) m i x v e1 e2
 ·rcases dg e with q | ⟨_, q⟩
  ·exact ⟨_, (own.empty _ _ q).1⟩
  ·obtain ⟨v, o, ho, hd⟩ := I.cell x c (sub x c q)
   exact ⟨v, o, old c o ho, hd⟩
 ·rcases dg e with q | ⟨_, q⟩
  ·exact I.hok.fresh (by have := (own.empty _ _ q).2; omega)
  ·exact I.freeC x c (sub x c q)
 ·have hp' : p ∈ X.pn ++ pins := by
   have : p ∈ (X.pn ++ pins) ++ [] := hp
   simpa using this
  obtain ⟨e, n, ne, nf, d⟩ := I.pin p hp'
  exact ⟨old _ _ e, n, ltC _ _ e, nst _ ne nf, d⟩
 ·unfold fH
  rw [List.length_map]
  exact k.len.symm
end
def PTs (X : Cx) (ifs : List Expr) (t : TT) : Prop :=
 ∀ (pins : List (Addr × Obj)) (s : Shared) (σ : St) (H : Hp) (Q : Bool -> Hp -> Prop), Inv X pins σ H s -> t σ H Q ->
  wpAny (model X.prog X.w) X.A (forIn ifs true fun c r => if r = true then do let ok <- isTrue c X.env (eval c X.env); pure (ForInStep.yield ok) else pure (ForInStep.yield r)) (TP X pins σ Q) X.xe s
def lE : TT := fun _ H Q => Q true H
theorem bf {X : Cx} : PTs X [] lE := fun _ _ _ H _ I h => wpAny_tests_nil ⟨H, I, h⟩
theorem Av {X : Cx} {c : Expr} {t : TT} (h : PT X c t) : PTs X [c] t := fun pins s σ H Q I hw => wpAny_tests_one (h pins s σ H Q I hw)
theorem yt {prog : Program} {w : World} {A : Around} {R : Result -> Shared -> Prop} {s : Shared} {elt target iter : Expr} {ifs : List Expr} {scope : Scope} {pos : Pos} {it acc : Value} {env : Env} (I : Nat -> Shared -> Prop)
  (turn : ∀ n s, I n s -> wpAny (model prog w) A (pyNext it) (fun r s₁ => match r with
   | none => R (.ok .next) s₁
   | some v => wpAny (model prog w) A (letOwnedTupleGo target it v) (fun _ s₀ => wpAny (model prog w) A (assign target env v) (fun _ s₂ =>
     wpAny (model prog w) A (forIn ifs true fun c r => if r = true then do let ok <- isTrue c env (eval c env); pure (ForInStep.yield ok) else pure (ForInStep.yield r)) (fun ok s₃ =>
      if ok = true then wpAny (model prog w) A (eval elt env) (fun x s₄ =>
       wpAny (model prog w) A (call (.builtin "list.append") [acc, x]) (fun _ s₅ => ∃ m, m < n /\ I m s₅) (fun _ _ => False) s₄) (fun _ _ => False) s₃
      else ∃ m, m < n /\ I m s₃) (fun _ _ => False) s₂) (fun _ _ => False) s₀) (fun _ _ => False) s₁) (fun _ _ => False) s)
  (n : Nat) (h : I n s) : codeAny (model prog w) A (.compLoop (.ListComp elt [⟨target, iter, ifs, 0⟩] scope pos) 0 it acc env) R s := by
 refine codeAny_loop rfl I (fun n s hI => ?_) n h
 show wpAny _ A ((compTurn (.ListComp elt [⟨target, iter, ifs, 0⟩] scope pos) 0 it acc env).onRaise (fun x => do noteFrame x env; theTreesLotGoes x)) _ _ s
 refine wpAny_noted ?_
 rw [compTurn_list]
 refine wpAny_mono (E := fun _ _ => False) ?_ (fun _ _ q => q) (fun _ _ z => z.elim)
 refine wpAny_bind (wpAny_standAt (wpAny_bind (wpAny_mono (turn n s hI) (fun r s₁ h₁ => ?_) fun _ _ h' => h')))
 cases r with
 | none => exact wpAny_pure h₁
 | some v =>
  refine wpAny_bind (wpAny_mono h₁ (fun _ s₀ h₀ => ?_) fun _ _ h' => h')
  refine wpAny_bind (wpAny_mono h₀ (fun _ s₂ h₂ => wpAny_bind (wpAny_mono h₂ (fun ok s₃ h₃ => ?_) fun _ _ h' => h')) fun _ _ h' => h')
  cases ok with
  | false => exact wpAny_pure ⟨rfl, h₃⟩
  | true =>
   exact wpAny_bind (wpAny_bind (wpAny_mono h₃ (fun x s₄ h₄ => wpAny_bind (wpAny_mono h₄ (fun _ s₅ h₅ => wpAny_pure (wpAny_pure ⟨rfl, h₅⟩)) fun _ _ h' => h')) fun _ _ h' => h'))
def eF (J : It) (g : TG) (tt : TT) (te : TE) (σc : St) (H1 : Hp) (Fin : List V -> Hp -> Prop) : Prop :=
 ∃ W : Nat -> Nat -> List V -> Hp -> Prop, (∃ m, W 0 m [] H1) /\ ∀ i m ys H, W i m ys H ->
  (J.stop i H /\ Fin ys H) \/ (J.go i H /\ ys.length < sizeLine /\ ∃ N : List V -> Hp -> Prop, (∀ ys' H', N ys' H' -> ∃ m', m' < m /\ W (i + 1) m' ys' H') /\
   ∀ x H', J.yld i H x H' -> g x σc H' fun σ2 H2 => tt σ2 H2 fun b H3 => if b = true then te σ2 H3 fun y H4 => N (ys ++ [y]) H4 else N ys H3)
def GD (wi : TI) (src : List (Option Nat)) (g : TG) (tt : TT) (te : TE) : TE := fun σ H Q => wi σ H fun J H1 => eF J g tt te (fH src σ) H1 fun ys H2 => ∀ p, H2 p = none -> Q (.ref p) (upd H2 p (.lst ys))
abbrev lobj (its : List Value) (k : Nat) : Obj := { cls := .type "list", data := .seq its.toArray k }
theorem yH {X : Cx} {pins : List (Addr × Obj)} {σ : St} {H : Hp} {s2 : Shared} {E : Value -> Shared -> Prop} {scope : Scope} {N' : List Str} {src : List (Option Nat)} {fp : List Addr} {it : Addr} {tn : Nat -> Heap -> Prop} {J : It} {tg elt iter : Expr} {ifs : List Expr} {pos : Pos} {g : TG} {tt : TT} {te : TE}
  {Fin : List V -> Hp -> Prop} {RR : Value -> Addr -> Result -> Shared -> Prop} (hc : X.calm = true) (k : CompOk scope X.env.scope X.N N' src) (I : Inv X pins σ H s2) (T : Turn X.prog X.w X.K tg J fp it tn) (st0 : tn 0 s2.heap) (f : ∀ b ∈ fp, gC X pins H b)
  (hg : ∀ C, PG (cg X pins scope N' fp s2 C H) tg g) (ht : ∀ C, PTs (cg X pins scope N' fp s2 C H) ifs tt) (he : ∀ C, PE (cg X pins scope N' fp s2 C H) elt te)
  (h : eF J g tt te (fH src σ) H Fin)
  (hRR : ∀ D C s' H' ys its n, Inv X pins σ H' s' -> gC X pins H' D -> gC X pins H' C -> C ≠ D -> (∃ m, s'.heap.Ns C m) -> s'.heap.get? D = some (lobj its n) -> Vals ys its -> ys.length <= sizeLine -> Fin ys H' -> RR (.ref D) C (.ok .next) s') :
  wpAny (model X.prog X.w) X.A (newList []) (fun acc s₃ => wpAny (model X.prog X.w) X.A (newFunctionEnv scope X.env.globals (gY scope X.env) [] X.env.qual none .none (some X.env)) (fun cenv s₄ =>
   codeAny (model X.prog X.w) X.A (.compStart (.ListComp elt [⟨tg, iter, ifs, 0⟩] scope pos) 0 (.ref it) acc { cenv with scope := relabel scope X.env }) (RR acc cenv.locals) s₄) E s₃) E s2 := by
 refine wpAny_newObj_type (Ah fun h₁ hns₁ old₁ own₁ => ?_)
 dsimp only at hns₁ old₁ own₁ ⊢
 generalize hH2 : s2.heap.push { cls := .type "list", dict := none, data := .seq ([] : List Value).toArray } = H2 at hns₁ old₁ own₁ ⊢
 have hC : H2.objs.size = s2.heap.objs.size + 1 := by rw [<- hH2, Heap.size_push]
 have hDC : s2.heap.objs.size ≠ H2.objs.size := by rw [hC]; exact Nat.ne_of_lt (Nat.lt_succ_self _)
 have hCle : s2.heap.objs.size <= H2.objs.size := by rw [hC]; exact Nat.le_succ _
 have old : ∀ b o, s2.heap.get? b = some o -> h₁.get? b = some o := fun b o e => old₁ b o (hH2 ▸ Heap.get?_push_of_some _ e)
 have hacc : h₁.get? s2.heap.objs.size = some (lobj [] 0) := old₁ _ _ (hH2 ▸ Heap.get?_push_size _ rfl)
 generalize hDe : s2.heap.objs.size = D at hDC hacc
 generalize hCe : H2.objs.size = C at hDC hC hCle hns₁ own₁ ⊢
 have fo : ∀ b ∈ fp, ∃ o, s2.heap.get? b = some o := fun b hb => let ⟨o, e, _⟩ := T.obj 0 _ st0 b hb; ⟨o, e⟩
 have fD : ∀ b ∈ fp, b ≠ D := fun b hb => by obtain ⟨o, e⟩ := fo b hb; rw [<- hDe]; exact Nat.ne_of_lt (Heap.lt_size e)
 have fC : ∀ b ∈ fp, b ≠ C := fun b hb => by obtain ⟨o, e⟩ := fo b hb; exact Nat.ne_of_lt (Nat.lt_of_lt_of_le (Heap.lt_size e) hCle)
 have stk : ∀ b, s2.heap.objs.size <= b -> b ∉ frs X.stack := fun b hb z => by
  rcases List.mem_cons.mp (I.stkSub b z) with q | q
  ·rw [q] at hb; exact absurd (Nat.lt_of_lt_of_le I.lt hb) (Nat.lt_irrefl _)
  ·exact I.nofs hb q
 have I0 : Inv (cg X pins scope N' fp s2 C H) [] (fH src σ) H { s2 with heap := h₁ } := Gg (tk := s2.toks) k I f fo hCle hns₁ old own₁
 have hDn : H D = none := I.hok.fresh (by rw [hDe]; exact Nat.le_refl _)
 have nD : D ≠ C /\ D ∉ frs X.stack := ⟨hDC, stk D (by rw [hDe]; exact Nat.le_refl _)⟩
 have cellF : ∀ x c, (fQ scope X.env C).lookup x = some c -> ∀ b, b < C -> (∀ x c, X.env.cells.lookup x = some c -> c ≠ b) -> c ≠ b := fun x c e b hb hx z => by
  rcases dg e with q | ⟨_, q⟩
  ·have := (own₁.empty _ _ q).2
   exact Nat.ne_of_gt (Nat.lt_of_lt_of_le hb (Nat.le_trans (Nat.le_succ C) this)) z
  ·exact hx x c (oY q) z
 have hDC2 : D < C := by rw [hC, <- hDe]; exact Nat.lt_succ_self _
 have cellD : ∀ x c, (fQ scope X.env C).lookup x = some c -> c ≠ D := fun x c e => cellF x c e D hDC2 fun x c e z => by
  obtain ⟨v, q⟩ := I.cell x c e
  have := q.lt
  rw [z, <- hDe] at this
  exact Nat.lt_irrefl _ this
 have pnD : ∀ p ∈ X.pn ++ pins, p.1 ≠ D := fun p hp z => by
  have := Heap.lt_size (I.pin p hp).1
  rw [z, <- hDe] at this
  exact Nat.lt_irrefl _ this
 have nocell : ∀ (its : List Value) (n : Nat) (v : Option Value), (lobj its n).data ≠ .cell v := fun its n v z => by
  have z' : Data.seq its.toArray n = Data.cell v := z
  cases z'
 have pinD : ∀ {σ' : St} {H' : Hp} {s' : Shared} {its : List Value} {n : Nat} {pl : List (Addr × Obj)}, Inv (cg X pins scope N' fp s2 C H) pl σ' H' s' -> s'.heap.get? D = some (lobj its n) -> H' D = none -> Inv (cg X pins scope N' fp s2 C H) [(D, lobj its n)] σ' H' s' :=
  fun {σ' H' s' its n pl} J1 e hn => J1.pins_of fun p hp => by
   have hp' : p = (D, lobj its n) := List.mem_singleton.mp hp
   subst hp'
   exact ⟨e, hn, nD.1, nD.2, nocell _ _⟩
 obtain ⟨W, ⟨m0, w0⟩, turn⟩ := h
 have ltf : ∀ b ∈ fp, b < C := fun b hb => by obtain ⟨o, e⟩ := fo b hb; exact Nat.lt_of_lt_of_le (Heap.lt_size e) hCle
 have loop : ∀ s₃ : Shared, s₃ = { s2 with heap := h₁ } ->
   codeAny (model X.prog X.w) X.A (.compLoop (.ListComp elt [⟨tg, iter, ifs, 0⟩] scope pos) 0 (.ref it) (.ref D) (compEnvC scope (fQ scope X.env C) C X.env)) (RR (.ref D) C) s₃ := by
  rintro s₃ rfl
  refine yt (fun n s' => ∃ i σ' H' ys its l, Inv (cg X pins scope N' fp s2 C H) [(D, lobj its l)] σ' H' s' /\ tn i s'.heap /\ (∀ b ∈ fp, H' b = none) /\ Vals ys its /\ ys.length <= sizeLine /\ W i n ys H' ) ?_ m0
   ⟨0, fH src σ, H, [], [], 0, pinD I0 hacc hDn, T.keep _ _ _ st0 fun b _ o e => old b o e, fun b hb => (f b hb).1, .nil, Nat.zero_le _, w0⟩
  rintro n s3 ⟨i, σ3, H3, ys, its, l, I3, st3, fr3, rv, hz, w3⟩
  have stat : ∀ {H' : Hp} {its' : List Value} {l' : Nat}, (∀ b ∈ fp, H' b = none) -> ∀ b ∈ fp, gC (cg X pins scope N' fp s2 C H) [(D, lobj its' l')] H' b := fun hn b hb =>
   ⟨hn b hb, fC b hb, (fun z => by
     rcases List.mem_cons.mp (I.stkSub b z) with q | q
     ·exact (f b hb).2.1 q
     ·exact (f b hb).2.2.1 q), .inl hb, fun x c e => cellF x c e b (ltf b hb) (f b hb).2.2.2.2.1, fun p hp => by
    rcases List.mem_append.mp hp with z | z
    ·exact (f b hb).2.2.2.2.2 p z
    ·rw [List.mem_singleton.mp z]
     exact Ne.symm (fD b hb)⟩
  have IX3 : Inv X pins σ H3 s3 := I.call' (ch := fp) I3.os I3.base I3.hok I3.bare fun b hb => ⟨(f b hb).2.2.2.1, (f b hb).2.1, (f b hb).2.2.2.2.1, (f b hb).2.2.2.2.2⟩
  have I3c : Inv (cg X pins scope N' fp s2 C H) [(D, lobj its l)] (fH src σ) H3 s3 := zT k IX3 I3
  rcases turn i n ys H3 w3 with ⟨stop, fin⟩ | ⟨go, hlt, NN, hNN, step⟩
  ·refine wpAny_mono (T.done (cg X pins scope N' fp s2 C H) rfl rfl rfl hc i _ s3 σ3 H3 (fun _ _ => False) I3 (stat fr3) st3 stop) (fun r s4 ⟨hr, I4⟩ => ?_) fun _ _ z => z
   subst hr
   have eD := (I4.pin (D, lobj its l) (List.mem_append_right _ List.mem_cons_self))
   have IX : Inv X pins σ H3 s4 := I.call' (ch := fp) I4.os I4.base I4.hok I4.bare fun b hb => ⟨(f b hb).2.2.2.1, (f b hb).2.1, (f b hb).2.2.2.2.1, (f b hb).2.2.2.2.2⟩
   obtain ⟨m4, hn4, _⟩ := I4.loc
   exact hRR D C s4 H3 ys its l IX (I.fpOk (by rw [hDe]; exact Nat.le_refl _) eD.2.1) (I.fpOk hCle I4.free) (Ne.symm hDC) ⟨m4, hn4⟩ eD.1 rv hz fin
  ·refine wpAny_mono (T.item (cg X pins scope N' fp s2 C H) rfl rfl rfl hc i _ s3 (fH src σ) H3 (fun _ _ => False) I3c (stat fr3) st3 go) (fun r s4 ⟨u, hr, h4⟩ => ?_) fun _ _ z => z
   subst hr
   refine wpAny_mono h4 (fun _ s5 ⟨x, H5, I5, r5, y5, st5, fr5⟩ => ?_) fun _ _ z => z
   have I5' := I5.pinned (stat fr5) (T.obj _ _ st5)
   refine wpAny_mono (hg C _ s5 (fH src σ) H5 x u _ I5' r5 (step x H5 y5)) (fun _ s6 ⟨σ6, H6, I6, q6⟩ => ?_) fun _ _ z => z
   refine wpAny_mono (ht C _ s6 σ6 H6 _ I6 q6) (fun b s7 ⟨H7, I7, q7⟩ => ?_) fun _ _ z => z
   have back : ∀ {σ8 : St} {H8 : Hp} {s8 : Shared}, Inv (cg X pins scope N' fp s2 C H) ([(D, lobj its l)] ++ kE fp s5.heap) σ8 H8 s8 -> tn (i + 1) s8.heap /\ (∀ b ∈ fp, H8 b = none) := fun {σ8 H8 s8} I8 => by
    have pk : ∀ b ∈ fp, ∀ o, s5.heap.get? b = some o -> s8.heap.get? b = some o /\ H8 b = none := fun b hb o e => by
     have q := I8.pin (b, o) (List.mem_append_right _ (List.mem_append_right _ (nC hb e)))
     exact ⟨q.1, q.2.1⟩
    refine ⟨T.keep _ _ _ st5 fun b hb o e => (pk b hb o e).1, fun b hb => ?_⟩
    obtain ⟨o, e, _⟩ := T.obj _ _ st5 b hb
    exact (pk b hb o e).2
   cases b with
   | false =>
    obtain ⟨m', hm, w7⟩ := hNN _ _ q7
    obtain ⟨b1, b2⟩ := back I7
    exact ⟨m', hm, i + 1, σ6, H7, ys, its, l, I7.unpinned, b1, b2, rv, hz, w7⟩
   | true =>
    refine wpAny_mono (he C _ s7 σ6 H7 _ I7 q7) (fun y s8 ⟨v8, H8, I8, r8, q8⟩ => ?_) fun _ _ z => z
    obtain ⟨m', hm, w8⟩ := hNN _ _ q8
    obtain ⟨b1, b2⟩ := back I8
    have eD := (I8.pin (D, lobj its l) (List.mem_append_right _ (List.mem_append_left _ List.mem_cons_self)))
    have hl := rv.length
    refine append_at (hsz := by show its.toArray.size <= sizeLine; rw [List.size_toArray]; omega) eD.1 fun h9 hs9 hD9 => ?_
    have I8' : Inv (cg X pins scope N' fp s2 C H) (kE fp s5.heap) σ6 H8 s8 := I8.pins_of fun p hp => I8.pin p (List.mem_append_right _ (List.mem_append_right _ hp))
    have I9 : Inv (cg X pins scope N' fp s2 C H) (kE fp s5.heap) σ6 H8 { s8 with heap := h9 } := I8'.turned (t' := s8.toks) (fun b o hb e => hs9.extBut b o hb e) eD.2.1 nD.1 (.inr (by show s2.heap.objs.size <= D; rw [hDe]; exact Nat.le_refl _)) cellD fun p hp => by
     rcases List.mem_append.mp hp with z | z
     ·exact pnD p z
     ·exact fD _ (v9 z).1
    have e9 : ({ cls := .type "list", data := .seq (its.toArray.push y) (l + 1) } : Obj) = lobj (its ++ [y]) (l + 1) := by
     show ({ cls := .type "list", data := .seq (its.toArray.push y) (l + 1) } : Obj) = { cls := .type "list", data := .seq (its ++ [y]).toArray (l + 1) }
     rw [List.push_toArray]
    rw [e9] at hD9
    refine ⟨m', hm, i + 1, σ6, H8, ys ++ [v8], its ++ [y], l + 1, pinD I9 hD9 eD.2.1, T.keep _ _ _ b1 fun b hb o e => hs9.extBut b o (fD b hb) e, b2, rv.append (.cons r8 .nil), by rw [List.length_append, List.length_singleton]; omega, w8⟩
 subst hDe
 exact codeAny_compStart_list (loop _ rfl) (T.self _ 0 _ _ _ (T.keep _ _ _ st0 fun b _ o e => old b o e) (loop _ rfl))
section
variable {X : Cx} {scope : Scope} {N' : List Str} {src : List (Option Nat)} {tg elt iter : Expr} {ifs : List Expr} {pos : Pos} {wi : TI} {g : TG} {tt : TT} {te : TE}
theorem qx {pins : List (Addr × Obj)} {σ : St} {H : Hp} {s : Shared} {N : List Str} (k : CompOk scope X.env.scope N N' src) (I : Inv X pins σ H s) : closureFor scope X.env = pure (gY scope X.env) :=
 wI fun n hn => I.ok.has n (k.free n hn)
theorem bj (hc : X.calm = true) (hk : ud scope X.env.scope X.N N' src = true) (hi : PI X tg iter wi)
  (hg : ∀ pins fp s2 C H, PG (cg X pins scope N' fp s2 C H) tg g) (ht : ∀ pins fp s2 C H, PTs (cg X pins scope N' fp s2 C H) ifs tt) (he : ∀ pins fp s2 C H, PE (cg X pins scope N' fp s2 C H) elt te)
  (hs : ∀ x, foldedSetIterable iter X.env x = pure x := by intro _; rfl) : PE X (.ListComp elt [⟨tg, iter, ifs, 0⟩] scope pos) (GD wi src g tt te) := by
 intro pins s σ H Q I h
 have k := CompOk.of hk
 rw [eval_ListComp]
 refine wpAny_comprehension_free (use := none) rfl hs (qx k I) k.kind k.loc (thn (hi pins s σ H _ I h) fun xv s1 h1 => thn h1 fun itv s2 h2 => ?_)
 obtain ⟨it, fp, tn, J, H2, e, I2, T, st2, f2, q2⟩ := h2
 subst e
 refine yH hc k I2 T st2 f2 (hg pins fp s2 · H2) (ht pins fp s2 · H2) (he pins fp s2 · H2) q2 ?_
 intro D C s' H' ys its n I' fD fC hCD hns hD rv hz fin
 obtain ⟨m, hn⟩ := hns
 refine ⟨m, hn, fun h' hs' => ?_⟩
 have I3 : Inv X pins σ H' { s' with heap := h' } := I'.turned (t' := s'.toks) (fun b o hb e => hs'.extBut b o hb e) fC.1 fC.2.1 fC.2.2.2.1 fC.2.2.2.2.1 fC.2.2.2.2.2
 exact ⟨.ref D, upd H' D (.lst ys), I3.track fD ⟨hz, its, n, rv, hs'.extBut _ _ (Ne.symm hCD) hD⟩, rfl, fin D fD.1⟩
theorem jV {i : Nat} {x : Str} {px spos : Pos} (hc : X.calm = true) (hN : X.N.Nodup) (hi' : X.N[i]? = some x) (hx : X.env.scope.names.lookup x = some .local) (hk : ud scope X.env.scope X.N N' src = true) (hi : PI X tg iter wi)
  (hg : ∀ pins fp s2 C H, PG (cg X pins scope N' fp s2 C H) tg g) (ht : ∀ pins fp s2 C H, PTs (cg X pins scope N' fp s2 C H) ifs tt) (he : ∀ pins fp s2 C H, PE (cg X pins scope N' fp s2 C H) elt te)
  (hsw : swapsWith (.ListComp elt [⟨tg, iter, ifs, 0⟩] scope pos) (some (.Name x px)) spos.line X.env = pure true := by rfl)
  (hs : ∀ x, foldedSetIterable iter X.env x = pure x := by intro _; rfl) : PS X (.Assign [.Name x px] (.ListComp elt [⟨tg, iter, ifs, 0⟩] scope pos) spos) (Gw (GD wi src g tt te) (fW i)) := by
 intro pins s σ H D0 I h
 have k := CompOk.of hk
 rw [exec_Assign_Name_used _ _ _ _ hsw]
 refine wpAny_bind (wpAny_standAt (wpAny_bind ?_))
 show wpAny _ X.A (do let _ <- comprehension (.ListComp elt [⟨tg, iter, ifs, 0⟩] scope pos) scope X.env _ (newList []) false (eval iter X.env) (some (assign (.Name x px) X.env))) _ _ s
 refine wpAny_bind (wpAny_mono (wpAny_comprehension_free (use := some (assign (.Name x px) X.env)) (Q := fun _ s' => SP X pins D0 .next s') rfl hs (qx k I) k.kind k.loc
  (thn (hi pins s σ H _ I h) fun xv s1 h1 => thn h1 fun itv s2 h2 => ?_)) (fun _ s' hq => wpAny_pure (wpAny_pure hq)) fun _ _ e => e)
 obtain ⟨it, fp, tn, J, H2, e, I2, T, st2, f2, q2⟩ := h2
 subst e
 refine yH hc k I2 T st2 f2 (hg pins fp s2 · H2) (ht pins fp s2 · H2) (he pins fp s2 · H2) q2 ?_
 intro D C s' H' ys its n I' fD fC hCD hns hD rv hz fin
 obtain ⟨m, hn⟩ := hns
 show wpAny _ X.A (assign (.Name x px) X.env (.ref D)) _ _ _
 refine wpAny_assign_Name (vZ I' hN hi' (.inl hx) (show RelV (.ref D) (.ref D) from rfl) (fun s3 I3 hsb => ?_) (.inr hx))
 obtain ⟨a, hsb, ha⟩ := hsb
 have haC : C ≠ a := fun z => by
  rcases ha with q | q
  ·exact fC.2.1 (z.trans q)
  ·exact fC.2.2.2.2.1 x a q z.symm
 have haD : D ≠ a := fun z => by
  rcases ha with q | q
  ·exact fD.2.1 (z.trans q)
  ·exact fD.2.2.2.2.1 x a q z.symm
 refine ⟨m, hn.sameBut hsb haC, fun h' hs' => ?_⟩
 have I4 : Inv X pins (σ.set i (some (.ref D))) H' { s3 with heap := h' } := I3.turned (t' := s3.toks) (fun b o hb e => hs'.extBut b o hb e) fC.1 fC.2.1 fC.2.2.2.1 fC.2.2.2.2.1 fC.2.2.2.2.2
 exact ⟨_, upd H' D (.lst ys), I4.track fD ⟨hz, its, n, rv, hs'.extBut _ _ (Ne.symm hCD) (hsb.extBut _ _ haD hD)⟩, fin D fD.1⟩
end
theorem Do {K : PySem.W.Frag} {a : Addr} {xs : List V} {g : TG} {tt : TT} {te : TE} {σc : St} {H : Hp} {Fin : List V -> Hp -> Prop} (Pv : Nat -> List V -> Hp -> Prop) (h0 : Pv 0 [] H) (hl : ∀ i ys H, i <= xs.length -> Pv i ys H -> SqL K H a xs /\ ys.length <= i) (hz : xs.length <= sizeLine)
  (hs : ∀ i x ys H, xs[i]? = some x -> Pv i ys H -> g x σc H fun σ2 H2 => tt σ2 H2 fun b H3 => if b = true then te σ2 H3 fun y H4 => Pv (i + 1) (ys ++ [y]) H4 else Pv (i + 1) ys H3)
  (hd : ∀ ys H, Pv xs.length ys H -> Fin ys H) : eF (Itl K a) g tt te σc H Fin := by
 refine ⟨fun i m ys H => m = xs.length - i /\ i <= xs.length /\ Pv i ys H, ⟨xs.length, by simp, Nat.zero_le _, h0⟩, ?_⟩
 rintro i m ys H ⟨rfl, hi, p⟩
 obtain ⟨q, hy⟩ := hl i ys H hi p
 by_cases hlt : i < xs.length
 ·refine .inr ⟨⟨xs, xs[i], q, by simp [hlt]⟩, by omega, Pv (i + 1), fun ys' H' p' => ⟨xs.length - (i + 1), by omega, rfl, hlt, p'⟩, fun x H' y => ?_⟩
  obtain ⟨e, y⟩ := y
  subst e
  exact hs i x ys _ (y xs q) p
 ·have e : i = xs.length := by omega
  subst e
  exact .inl ⟨⟨xs, q, Nat.le_refl _⟩, hd ys H p⟩
theorem Ga {K : PySem.W.Frag} {a : Addr} {xs : List V} {g : TG} {tt : TT} {te : TE} {σc : St} {H : Hp} {Fin : List V -> Hp -> Prop} (Pv : Nat -> List V -> Hp -> Prop) (h0 : Pv 0 [] H) (hl : ∀ i ys H, i <= xs.length -> Pv i ys H -> SqT K H a xs /\ ys.length <= i) (hz : xs.length <= sizeLine)
  (hs : ∀ i x ys H, xs[i]? = some x -> Pv i ys H -> g x σc H fun σ2 H2 => tt σ2 H2 fun b H3 => if b = true then te σ2 H3 fun y H4 => Pv (i + 1) (ys ++ [y]) H4 else Pv (i + 1) ys H3)
  (hd : ∀ ys H, Pv xs.length ys H -> Fin ys H) : eF (Itt K a) g tt te σc H Fin := by
 refine ⟨fun i m ys H => m = xs.length - i /\ i <= xs.length /\ Pv i ys H, ⟨xs.length, by simp, Nat.zero_le _, h0⟩, ?_⟩
 rintro i m ys H ⟨rfl, hi, p⟩
 obtain ⟨q, hy⟩ := hl i ys H hi p
 by_cases hlt : i < xs.length
 ·refine .inr ⟨⟨xs, xs[i], q, by simp [hlt]⟩, by omega, Pv (i + 1), fun ys' H' p' => ⟨xs.length - (i + 1), by omega, rfl, hlt, p'⟩, fun x H' y => ?_⟩
  obtain ⟨e, y⟩ := y
  subst e
  exact hs i x ys _ (y xs q) p
 ·have e : i = xs.length := by omega
  subst e
  exact .inl ⟨⟨xs, q, Nat.le_refl _⟩, hd ys H p⟩
theorem CK {lo : Int} {n : Nat} {g : TG} {tt : TT} {te : TE} {σc : St} {H : Hp} {Fin : List V -> Hp -> Prop} (Pv : Nat -> List V -> Hp -> Prop) (h0 : Pv 0 [] H) (hl : ∀ i ys H, i <= n -> Pv i ys H -> ys.length <= i) (hz : n <= sizeLine)
  (hs : ∀ i ys H, i < n -> Pv i ys H -> g (.int (lo + i)) σc H fun σ2 H2 => tt σ2 H2 fun b H3 => if b = true then te σ2 H3 fun y H4 => Pv (i + 1) (ys ++ [y]) H4 else Pv (i + 1) ys H3)
  (hd : ∀ ys H, Pv n ys H -> Fin ys H) : eF (Itr lo n) g tt te σc H Fin := by
 refine ⟨fun i m ys H => m = n - i /\ i <= n /\ Pv i ys H, ⟨n, by simp, Nat.zero_le _, h0⟩, ?_⟩
 rintro i m ys H ⟨rfl, hi, p⟩
 have hy := hl i ys H hi p
 by_cases hlt : i < n
 ·refine .inr ⟨hlt, by omega, Pv (i + 1), fun ys' H' p' => ⟨n - (i + 1), by omega, rfl, hlt, p'⟩, fun x H' y => ?_⟩
  obtain ⟨e, y⟩ := y
  subst e y
  exact hs i ys _ hlt p
 ·have e : i = n := by omega
  subst e
  exact .inl ⟨Nat.le_refl _, hd ys H p⟩
end L2
set_option Elab.async false
set_option linter.all false
set_option maxRecDepth 100000
namespace L2
open PySem PySem.Spec PyProof.Rows
section
variable {X : Cx}
theorem Af : CallR X (.builtin "isinstance") (fun xs H Q => ∃ x t T b, xs = [x, .ty T] /\ TyOf X.K H x t /\ PySem.W.kitOne X.K t (.type T) = some b /\ Q (.bl b) H) := by
 intro pins s σ H xs us Q I r h
 obtain ⟨x, t, T, b, rfl, ty, e, q⟩ := h
 cases r with
 | cons r1 rr =>
  cases rr with
  | cons r2 rr =>
   cases rr
   cases r2
   exact Eh I r1 ty e fun tk => ⟨.bl b, H, I.tok _, rfl, q⟩
theorem Vals.bools : ∀ {bs : List Bool} {us : List Value}, Vals (bs.map V.bl) us -> LSm.BoolsAre us bs
 | [], _, .nil => .nil
 | _ :: _, _, .cons r t => by
  cases r
  exact .cons _ (Vals.bools t)
theorem FT (hc : X.calm = true) : CallR X (.builtin "all") (fun xs H Q => ∃ (a : Addr) (bs : List Bool), xs = [.ref a] /\ SqL X.K H a (bs.map V.bl) /\ Q (.bl (bs.all id)) H) := by
 intro pins s σ H xs us Q I r h
 obtain ⟨a, bs, rfl, hq, q⟩ := h
 cases r with
 | cons r1 rr =>
  cases rr
  cases r1
  obtain ⟨its, rv, p, hz⟩ := I.list hq
  have hl := p.isList
  have hb := rv.bools
  have hlt : a < s.heap.objs.size := by obtain ⟨_, e, _⟩ := hl; exact Heap.lt_size e
  refine call_all_walk (wpAny_pyIter_list hl ?_)
  refine ⟨s.heap.objs.size, [s.heap.objs.size, a], [s.heap.objs.size], its.toArray.size, _, _, fun i => (bs[i]?).getD true, rfl, Walks.list (A := X.A.in1) (I.ok.hd hc) _ a (Nat.ne_of_lt hlt) its.toArray,
   ⟨⟨_, Heap.get?_push_size _ rfl, rfl, rfl⟩, hl.push _⟩, fun i v s' Q' E' hP hQ => ?_, fun h' tk hk => ?_⟩
  ·obtain ⟨b, e, rfl⟩ := hb.get i v (by simpa using hP)
   simp only [e, Option.getD_some] at hQ
   exact wpAny_truthy_bool hQ
  ·have e : ((List.range its.toArray.size).all fun i => (bs[i]?).getD true) = bs.all id := by
    rw [List.size_toArray, hb.length]; exact LSm.range_all bs
   rw [e]
   exact ⟨.bl (bs.all id), H, I.kept (LSm.kept_iter hk), rfl, q⟩
theorem Gk (hc : X.calm = true) : CallR X (.builtin "any") (fun xs H Q => ∃ (a : Addr) (bs : List Bool), xs = [.ref a] /\ SqL X.K H a (bs.map V.bl) /\ Q (.bl (bs.any id)) H) := by
 intro pins s σ H xs us Q I r h
 obtain ⟨a, bs, rfl, hq, q⟩ := h
 cases r with
 | cons r1 rr =>
  cases rr
  cases r1
  obtain ⟨its, rv, p, hz⟩ := I.list hq
  have hl := p.isList
  have hb := rv.bools
  have hlt : a < s.heap.objs.size := by obtain ⟨_, e, _⟩ := hl; exact Heap.lt_size e
  refine call_any_walk (wpAny_pyIter_list hl ?_)
  refine ⟨s.heap.objs.size, [s.heap.objs.size, a], [s.heap.objs.size], its.toArray.size, _, _, fun i => (bs[i]?).getD false, rfl, Walks.list (A := X.A.in1) (I.ok.hd hc) _ a (Nat.ne_of_lt hlt) its.toArray,
   ⟨⟨_, Heap.get?_push_size _ rfl, rfl, rfl⟩, hl.push _⟩, fun i v s' Q' E' hP hQ => ?_, fun h' tk hk => ?_⟩
  ·obtain ⟨b, e, rfl⟩ := hb.get i v (by simpa using hP)
   simp only [e, Option.getD_some] at hQ
   exact wpAny_truthy_bool hQ
  ·have e : ((List.range its.toArray.size).any fun i => (bs[i]?).getD false) = bs.any id := by
    rw [List.size_toArray, hb.length]; exact LSm.range_any bs
   rw [e]
   exact ⟨.bl (bs.any id), H, I.kept (LSm.kept_iter hk), rfl, q⟩
theorem Vals.ints : ∀ {ns : List Int} {us : List Value}, Vals (ns.map V.int) us -> IntsAre us ns
 | [], _, .nil => .nil
 | _ :: _, _, .cons r t => by
  obtain ⟨tk, rfl⟩ := r
  exact .cons _ _ (Vals.ints t)
theorem Gj (hc : X.calm = true) : CallR X (.builtin "sum") (fun xs H Q => ∃ (a : Addr) (ns : List Int), xs = [.ref a] /\ SqL X.K H a (ns.map V.int) /\ Q (.int ns.sum) H) := by
 intro pins s σ H xs us Q I r h
 obtain ⟨a, ns, rfl, hq, q⟩ := h
 cases r with
 | cons r1 rr =>
  cases rr
  cases r1
  obtain ⟨its, rv, p, hz⟩ := I.list hq
  have hi := rv.ints
  obtain ⟨xs, hx⟩ := hi.allInts.items
  have hl' : s.heap.IsList a (intItems xs) := hx ▸ p.isList
  refine sum_intListG (I.ok.hd hc) hl' fun h' tk t' hk => ?_
  have e1 : ns = xs.toList.map (·.1) := by
   rw [<- nums_intItems, <- hx]
   exact (show numsOf its.toArray.toList = ns from hi.numsOf).symm
  have e2 : preSum (numAt xs) xs.size = ns.sum := by
   rw [preSum_eq, List.take_of_length_le (by simp), e1]
  rw [e2]
  exact ⟨.int ns.sum, H, I.kept hk, ⟨_, rfl⟩, q⟩
def K8 : List Int -> Int
 | [] => 0
 | x :: r => r.foldl (fun a b => if a < b then b else a) x
def KZ : List Int -> Int
 | [] => 0
 | x :: r => r.foldl (fun a b => if b < a then b else a) x
end
inductive D where
 | non | bl (b : Bool) | int (i : Int) | str (x : Str) | tup (ds : List D) | lst (ds : List D)
mutual
def Rep (K : PySem.W.Frag) (H : Hp) : D -> V -> Prop
 | .non, v => v = .non
 | .bl b, v => v = .bl b
 | .int i, v => v = .int i
 | .str x, v => v = .str x
 | .tup ds, v => ∃ a vs, v = .ref a /\ SqT K H a vs /\ Reps K H ds vs
 | .lst ds, v => ∃ a vs, v = .ref a /\ SqL K H a vs /\ Reps K H ds vs
def Reps (K : PySem.W.Frag) (H : Hp) : List D -> List V -> Prop
 | [], vs => vs = []
 | d :: ds, vs => ∃ v r, vs = v :: r /\ Rep K H d v /\ Reps K H ds r
end
theorem SqT.mono {K : PySem.W.Frag} {H H' : Hp} {a : Addr} {vs : List V} (e : Same H H') (h : SqT K H a vs) : SqT K H' a vs := by
 rcases h with h | h
 ·rcases h with h | ⟨o, h⟩
  ·exact .inl (.inl (e _ _ h))
  ·exact .inl (.inr ⟨o, e _ _ h⟩)
 ·exact .inr h
mutual
theorem Rep.mono {K : PySem.W.Frag} {H H' : Hp} (e : Same H H') : ∀ {d : D} {v : V}, Rep K H d v -> Rep K H' d v
 | .non, _, h => h
 | .bl _, _, h => h
 | .int _, _, h => h
 | .str _, _, h => h
 | .tup ds, _, h => by
  unfold Rep at h ⊢
  obtain ⟨a, vs, h1, h2, h3⟩ := h
  exact ⟨a, vs, h1, h2.mono e, Reps.mono e h3⟩
 | .lst ds, _, h => by
  unfold Rep at h ⊢
  obtain ⟨a, vs, h1, h2, h3⟩ := h
  exact ⟨a, vs, h1, e.seq h2, Reps.mono e h3⟩
theorem Reps.mono {K : PySem.W.Frag} {H H' : Hp} (e : Same H H') : ∀ {ds : List D} {vs : List V}, Reps K H ds vs -> Reps K H' ds vs
 | [], _, h => h
 | d :: ds, _, h => by
  unfold Reps at h ⊢
  obtain ⟨v, r, h1, h2, h3⟩ := h
  exact ⟨v, r, h1, Rep.mono e h2, Reps.mono e h3⟩
end
mutual
def eqD : D -> D -> Bool
 | .non, .non => true
 | .bl a, .bl b => a == b
 | .int a, .int b => a == b
 | .str a, .str b => a == b
 | .tup a, .tup b => dR a b
 | .lst a, .lst b => dR a b
 | _, _ => false
def dR : List D -> List D -> Bool
 | [], [] => true
 | a :: r, b :: t => eqD a b && dR r t
 | _, _ => false
end
mutual
def di : D -> D -> Bool
 | .non, .non => true
 | .bl _, .bl _ => true
 | .int _, .int _ => true
 | .str _, .str _ => true
 | .tup a, .tup b => cT a b
 | .lst a, .lst b => cT a b
 | _, _ => false
def cT : List D -> List D -> Bool
 | a :: r, b :: t => di a b && cT r t
 | _, _ => true
end
mutual
def dN : D -> Nat
 | .tup ds => fX ds + 1
 | .lst ds => fX ds + 1
 | _ => 0
def fX : List D -> Nat
 | [] => 0
 | d :: r => max (dN d) (fX r)
end
theorem Reps.length {K : PySem.W.Frag} {H : Hp} : ∀ {ds : List D} {vs : List V}, Reps K H ds vs -> vs.length = ds.length
 | [], _, h => by unfold Reps at h; subst h; rfl
 | d :: ds, _, h => by
  unfold Reps at h
  obtain ⟨v, r, rfl, _, h3⟩ := h
  simp [Reps.length h3]
theorem Reps.get {K : PySem.W.Frag} {H : Hp} : ∀ {ds : List D} {vs : List V} {i : Nat} {v : V}, Reps K H ds vs -> vs[i]? = some v -> ∃ d, ds[i]? = some d /\ Rep K H d v
 | [], _, i, v, h, e => by unfold Reps at h; subst h; simp at e
 | d :: ds, _, 0, v, h, e => by
  unfold Reps at h
  obtain ⟨w, r, rfl, h2, _⟩ := h
  simp at e
  subst e
  exact ⟨d, rfl, h2⟩
 | d :: ds, _, i + 1, v, h, e => by
  unfold Reps at h
  obtain ⟨w, r, rfl, _, h3⟩ := h
  simpa using Reps.get (i := i) h3 (by simpa using e)
theorem Reps.at {K : PySem.W.Frag} {H : Hp} {ds : List D} {vs : List V} {i : Nat} {d : D} (h : Reps K H ds vs) (e : ds[i]? = some d) : ∃ v, vs[i]? = some v /\ Rep K H d v := by
 have hl := h.length
 have hi : i < vs.length := by rw [hl]; exact (List.getElem?_eq_some_iff.mp e).1
 obtain ⟨d', e', r⟩ := h.get (List.getElem?_eq_getElem hi)
 rw [e] at e'
 cases e'
 exact ⟨_, List.getElem?_eq_getElem hi, r⟩
theorem mU : ∀ {a b : List D} {i : Nat} {x y : D}, cT a b = true -> a[i]? = some x -> b[i]? = some y -> di x y = true
 | [], _, i, x, y, _, e, _ => by simp at e
 | _ :: _, [], i, x, y, _, _, e => by simp at e
 | a :: r, b :: t, 0, x, y, h, e1, e2 => by
  unfold cT at h
  simp at e1 e2
  subst e1 e2
  exact (Bool.and_eq_true _ _ ▸ h).1
 | a :: r, b :: t, i + 1, x, y, h, e1, e2 => by
  unfold cT at h
  exact mU (i := i) (Bool.and_eq_true _ _ ▸ h).2 (by simpa using e1) (by simpa using e2)
theorem oK : ∀ {a : List D} {i : Nat} {x : D}, a[i]? = some x -> dN x <= fX a
 | [], i, x, e => by simp at e
 | d :: r, 0, x, e => by
  simp at e
  subst e
  unfold fX
  exact Nat.le_max_left _ _
 | d :: r, i + 1, x, e => by
  unfold fX
  exact Nat.le_trans (oK (i := i) (by simpa using e)) (Nat.le_max_right _ _)
def fV (a b : List D) (i : Nat) : Bool := match a[i]?, b[i]? with
 | some x, some y => eqD x y
 | _, _ => true
theorem nU : ∀ {a b : List D}, a.length = b.length -> (List.range a.length).all (fV a b) = dR a b
 | [], [], _ => rfl
 | [], _ :: _, h => by simp at h
 | _ :: _, [], h => by simp at h
 | x :: r, y :: t, h => by
  have ih := nU (a := r) (b := t) (by simpa using h)
  rw [List.length_cons, List.range_succ_eq_map, List.all_cons, List.all_map]
  unfold dR
  rw [<- ih]
  rfl
theorem rC : ∀ {a b : List D}, a.length ≠ b.length -> dR a b = false
 | [], [], h => absurd rfl h
 | [], _ :: _, _ => rfl
 | _ :: _, [], _ => rfl
 | x :: r, y :: t, h => by
  unfold dR
  rw [rC (a := r) (b := t) (by simpa using h), Bool.and_false]
section
variable {X : Cx} {pins : List (Addr × Obj)} {σ : St} {H : Hp} {s : Shared}
theorem pO (ds : List D) : dN (.tup ds) = fX ds + 1 := by unfold dN; rfl
theorem lV (ds : List D) : dN (.lst ds) = fX ds + 1 := by unfold dN; rfl
theorem qN (I : Inv X pins σ H s) (n : Nat) : ∀ {d e : D} {x : V}, dN d <= n -> di d e = true -> Rep X.K H d x -> Rep X.K H e x -> eqD d e = true := by
 have flat : ∀ {d e : D} {x : V}, dN d = 0 -> di d e = true -> Rep X.K H d x -> Rep X.K H e x -> eqD d e = true := by
  intro d e x hd hl r1 r2
  cases d with
  | tup ds => rw [pO] at hd; omega
  | lst ds => rw [lV] at hd; omega
  | non =>
   cases e <;> first | (exact absurd hl Bool.false_ne_true) | skip
   rfl
  | bl a =>
   cases e <;> first | (exact absurd hl Bool.false_ne_true) | skip
   unfold Rep at r1 r2
   rw [r1] at r2
   cases r2
   simp [eqD]
  | int a =>
   cases e <;> first | (exact absurd hl Bool.false_ne_true) | skip
   unfold Rep at r1 r2
   rw [r1] at r2
   cases r2
   simp [eqD]
  | str a =>
   cases e <;> first | (exact absurd hl Bool.false_ne_true) | skip
   unfold Rep at r1 r2
   rw [r1] at r2
   cases r2
   simp [eqD]
 have many : ∀ (m : Nat), (∀ {d e : D} {x : V}, dN d <= m -> di d e = true -> Rep X.K H d x -> Rep X.K H e x -> eqD d e = true) -> ∀ {ds es : List D} {vs : List V}, fX ds <= m -> cT ds es = true -> Reps X.K H ds vs -> Reps X.K H es vs -> dR ds es = true := by
  intro m ih ds
  induction ds with
  | nil =>
   intro es vs _ _ r1 r2
   cases es with
   | nil => rfl
   | cons e es =>
    unfold Reps at r1 r2
    obtain ⟨_, _, q, _⟩ := r2
    rw [r1] at q
    cases q
  | cons d ds ihl =>
   intro es vs hd hl r1 r2
   cases es with
   | nil =>
    unfold Reps at r1 r2
    obtain ⟨_, _, q, _⟩ := r1
    rw [r2] at q
    cases q
   | cons e es =>
    unfold Reps at r1 r2
    obtain ⟨v, r, q, a1, a2⟩ := r1
    obtain ⟨v', r', q', b1, b2⟩ := r2
    rw [q] at q'
    cases q'
    have hl' : (di d e && cT ds es) = true := by unfold cT at hl; exact hl
    rw [Bool.and_eq_true] at hl'
    have hd' : max (dN d) (fX ds) <= m := by unfold fX at hd; exact hd
    show (eqD d e && dR ds es) = true
    rw [ih (Nat.le_trans (Nat.le_max_left _ _) hd') hl'.1 a1 b1, ihl (Nat.le_trans (Nat.le_max_right _ _) hd') hl'.2 a2 b2]
    rfl
 induction n with
 | zero => intro d e x hd; exact flat (Nat.le_zero.mp hd)
 | succ n ih =>
  intro d e x hd hl r1 r2
  cases d with
  | non => exact flat rfl hl r1 r2
  | bl a => exact flat rfl hl r1 r2
  | int a => exact flat rfl hl r1 r2
  | str a => exact flat rfl hl r1 r2
  | tup ds =>
   cases e <;> first | (exact absurd hl Bool.false_ne_true) | skip
   rename_i es
   unfold Rep at r1 r2
   obtain ⟨a, vs, e1, q1, p1⟩ := r1
   obtain ⟨b, ws, e2, q2, p2⟩ := r2
   rw [e1] at e2
   cases e2
   have := I.tuple_inj q1 q2
   subst this
   rw [pO] at hd
   have hl' : cT ds es = true := by unfold di at hl; exact hl
   exact many n ih (by omega) hl' p1 p2
  | lst ds =>
   cases e <;> first | (exact absurd hl Bool.false_ne_true) | skip
   rename_i es
   unfold Rep at r1 r2
   obtain ⟨a, vs, e1, q1, p1⟩ := r1
   obtain ⟨b, ws, e2, q2, p2⟩ := r2
   rw [e1] at e2
   cases e2
   have := I.list_inj q1 q2
   subst this
   rw [lV] at hd
   have hl' : cT ds es = true := by unfold di at hl; exact hl
   exact many n ih (by omega) hl' p1 p2
theorem x_ (I : Inv X pins σ H s) (n : Nat) : ∀ {d e : D} {x y : V} {u v : Value} {A : Around}, dN d <= n -> di d e = true -> A.units + n < cLine -> Rep X.K H d x -> Rep X.K H e y -> RelV x u -> RelV y v ->
  SeqAt.EqAt A s u v (eqD d e) /\ SeqAt.RcAt A s u v (eqD d e) /\ SeqAt.RcNeAt A s u v (!eqD d e) := by
 induction n with
 | zero =>
  intro d e x y u v A hd hl hu r1 r2 v1 v2
  cases d with
  | tup ds => rw [pO] at hd; omega
  | lst ds => rw [lV] at hd; omega
  | non =>
   cases e <;> first | (exact absurd hl Bool.false_ne_true) | skip
   unfold Rep at r1 r2
   subst r1 r2
   cases v1; cases v2
   exact ⟨.same _, .none_none, .none_none⟩
  | bl a =>
   cases e <;> first | (exact absurd hl Bool.false_ne_true) | skip
   unfold Rep at r1 r2
   subst r1 r2
   cases v1; cases v2
   exact ⟨.bool_bool _ _, .bool_bool _ _, .bool_bool _ _⟩
  | int a =>
   cases e <;> first | (exact absurd hl Bool.false_ne_true) | skip
   unfold Rep at r1 r2
   subst r1 r2
   obtain ⟨t, rfl⟩ := v1
   obtain ⟨t', rfl⟩ := v2
   exact ⟨.int_int _ _ _ _, .int_int _ _ _ _, .int_int _ _ _ _⟩
  | str a =>
   cases e <;> first | (exact absurd hl Bool.false_ne_true) | skip
   unfold Rep at r1 r2
   subst r1 r2
   obtain ⟨t, rfl⟩ := v1
   obtain ⟨t', rfl⟩ := v2
   exact ⟨.str_str _ _ _ _, .str_str _ _ _ _, .str_str _ _ _ _⟩
 | succ n ih =>
  intro d e x y u v A hd hl hu r1 r2 v1 v2
  have hu0 : A.units < cLine := by omega
  have hu1 : A.in1.units + n < cLine := by show A.units + 1 + n < cLine; omega
  cases d with
  | non =>
   cases e <;> first | (exact absurd hl Bool.false_ne_true) | skip
   unfold Rep at r1 r2
   subst r1 r2
   cases v1; cases v2
   exact ⟨.same _, .none_none, .none_none⟩
  | bl a =>
   cases e <;> first | (exact absurd hl Bool.false_ne_true) | skip
   unfold Rep at r1 r2
   subst r1 r2
   cases v1; cases v2
   exact ⟨.bool_bool _ _, .bool_bool _ _, .bool_bool _ _⟩
  | int a =>
   cases e <;> first | (exact absurd hl Bool.false_ne_true) | skip
   unfold Rep at r1 r2
   subst r1 r2
   obtain ⟨t, rfl⟩ := v1
   obtain ⟨t', rfl⟩ := v2
   exact ⟨.int_int _ _ _ _, .int_int _ _ _ _, .int_int _ _ _ _⟩
  | str a =>
   cases e <;> first | (exact absurd hl Bool.false_ne_true) | skip
   unfold Rep at r1 r2
   subst r1 r2
   obtain ⟨t, rfl⟩ := v1
   obtain ⟨t', rfl⟩ := v2
   exact ⟨.str_str _ _ _ _, .str_str _ _ _ _, .str_str _ _ _ _⟩
  | tup ds =>
   cases e <;> first | (exact absurd hl Bool.false_ne_true) | skip
   rename_i es
   unfold Rep at r1 r2
   obtain ⟨a, vs, rfl, q1, p1⟩ := r1
   obtain ⟨b, ws, rfl, q2, p2⟩ := r2
   cases v1; cases v2
   obtain ⟨its1, rv1, t1, _⟩ := I.tuple q1
   obtain ⟨its2, rv2, t2, _⟩ := I.tuple q2
   have l1 : its1.length = ds.length := by rw [<- rv1.length, p1.length]
   have l2 : its2.length = es.length := by rw [<- rv2.length, p2.length]
   have hld : cT ds es = true := by unfold di at hl; exact hl
   have he : ∀ j (h1 : j < its1.toArray.size) (h2 : j < its2.toArray.size), SeqAt.EqAt A.in1 s its1.toArray[j] its2.toArray[j] (fV ds es j) := fun j h1 h2 => by
    have h1' : j < its1.length := by simpa using h1
    have h2' : j < its2.length := by simpa using h2
    have j1 : j < vs.length := by rw [rv1.length]; exact h1'
    have j2 : j < ws.length := by rw [rv2.length]; exact h2'
    obtain ⟨d1, e1, r1⟩ := p1.get (List.getElem?_eq_getElem j1)
    obtain ⟨d2, e2, r2⟩ := p2.get (List.getElem?_eq_getElem j2)
    obtain ⟨u1, f1, s1⟩ := rv1.get (List.getElem?_eq_getElem j1)
    obtain ⟨u2, f2, s2⟩ := rv2.get (List.getElem?_eq_getElem j2)
    have g1 : its1.toArray[j] = u1 := by rw [List.getElem?_eq_getElem h1'] at f1; simpa using f1
    have g2 : its2.toArray[j] = u2 := by rw [List.getElem?_eq_getElem h2'] at f2; simpa using f2
    rw [g1, g2]
    have hq : fV ds es j = eqD d1 d2 := by unfold fV; rw [e1, e2]
    rw [hq]
    have hdd : dN d1 <= n := by
     rw [pO] at hd
     have := oK e1
     omega
    exact (ih hdd (mU hld e1 e2) hu1 r1 r2 s1 s2).1
   have hb : ((List.range (min its1.toArray.size its2.toArray.size)).all (fV ds es) && its1.toArray.size == its2.toArray.size) = eqD (.tup ds) (.tup es) := by
    show _ = dR ds es
    rw [List.size_toArray, List.size_toArray, l1, l2]
    by_cases hq : ds.length = es.length
    ·rw [hq, Nat.min_self, <- hq, nU hq]
     simp
    ·rw [rC hq]
     simp [hq]
   have R := SeqAt.RcAt.tuples (A := A) (e := fV ds es) (show s.heap.IsTuple a its1.toArray from t1) (show s.heap.IsTuple b its2.toArray from t2) hu0 he
   have R' := SeqAt.RcNeAt.tuples (A := A) (e := fV ds es) (show s.heap.IsTuple a its1.toArray from t1) (show s.heap.IsTuple b its2.toArray from t2) hu0 he
   rw [hb] at R R'
   refine ⟨?_, R, R'⟩
   by_cases hab : a = b
   ·subst hab
    have hs : eqD (.tup ds) (.tup es) = true := qN I (n + 1) hd hl (show Rep X.K H (.tup ds) (.ref a) by unfold Rep; exact ⟨a, vs, rfl, q1, p1⟩) (show Rep X.K H (.tup es) (.ref a) by unfold Rep; exact ⟨a, ws, rfl, q2, p2⟩)
    rw [hs]
    exact .same _
   ·exact .of_refs hab R
  | lst ds =>
   cases e <;> first | (exact absurd hl Bool.false_ne_true) | skip
   rename_i es
   unfold Rep at r1 r2
   obtain ⟨a, vs, rfl, q1, p1⟩ := r1
   obtain ⟨b, ws, rfl, q2, p2⟩ := r2
   cases v1; cases v2
   obtain ⟨its1, rv1, t1, _⟩ := I.list q1
   obtain ⟨its2, rv2, t2, _⟩ := I.list q2
   have l1 : its1.length = ds.length := by rw [<- rv1.length, p1.length]
   have l2 : its2.length = es.length := by rw [<- rv2.length, p2.length]
   have hld : cT ds es = true := by unfold di at hl; exact hl
   have he : ∀ j (h1 : j < its1.toArray.size) (h2 : j < its2.toArray.size), SeqAt.EqAt A.in1 s its1.toArray[j] its2.toArray[j] (fV ds es j) := fun j h1 h2 => by
    have h1' : j < its1.length := by simpa using h1
    have h2' : j < its2.length := by simpa using h2
    have j1 : j < vs.length := by rw [rv1.length]; exact h1'
    have j2 : j < ws.length := by rw [rv2.length]; exact h2'
    obtain ⟨d1, e1, r1⟩ := p1.get (List.getElem?_eq_getElem j1)
    obtain ⟨d2, e2, r2⟩ := p2.get (List.getElem?_eq_getElem j2)
    obtain ⟨u1, f1, s1⟩ := rv1.get (List.getElem?_eq_getElem j1)
    obtain ⟨u2, f2, s2⟩ := rv2.get (List.getElem?_eq_getElem j2)
    have g1 : its1.toArray[j] = u1 := by rw [List.getElem?_eq_getElem h1'] at f1; simpa using f1
    have g2 : its2.toArray[j] = u2 := by rw [List.getElem?_eq_getElem h2'] at f2; simpa using f2
    rw [g1, g2]
    have hq : fV ds es j = eqD d1 d2 := by unfold fV; rw [e1, e2]
    rw [hq]
    have hdd : dN d1 <= n := by
     rw [lV] at hd
     have := oK e1
     omega
    exact (ih hdd (mU hld e1 e2) hu1 r1 r2 s1 s2).1
   have R2 : SeqAt.RcAt A s (.ref a) (.ref b) (eqD (.lst ds) (.lst es)) /\ SeqAt.RcNeAt A s (.ref a) (.ref b) (!eqD (.lst ds) (.lst es)) := by
    by_cases hq : ds.length = es.length
    ·have hsz : its1.toArray.size = its2.toArray.size := by rw [List.size_toArray, List.size_toArray, l1, l2, hq]
     have hb : (List.range its1.toArray.size).all (fV ds es) = eqD (.lst ds) (.lst es) := by
      show _ = dR ds es
      rw [List.size_toArray, l1, nU hq]
     have R := SeqAt.RcAt.lists (A := A) (e := fV ds es) t1.isList t2.isList hsz hu0 he
     have R' := SeqAt.RcNeAt.lists (A := A) (e := fV ds es) t1.isList t2.isList hsz hu0 he
     rw [hb] at R R'
     exact ⟨R, R'⟩
    ·have hsz : (its1.toArray.size != its2.toArray.size) = true := by
      rw [List.size_toArray, List.size_toArray, l1, l2]
      simpa using hq
     have hb : eqD (.lst ds) (.lst es) = false := rC hq
     rw [hb]
     exact ⟨SeqAt.RcAt.lists_lengths t1.isList t2.isList hsz hu0, SeqAt.RcNeAt.lists_lengths t1.isList t2.isList hsz hu0⟩
   obtain ⟨R, R'⟩ := R2
   refine ⟨?_, R, R'⟩
   by_cases hab : a = b
   ·subst hab
    have hs : eqD (.lst ds) (.lst es) = true := qN I (n + 1) hd hl (show Rep X.K H (.lst ds) (.ref a) by unfold Rep; exact ⟨a, vs, rfl, q1, p1⟩) (show Rep X.K H (.lst es) (.ref a) by unfold Rep; exact ⟨a, ws, rfl, q2, p2⟩)
    rw [hs]
    exact .same _
   ·exact .of_refs hab R
def Jo (K : PySem.W.Frag) : R2 := fun x y H Q => ∃ d e, Rep K H d x /\ Rep K H e y /\ di d e = true /\ dN d <= 40 /\ Q (.bl (eqD d e)) H
def Iz (K : PySem.W.Frag) : R2 := fun x y H Q => ∃ d e, Rep K H d x /\ Rep K H e y /\ di d e = true /\ dN d <= 40 /\ Q (.bl (!eqD d e)) H
theorem JP (hu : X.A.units + 64 < cLine) : OpR X (compareOp .Eq) (Jo X.K) := by
 intro pins s σ H x y v u Q I rx ry h
 obtain ⟨d, e, r1, r2, hl, hd, q⟩ := h
 exact (x_ I 40 hd hl (by omega) r1 r2 rx ry).2.1 X.prog X.w X.xe _ ⟨.bl (eqD d e), H, I, rfl, q⟩
theorem Jg (hu : X.A.units + 64 < cLine) : OpR X (compareOp .NotEq) (Iz X.K) := by
 intro pins s σ H x y v u Q I rx ry h
 obtain ⟨d, e, r1, r2, hl, hd, q⟩ := h
 exact (x_ I 40 hd hl (by omega) r1 r2 rx ry).2.2 X.prog X.w X.xe _ ⟨.bl (!eqD d e), H, I, rfl, q⟩
end
mutual
theorem eH : ∀ d : D, eqD d d = true
 | .non => rfl
 | .bl b => by simp [eqD]
 | .int i => by simp [eqD]
 | .str x => by simp [eqD]
 | .tup ds => by
  show dR ds ds = true
  exact o_ ds
 | .lst ds => by
  show dR ds ds = true
  exact o_ ds
theorem o_ : ∀ ds : List D, dR ds ds = true
 | [] => rfl
 | d :: r => by
  show (eqD d d && dR r r) = true
  rw [eH d, o_ r]
  rfl
end
mutual
theorem ym : ∀ {d e : D}, eqD d e = true -> d = e
 | .non, e, h => by cases e <;> simp [eqD] at h; rfl
 | .bl b, e, h => by cases e <;> simp [eqD] at h; rw [h]
 | .int i, e, h => by cases e <;> simp [eqD] at h; rw [h]
 | .str x, e, h => by cases e <;> simp [eqD] at h; rw [h]
 | .tup ds, e, h => by
  cases e with
  | tup es =>
   have h' : dR ds es = true := h
   rw [uE h']
  | _ => simp [eqD] at h
 | .lst ds, e, h => by
  cases e with
  | lst es =>
   have h' : dR ds es = true := h
   rw [uE h']
  | _ => simp [eqD] at h
theorem uE : ∀ {ds es : List D}, dR ds es = true -> ds = es
 | [], es, h => by cases es with
  | nil => rfl
  | cons _ _ => simp [dR] at h
 | d :: r, es, h => by cases es with
  | nil => simp [dR] at h
  | cons e t =>
   have h' : (eqD d e && dR r t) = true := h
   rw [Bool.and_eq_true] at h'
   rw [ym h'.1, uE h'.2]
end
end L2
set_option Elab.async false
set_option linter.all false
set_option maxRecDepth 100000
namespace L2
open PySem PySem.Spec PyProof.Rows
theorem bx : bootBuiltins "len" = some (.builtin "len") := by decide +kernel
theorem xj : bootBuiltins "abs" = some (.builtin "abs") := by decide +kernel
theorem bR : bootBuiltins "isinstance" = some (.builtin "isinstance") := by decide +kernel
theorem JM : bootBuiltins "sum" = some (.builtin "sum") := by decide +kernel
theorem jt : bootBuiltins "all" = some (.builtin "all") := by decide +kernel
theorem jh : bootBuiltins "any" = some (.builtin "any") := by decide +kernel
theorem ye : bootBuiltins "int" = some (.type "int") := by decide +kernel
theorem vz : bootBuiltins "bool" = some (.type "bool") := by decide +kernel
theorem cD : bootBuiltins "list" = some (.type "list") := by decide +kernel
theorem rE : bootBuiltins "tuple" = some (.type "tuple") := by decide +kernel
theorem ifP {c A B : Prop} [Decidable c] (hc : c) (h : A) : if c then A else B := by
 rw [if_pos hc]
 exact h
theorem ifN {c A B : Prop} [Decidable c] (hc : ¬ c) (h : B) : if c then A else B := by
 rw [if_neg hc]
 exact h
theorem aj {env : Env} {es : List Expr} {a b} : starEach (.Name a b :: es) env = (false, eval (.Name a b) env) :: starEach es env := rfl
theorem aG {env : Env} {es : List Expr} {a b c} : starEach (.Constant a b c :: es) env = (false, eval (.Constant a b c) env) :: starEach es env := rfl
theorem aF {env : Env} {es : List Expr} {a b c} : starEach (.Subscript a b c :: es) env = (false, eval (.Subscript a b c) env) :: starEach es env := rfl
theorem bz {env : Env} {es : List Expr} {a b c d} : starEach (.BinOp a b c d :: es) env = (false, eval (.BinOp a b c d) env) :: starEach es env := rfl
theorem aN {env : Env} {es : List Expr} {a b c d} : starEach (.Call a b c d :: es) env = (false, eval (.Call a b c d) env) :: starEach es env := rfl
theorem aU {env : Env} {es : List Expr} {a b c d} : starEach (.ListComp a b c d :: es) env = (false, eval (.ListComp a b c d) env) :: starEach es env := rfl
theorem cj {env : Env} {es : List Expr} {a b c} : starEach (.Tuple a b c :: es) env = (false, eval (.Tuple a b c) env) :: starEach es env := rfl
theorem HF {env : Env} {es : List Expr} {a b} : starEach (.List a b :: es) env = (false, eval (.List a b) env) :: starEach es env := rfl
theorem tR {env : Env} {es : List Expr} {a b c d} : starEach (.Compare a b c d :: es) env = (false, eval (.Compare a b c d) env) :: starEach es env := rfl
theorem aR {env : Env} {es : List Expr} {a b c} : starEach (.Attribute a b c :: es) env = (false, eval (.Attribute a b c) env) :: starEach es env := rfl
theorem zj {i : Nat} {v : V} {σ : St} {H : Hp} {A B : St -> Hp -> Prop} (h : A (σ.set i (some v)) H) : fW i v σ H fun σ2 H2 => lE σ2 H2 fun b H3 => if b = true then A σ2 H3 else B σ2 H3 := by
 show (if true = true then A (σ.set i (some v)) H else B (σ.set i (some v)) H)
 exact cX h
structure FunM (K : PySem.W.Frag) (mg : Str -> Option Value) (x : Str) (st : Stmt) (ps : List Str) : Prop where
 ex : ∃ f fd, Fun K x x st f fd /\ mg x = some (.ref f) /\ Binds K fd ps []
structure Def (P : Program) (w : World) (K : PySem.W.Frag) (mg : Str -> Option Value) (base : Heap) (x : Str) (ps : List Str) (k : Nat) (sp : Sp) : Prop where
 ex : ∃ f fd, FnOk P w K mg base CX0 k f fd ps sp /\ mg x = some (.ref f) /\ PySem.W.keepIn K (.ref f) = true /\ Binds K fd ps []
section
variable {P : Program} {w : World} {K : PySem.W.Frag} {mg : Str -> Option Value} {base : Heap}
theorem Def.of {x : Str} {st : Stmt} {N ps : List Str} {k : Nat} {sp : Sp} (F : FunM K mg x st ps) (S : FnScope N ps (aH st)) (len : ∀ vs H Q E, sp vs H Q E -> vs.length = ps.length)
  (hbody : ∀ (f : Addr) (cdv : Value) (A : Around) (outer : List Env) (s : Shared) (H : Hp) (vs : List V) (Q : VK) (E : XK), Room k (A.deeper (envOfC x (aH st) s.heap.objs.size f cdv)) -> sp vs H Q E ->
   ∃ t, PSs (pH CX0 P w K mg base N x (aH st) f cdv A outer s H E).nox (dC st) t /\ t { nx := fun _ H' => Q .non H', rt := Q } (start N vs) H) : Def P w K mg base x ps (k + 1) sp := by
 obtain ⟨f, fd, F1, hm, hb⟩ := F.ex
 exact ⟨f, fd, F1.ok S len (hbody f), hm, F1.kp, hb⟩
end
theorem aD {X : Cx} {x : Str} {ps : List Str} {k : Nat} {sp : Sp} {p pos : Pos} {e : Expr} {es : List Expr} {t : TA} (D : Def X.prog X.w X.K X.mg X.base x ps k sp) (hr : Room k X.A) (hg : Gl X x) (ha : PA X (e :: es) t)
  (hdb : (x == ("__debug__" : Str)) = false := by decide)
  (he : starEach (e :: es) X.env = (false, eval e X.env) :: starEach es X.env := by rfl) (hpl : (backTo pos (starEach es X.env)).any (·.1) = false := by rfl) : PE X (.Call (.Name x p) (e :: es) [] pos) (G6 sp [] E0 t) := by
 obtain ⟨f, fd, F, hm, hk, hb⟩ := D.ex
 exact Hf F hr hg hm hk hb .nil BL ha hdb he hpl
theorem fun_m {K : PySem.W.Frag} {h : Heap} {mg : Str -> Option Value} (X : K.In h) (G : h.Ns mainGlobals mg) {x : Str} {st : Stmt} {ps : List Str} {f : Addr} {oc : Value} {od an : Option Addr} {osl : Array (Option Value)} {kV doc pm cdv ct : Value}
  (a : PySem.W.nsIn K mainGlobals x = some (some (.ref f)))
  (l : K.lookup f = some ⟨oc, od, .func (PySem.W.fnOf x x (fu st) (dC st) (aH st) .none kV doc pm an cdv ct), osl⟩) (c : PySem.W.codeIn K cdv x = true) (k : PySem.W.keepIn K (.ref f) = true)
  (b : ∀ (kV doc pm : Value) (an : Option Addr) (cdv ct : Value) (us : List Value), us.length = ps.length -> bindArgs (PySem.W.fnOf x x (fu st) (dC st) (aH st) .none kV doc pm an cdv ct) ⟨us, []⟩ = pure (ps.zip us)) : FunM K mg x st ps := by
 have F := zF (st := st) l c k
 exact ⟨f, _, F, PySem.W.mg_of X G a, F.binds b⟩
end L2
set_option Elab.async false
set_option linter.all false
set_option maxRecDepth 100000
namespace L2
open PySem PySem.Spec PyProof.Rows
section
variable {X : Cx} {pins : List (Addr × Obj)} {σ : St} {H : Hp} {s : Shared}
theorem Inv.turnedL {t' : Nat} {ch : List Addr} {h' : Heap} (I : Inv X pins σ H s) (k : ∀ b o, b ∉ ch -> s.heap.get? b = some o -> h'.get? b = some o) (f : ∀ b ∈ ch, gC X pins H b) : Inv X pins σ H { s with heap := h', toks := t' } := by
 have nit : ∀ b u, H b = some u -> b ∉ ch := fun b u e z => by rw [(f b z).1] at e; cases e
 refine I.step (g' := s.gens) (d' := s.drawn) (ch := ch) (fun b hb => ⟨(f b hb).2.2.2.1, (f b hb).2.1, (f b hb).2.2.2.2.1, (f b hb).2.2.2.2.2⟩) (fun b o _ _ hc e _ => k b o hc e) (fun b o _ _ hc e _ => ⟨o.slots, k b o hc e⟩) (fun _ _ _ _ n => n)
  (fun b o hc e => ⟨o, k b o hc e⟩) (fun _ _ e => e) (fun _ _ _ e => e) (fun b ps e => ⟨#[], by rw [e]; simp⟩) (fun m hm => ?_) (fun b u e => ?_) I.bare
 ·obtain ⟨o, es, ep, ho, r⟩ := hm
  exact ⟨o, es, ep, k _ o (fun z => (f _ z).2.1 rfl) ho, r⟩
 ·refine (I.hok b u e).stay (fun c v hc q => k c v ?_ q) (fun _ q => q) fun _ _ q => q
  rcases hc with z | z
  ·rw [z]; exact nit b u e
  ·exact nit c _ z
end
def Itz (K : PySem.W.Frag) (a b : Addr) : It :=
  ⟨fun i H => ∃ xs ys x y, SqL K H a xs /\ SqL K H b ys /\ xs[i]? = some x /\ ys[i]? = some y,
   fun i H v H' => ∃ p x y, v = .ref p /\ H p = none /\ H' = upd H p (.tup [x, y]) /\ (∀ xs, SqL K H a xs -> xs[i]? = some x) /\ (∀ ys, SqL K H b ys -> ys[i]? = some y),
   fun i H => ∃ xs ys, SqL K H a xs /\ SqL K H b ys /\ (xs.length <= i \/ ys.length <= i)⟩
theorem eY {h : Heap} {l c : Addr} {its : Array Value} {o : Obj} {n : String} (hl : h.IsList l its) (hc : h.get? c = some o) (hn : o.cls = .type n) (hd : n ≠ "list") : l ≠ c := by
 rintro rfl
 obtain ⟨q, e, e2, _⟩ := hl
 rw [hc] at e
 cases e
 rw [hn] at e2
 injection e2 with e3
 exact hd e3
theorem Fj {P : Program} {w : World} {K : PySem.W.Frag} {es : List Expr} {k1 : _} {tp : Pos} (a b z TI TO i1 i2 : Addr) (hap : z ≠ TI /\ z ≠ TO /\ z ≠ i1 /\ z ≠ i2 /\ TI ≠ TO /\ TI ≠ i1 /\ TI ≠ i2 /\ TO ≠ i1 /\ TO ≠ i2 /\ i1 ≠ i2) :
  Turn P w K (.Tuple es k1 tp) (Itz K a b) [z, TI, TO, i1, i2] z (fun i h => IsZip h z TI TO .none /\ IsPair h TI (.ref i1) (.ref i2) /\ (∃ x y, IsPair h TO x y) /\ h.IsListIter i1 a i /\ h.IsListIter i2 b i) where
 mem := by simp
 obj := fun i h st c hc => by
  obtain ⟨hz, hTI, ⟨x, y, hTO⟩, h1, h2⟩ := st
  simp only [List.mem_cons, List.not_mem_nil, or_false] at hc
  rcases hc with e | e | e | e | e
  ·subst e; exact ⟨_, hz, fun v z => by simp at z⟩
  ·subst e; exact ⟨_, hTI, fun v z => by simp at z⟩
  ·subst e; exact ⟨_, hTO, fun v z => by simp at z⟩
  ·subst e; obtain ⟨o, e, _, d⟩ := h1; exact ⟨o, e, fun v z => by rw [d] at z; cases z⟩
  ·subst e; obtain ⟨o, e, _, d⟩ := h2; exact ⟨o, e, fun v z => by rw [d] at z; cases z⟩
 keep := fun i h h' st k => by
  obtain ⟨hz, hTI, ⟨x, y, hTO⟩, h1, h2⟩ := st
  exact ⟨k z (by simp) _ hz, k TI (by simp) _ hTI, ⟨x, y, k TO (by simp) _ hTO⟩, h1.at fun o e => k i1 (by simp) o e, h2.at fun o e => k i2 (by simp) o e⟩
 item := by
  intro X hP hw hK hc i pins s σ H E I hf st hg
  subst hP hw hK
  obtain ⟨xs, ys, x, y, q1, q2, hx, hy⟩ := hg
  obtain ⟨hz, hTI, ⟨u0, v0, hTO⟩, h1, h2⟩ := st
  obtain ⟨its1, rv1, p1, _⟩ := I.list q1
  obtain ⟨its2, rv2, p2, _⟩ := I.list q2
  obtain ⟨u, hu, ru⟩ := rv1.get hx
  obtain ⟨v, hv, rv⟩ := rv2.get hy
  obtain ⟨a1, a2, a3, a4, a5, a6, a7, a8, a9, a10⟩ := hap
  have l1 := p1.isList
  have l2 := p2.isList
  have ni : ∀ {l c c' : Addr} {its : Array Value} {j : Nat}, s.heap.IsList l its -> s.heap.IsListIter c c' j -> l ≠ c := fun hl hit => by
   obtain ⟨o, e, e2, _⟩ := hit
   exact eY hl e e2 (by decide)
  have D : ZipApart z TI TO i1 i2 a b := ⟨a1.symm, a2.symm, a3.symm, a4.symm, a5, a6, a7, a8, a9, a10, eY l1 hz rfl (by decide), eY l1 hTO rfl (by decide), ni l1 h1, ni l1 h2, eY l2 hz rfl (by decide), eY l2 hTO rfl (by decide), ni l2 h1, ni l2 h2⟩
  refine wpAny_pyNext_zip_item D hz hTI hTO h1 h2 l1 l2 (by simpa using hu) (by simpa using hv) fun h' b1 b2 b3 b4 b5 b6 b7 => ?_
  refine ⟨_, rfl, wpAny_letOwnedTupleGo_zip b1 fun h'' c1 c2 => ?_⟩
  have kk : ∀ c o, c ∉ [z, TI, TO, i1, i2] -> s.heap.get? c = some o -> h''.get? c = some o := fun c o hc e => by
   simp only [List.mem_cons, List.not_mem_nil, or_false, not_or] at hc
   exact c2.extBut c o hc.1 (b7 c o hc.1 hc.2.2.1 hc.2.2.2.1 hc.2.2.2.2 e)
  have I1 : Inv X pins σ H { s with heap := h'' } := I.turnedL (t' := s.toks) kk hf
  have hzlt : z < s.heap.objs.size := Heap.lt_size hz
  have ht : h''.get? s.heap.objs.size = some { cls := .type "tuple", data := .seq #[u, v] } := c2.extBut _ _ (Nat.ne_of_gt hzlt) b5
  have hn : H s.heap.objs.size = none := I.hok.fresh (Nat.le_refl _)
  have ftr : gC X pins H s.heap.objs.size := I.fpOk (Nat.le_refl _) hn
  have lt : ∀ {c o}, s.heap.get? c = some o -> c ≠ s.heap.objs.size := fun e => Nat.ne_of_lt (Heap.lt_size e)
  refine ⟨.ref s.heap.objs.size, upd H s.heap.objs.size (.tup [x, y]), I1.track ftr ⟨by show 2 <= sizeLine; decide, [u, v], .cons ru (.cons rv .nil), ⟨_, ht, rfl, _, rfl⟩⟩, rfl,
   ⟨_, x, y, rfl, hn, rfl, fun zs hq => by rw [I.list_inj hq q1]; exact hx, fun zs hq => by rw [I.list_inj hq q2]; exact hy⟩,
   ⟨c1, c2.extBut _ _ a1.symm (b7 _ _ a1.symm a5 a6 a7 hTI), ⟨u, v, c2.extBut _ _ a2.symm b2⟩, b3.extBut c2.extBut a3.symm, b4.extBut c2.extBut a4.symm⟩, fun c hc => ?_⟩
  rw [aJ]
  ·exact (hf c hc).1
  ·simp only [List.mem_cons, List.not_mem_nil, or_false] at hc
   obtain ⟨o1, e1, _⟩ := h1
   obtain ⟨o2, e2, _⟩ := h2
   rcases hc with e | e | e | e | e
   ·subst e; exact lt hz
   ·subst e; exact lt hTI
   ·subst e; exact lt hTO
   ·subst e; exact lt e1
   ·subst e; exact lt e2
 done := by
  intro X hP hw hK hc i pins s σ H E I hf st hg
  subst hP hw hK
  obtain ⟨xs, ys, q1, q2, hend⟩ := hg
  obtain ⟨hz, hTI, ⟨u0, v0, hTO⟩, h1, h2⟩ := st
  obtain ⟨its1, rv1, p1, _⟩ := I.list q1
  obtain ⟨its2, rv2, p2, _⟩ := I.list q2
  obtain ⟨a1, a2, a3, a4, a5, a6, a7, a8, a9, a10⟩ := hap
  have l1 := p1.isList
  have l2 := p2.isList
  have ni : ∀ {l c c' : Addr} {its : Array Value} {j : Nat}, s.heap.IsList l its -> s.heap.IsListIter c c' j -> l ≠ c := fun hl hit => by
   obtain ⟨o, e, e2, _⟩ := hit
   exact eY hl e e2 (by decide)
  have D : ZipApart z TI TO i1 i2 a b := ⟨a1.symm, a2.symm, a3.symm, a4.symm, a5, a6, a7, a8, a9, a10, eY l1 hz rfl (by decide), eY l1 hTO rfl (by decide), ni l1 h1, ni l1 h2, eY l2 hz rfl (by decide), eY l2 hTO rfl (by decide), ni l2 h1, ni l2 h2⟩
  have e1 := rv1.length
  have e2 := rv2.length
  refine wpAny_pyNext_zip_end (I.ok.hd hc) D hz hTI hTO h1 h2 l1 l2 (by
   rcases hend with h | h
   ·left; simp; omega
   ·right; simp; omega) fun h' kk => ⟨rfl, ?_⟩
  exact I.turnedL (t' := s.toks) (fun c o hc e => by
   simp only [List.mem_cons, List.not_mem_nil, or_false, not_or] at hc
   exact kk c o hc.1 hc.2.2.1 hc.2.2.2.1 hc.2.2.2.2 e) hf
 self := fun _ _ _ _ _ st h => wpAny_pyIter_zip st.1 h
def Jx (K : PySem.W.Frag) (ta : TA) : TI := fun σ H R => ta σ H fun vs H1 => ∃ a b, vs = [.ref a, .ref b] /\ (∃ xs, SqL K H1 a xs) /\ (∃ ys, SqL K H1 b ys) /\ R (Itz K a b) H1
theorem Ji {X : Cx} {es : List Expr} {k1 : _} {tp : Pos} {a b : Expr} {ta : TA} {p pos : Pos} (hg : Gl X "zip") (hm : X.mg "zip" = none) (ha : PA X [a, b] ta) (hs : starEach [a, b] X.env = [(false, eval a X.env), (false, eval b X.env)] := by rfl) (hs2 : starEach [b] X.env = [(false, eval b X.env)] := by rfl) :
  PI X (.Tuple es k1 tp) (.Call (.Name "zip" p) [a, b] [] pos) (Jx X.K ta) := by
 intro pins s σ H R I h
 refine Call_ (lY I hg hm boot_zip (PyProof.Rows.callWith_type1 (thn (ha pos pins s σ H _ I h) fun us s1 ⟨vs, H1, I1, r1, q1⟩ => ?_) (by rw [hs, hs2]) (by rw [hs2]; rfl)))
 obtain ⟨l1, l2, e, ⟨xs, hx⟩, ⟨ys, hy⟩, q⟩ := q1
 subst e
 cases r1 with
 | cons r rr =>
  cases rr with
  | cons r' rr =>
   cases rr
   cases r
   cases r'
   obtain ⟨its1, rv1, p1, _⟩ := I1.list hx
   obtain ⟨its2, rv2, p2, _⟩ := I1.list hy
   refine call_zip_2 p1.isList p2.isList fun h' c1 c2 c3 c4 c5 c6 c7 => ?_
   have I2 : Inv X pins σ H1 { s1 with heap := h' } := I1.kept (t' := s1.toks) c7
   refine wpAny_pyIter_zip (s := { s1 with heap := h' }) c1 ?_
   refine ⟨_, _, _, _, H1, rfl, I2, Fj l1 l2 _ (s1.heap.objs.size + 2) (s1.heap.objs.size + 3) s1.heap.objs.size (s1.heap.objs.size + 1) ?_, ⟨c1, c2, ⟨_, _, c3⟩, c4, c5⟩, fun c hc => ?_, q⟩
   ·refine ⟨?_, ?_, ?_, ?_, ?_, ?_, ?_, ?_, ?_, ?_⟩ <;> (intro z; have z' : (_ : Nat) = _ := z; omega)
   ·simp only [List.mem_cons, List.not_mem_nil, or_false] at hc
    have hle : s1.heap.objs.size <= c := by
     rcases hc with e | e | e | e | e <;> (subst e; first | exact Nat.le_refl _ | exact Nat.le_add_right _ _)
    exact I1.fpOk hle (I1.hok.fresh hle)
theorem uK {K : PySem.W.Frag} {a b : Addr} {xs ys : List V} {g : TG} {tb : TS} {D : Ends} {σ : St} {H : Hp} (Pv : Nat -> St -> Hp -> Prop) (h0 : Pv 0 σ H) (hl : ∀ i σ H, Pv i σ H -> SqL K H a xs /\ SqL K H b ys)
  (hs : ∀ i x y p σ H, xs[i]? = some x -> ys[i]? = some y -> H p = none -> Pv i σ H -> g (.ref p) σ (upd H p (.tup [x, y])) fun σ2 H2 => tb { D with nx := Pv (i + 1), ct := Pv (i + 1), bk := D.nx } σ2 H2) (hd : ∀ σ H, Pv (min xs.length ys.length) σ H -> D.nx σ H) :
  ∃ W : Nat -> Nat -> St -> Hp -> Prop, (∃ m, W 0 m σ H) /\ ∀ i m σ H, W i m σ H ->
   ((Itz K a b).stop i H /\ D.nx σ H) \/ ((Itz K a b).go i H /\ ∃ N : St -> Hp -> Prop, (∀ σ' H', N σ' H' -> ∃ m', m' < m /\ W (i + 1) m' σ' H') /\ ∀ x H', (Itz K a b).yld i H x H' -> g x σ H' fun σ2 H2 => tb { D with nx := N, ct := N, bk := D.nx } σ2 H2) := by
 refine ⟨fun i m σ H => m = min xs.length ys.length - i /\ i <= min xs.length ys.length /\ Pv i σ H, ⟨_, rfl, Nat.zero_le _, h0⟩, ?_⟩
 rintro i m σ H ⟨rfl, hi, p⟩
 obtain ⟨q1, q2⟩ := hl i σ H p
 by_cases hlt : i < min xs.length ys.length
 ·have h1 : i < xs.length := by omega
  have h2 : i < ys.length := by omega
  refine .inr ⟨⟨xs, ys, xs[i], ys[i], q1, q2, by simp [h1], by simp [h2]⟩, Pv (i + 1), fun σ' H' p' => ⟨min xs.length ys.length - (i + 1), by omega, rfl, hlt, p'⟩, fun x H' y => ?_⟩
  obtain ⟨r, u, v, rfl, hn, rfl, e1, e2⟩ := y
  exact hs i u v r σ H (e1 xs q1) (e2 ys q2) hn p
 ·have e : i = min xs.length ys.length := by omega
  subst e
  exact .inl ⟨⟨xs, ys, q1, q2, by omega⟩, hd σ H p⟩
theorem rN {K : PySem.W.Frag} {a b : Addr} {xs ys : List V} {g : TG} {tt : TT} {te : TE} {σc : St} {H : Hp} {Fin : List V -> Hp -> Prop} (Pv : Nat -> List V -> Hp -> Prop) (h0 : Pv 0 [] H) (hl : ∀ i zs H, Pv i zs H -> SqL K H a xs /\ SqL K H b ys /\ zs.length <= i) (hz : xs.length <= sizeLine)
  (hs : ∀ i x y p zs H, xs[i]? = some x -> ys[i]? = some y -> H p = none -> Pv i zs H -> g (.ref p) σc (upd H p (.tup [x, y])) fun σ2 H2 => tt σ2 H2 fun b H3 => if b = true then te σ2 H3 fun y H4 => Pv (i + 1) (zs ++ [y]) H4 else Pv (i + 1) zs H3)
  (hd : ∀ zs H, Pv (min xs.length ys.length) zs H -> Fin zs H) : eF (Itz K a b) g tt te σc H Fin := by
 refine ⟨fun i m zs H => m = min xs.length ys.length - i /\ i <= min xs.length ys.length /\ Pv i zs H, ⟨_, rfl, Nat.zero_le _, h0⟩, ?_⟩
 rintro i m zs H ⟨rfl, hi, p⟩
 obtain ⟨q1, q2, hy⟩ := hl i zs H p
 by_cases hlt : i < min xs.length ys.length
 ·have h1 : i < xs.length := by omega
  have h2 : i < ys.length := by omega
  refine .inr ⟨⟨xs, ys, xs[i], ys[i], q1, q2, by simp [h1], by simp [h2]⟩, by omega, Pv (i + 1), fun ys' H' p' => ⟨min xs.length ys.length - (i + 1), by omega, rfl, hlt, p'⟩, fun x H' y => ?_⟩
  obtain ⟨r, u, v, rfl, hn, rfl, e1, e2⟩ := y
  exact hs i u v r zs H (e1 xs q1) (e2 ys q2) hn p
 ·have e : i = min xs.length ys.length := by omega
  subst e
  exact .inl ⟨⟨xs, ys, q1, q2, by omega⟩, hd zs H p⟩
def Ite (K : PySem.W.Frag) (a : Addr) : It :=
  ⟨fun i H => ∃ xs x, SqL K H a xs /\ xs[i]? = some x,
   fun i H v H' => ∃ p x, v = .ref p /\ H p = none /\ H' = upd H p (.tup [.int i, x]) /\ (∀ xs, SqL K H a xs -> xs[i]? = some x),
   fun i H => ∃ xs, SqL K H a xs /\ xs.length <= i⟩
theorem Ff {P : Program} {w : World} {K : PySem.W.Frag} {es : List Expr} {k1 : _} {tp : Pos} (a e it : Addr) (hap : e ≠ it) :
  Turn P w K (.Tuple es k1 tp) (Ite K a) [e, it] e (fun i h => (∃ old, IsEnum h e it ((i : Nat) : Int) old) /\ h.IsListIter it a i) where
 mem := by simp
 obj := fun i h st c hc => by
  obtain ⟨⟨old, he⟩, h1⟩ := st
  simp only [List.mem_cons, List.not_mem_nil, or_false] at hc
  rcases hc with q | q
  ·subst q; exact ⟨_, he, fun v z => by simp at z⟩
  ·subst q; obtain ⟨o, e, _, d⟩ := h1; exact ⟨o, e, fun v z => by rw [d] at z; cases z⟩
 keep := fun i h h' st k => by
  obtain ⟨⟨old, he⟩, h1⟩ := st
  exact ⟨⟨old, k e (by simp) _ he⟩, h1.at fun o q => k it (by simp) o q⟩
 item := by
  intro X hP hw hK hc i pins s σ H E I hf st hg
  subst hP hw hK
  obtain ⟨xs, x, q1, hx⟩ := hg
  obtain ⟨⟨old, he⟩, h1⟩ := st
  obtain ⟨its1, rv1, p1, _⟩ := I.list q1
  obtain ⟨u, hu, ru⟩ := rv1.get hx
  have l1 := p1.isList
  refine wpAny_pyNext_enum_item he h1 l1 (by simpa using hu) hap fun h' b1 b2 b3 b4 b5 => ?_
  refine ⟨_, rfl, wpAny_letOwnedTupleGo_enum b1 fun h'' c1 c2 => ?_⟩
  have kk : ∀ c o, c ∉ [e, it] -> s.heap.get? c = some o -> h''.get? c = some o := fun c o hc q => by
   simp only [List.mem_cons, List.not_mem_nil, or_false, not_or] at hc
   exact c2.extBut c o hc.1 (b5 c o hc.1 hc.2 q)
  have I1 : Inv X pins σ H { s with heap := h'', toks := s.toks + 1 } := I.turnedL (t' := s.toks + 1) kk hf
  have hzlt : e < s.heap.objs.size := Heap.lt_size he
  have ht : h''.get? s.heap.objs.size = some { cls := .type "tuple", data := .seq #[.int i s.toks, u] } := c2.extBut _ _ (Nat.ne_of_gt hzlt) b3
  have hn : H s.heap.objs.size = none := I.hok.fresh (Nat.le_refl _)
  have ftr : gC X pins H s.heap.objs.size := I.fpOk (Nat.le_refl _) hn
  have lt : ∀ {c o}, s.heap.get? c = some o -> c ≠ s.heap.objs.size := fun e => Nat.ne_of_lt (Heap.lt_size e)
  refine ⟨.ref s.heap.objs.size, upd H s.heap.objs.size (.tup [.int i, x]), I1.track ftr ⟨by show 2 <= sizeLine; decide, [.int i s.toks, u], .cons ⟨_, rfl⟩ (.cons ru .nil), ⟨_, ht, rfl, _, rfl⟩⟩, rfl,
   ⟨_, x, rfl, hn, rfl, fun zs hq => by rw [I.list_inj hq q1]; exact hx⟩, ⟨⟨u, ?_⟩, b2.extBut c2.extBut hap.symm⟩, fun c hc => ?_⟩
  ·have e1 : ((i + 1 : Nat) : Int) = (i : Int) + 1 := by push_cast; rfl
   rw [e1]
   exact c1
  ·rw [aJ]
   ·exact (hf c hc).1
   ·simp only [List.mem_cons, List.not_mem_nil, or_false] at hc
    obtain ⟨o1, e1, _⟩ := h1
    rcases hc with q | q
    ·subst q; exact lt he
    ·subst q; exact lt e1
 done := by
  intro X hP hw hK hc i pins s σ H E I hf st hg
  subst hP hw hK
  obtain ⟨xs, q1, hend⟩ := hg
  obtain ⟨⟨old, he⟩, h1⟩ := st
  obtain ⟨its1, rv1, p1, _⟩ := I.list q1
  have e1 := rv1.length
  refine wpAny_pyNext_enum_end (I.ok.hd hc) he h1 p1.isList (by simp; omega) fun h' kk => ⟨rfl, ?_⟩
  exact I.turnedL (t' := s.toks) (fun c o hc q => by
   simp only [List.mem_cons, List.not_mem_nil, or_false, not_or] at hc
   exact kk c o hc.2 q) hf
 self := fun _ _ _ _ _ st h => by
  obtain ⟨⟨old, he⟩, h1⟩ := st
  exact wpAny_pyIter_enum he h
def G9 (K : PySem.W.Frag) (ta : TA) : TI := fun σ H R => ta σ H fun vs H1 => ∃ a xs, vs = [.ref a] /\ H1 a = some (.lst xs) /\ R (Ite K a) H1
theorem HD {X : Cx} {es : List Expr} {k1 : _} {tp : Pos} {a : Expr} {ta : TA} {p pos : Pos} (hg : Gl X "enumerate") (hm : X.mg "enumerate" = none) (ha : PA X [a] ta) (hs : starEach [a] X.env = [(false, eval a X.env)] := by rfl) :
  PI X (.Tuple es k1 tp) (.Call (.Name "enumerate" p) [a] [] pos) (G9 X.K ta) := by
 intro pins s σ H R I h
 refine Call_ (lY I hg hm boot_enumerate (PyProof.Rows.callWith_type1 (thn (ha pos pins s σ H _ I h) fun us s1 ⟨vs, H1, I1, r1, q1⟩ => ?_) hs rfl))
 obtain ⟨l1, xs, e, hx, q⟩ := q1
 subst e
 cases r1 with
 | cons r rr =>
  cases rr
  cases r
  obtain ⟨_, its, n, rv, ho⟩ := (show ObjOk X.prog X.w H1 s1.heap l1 (.lst xs) from I1.hok l1 _ hx)
  refine call_enumerate_1 ho fun h' c1 c2 c3 c4 => ?_
  have I2 : Inv X pins σ H1 { s1 with heap := h' } := I1.kept (t' := s1.toks) c4
  refine wpAny_pyIter_enum (s := { s1 with heap := h' }) c1 ?_
  refine ⟨_, _, _, _, H1, rfl, I2, Ff l1 _ s1.heap.objs.size (by intro z; have z' : (_ : Nat) = _ := z; omega), ⟨⟨_, c1⟩, c2⟩, fun c hc => ?_, q⟩
  simp only [List.mem_cons, List.not_mem_nil, or_false] at hc
  have hle : s1.heap.objs.size <= c := by
   rcases hc with e | e <;> (subst e; first | exact Nat.le_refl _ | exact Nat.le_add_right _ _)
  exact I1.fpOk hle (I1.hok.fresh hle)
theorem vO {K : PySem.W.Frag} {a : Addr} {xs : List V} {g : TG} {tt : TT} {te : TE} {σc : St} {H : Hp} {Fin : List V -> Hp -> Prop} (Pv : Nat -> List V -> Hp -> Prop) (h0 : Pv 0 [] H) (hl : ∀ i zs H, Pv i zs H -> SqL K H a xs /\ zs.length <= i) (hz : xs.length <= sizeLine)
  (hs : ∀ i x p zs H, xs[i]? = some x -> H p = none -> Pv i zs H -> g (.ref p) σc (upd H p (.tup [.int i, x])) fun σ2 H2 => tt σ2 H2 fun b H3 => if b = true then te σ2 H3 fun y H4 => Pv (i + 1) (zs ++ [y]) H4 else Pv (i + 1) zs H3)
  (hd : ∀ zs H, Pv xs.length zs H -> Fin zs H) : eF (Ite K a) g tt te σc H Fin := by
 refine ⟨fun i m zs H => m = xs.length - i /\ i <= xs.length /\ Pv i zs H, ⟨_, rfl, Nat.zero_le _, h0⟩, ?_⟩
 rintro i m zs H ⟨rfl, hi, p⟩
 obtain ⟨q1, hy⟩ := hl i zs H p
 by_cases hlt : i < xs.length
 ·refine .inr ⟨⟨xs, xs[i], q1, by simp [hlt]⟩, by omega, Pv (i + 1), fun ys' H' p' => ⟨xs.length - (i + 1), by omega, rfl, hlt, p'⟩, fun x H' y => ?_⟩
  obtain ⟨r, u, rfl, hn, rfl, e1⟩ := y
  exact hs i u r zs H (e1 xs q1) hn p
 ·have e : i = xs.length := by omega
  subst e
  exact .inl ⟨⟨xs, q1, by omega⟩, hd zs H p⟩
theorem Gs {X : Cx} : FQ X (yu X.K) := by
 intro pins s σ H o i ov iv Q I ro ri h
 obtain ⟨p, xs, k, z, rfl, rfl, hq, he, q⟩ := h
 cases ro
 obtain ⟨t, rfl⟩ := ri
 obtain ⟨its, r, pl, hz⟩ := I.list hq
 obtain ⟨j, h1, h2, h3, h4, h5⟩ := uC he
 obtain ⟨w, ew, rw'⟩ := r.get h2
 have hl := r.length
 have hn := ph
 have fin : EP X pins σ Q w s := ⟨z, H, I, rw', q⟩
 by_cases h0 : 0 <= k
 ·have hj : k.toNat = j := by
   rw [seqIndex_of h0 h5] at h1
   exact Option.some.inj h1
  exact wpAny_getItem_list pl.isList h0 (by omega) (by rw [hj]; simpa using ew) fin
 ·have hj : (k + (its.toArray.size : Int)).toNat = j := by
   rw [seqIndex_neg (by omega) h4] at h1
   rw [List.size_toArray, <- hl]
   exact Option.some.inj h1
  exact wpAny_getItem_list_neg pl.isList (by omega) (by rw [List.size_toArray] <;> omega) (by omega) (by rw [hj]; simpa using ew) fin
inductive AllInts : List Expr -> List Int -> Prop
 | nil : AllInts [] []
 | cons {i : Int} {j : Nat} {pos : Pos} {es : List Expr} {is : List Int} : AllInts es is -> AllInts (.Constant (.int i) j pos :: es) (i :: is)
def J7 (is : List Int) : TA := fun _ H Q => Q (is.map V.int) H
theorem HN {X : Cx} {es : List Expr} {is : List Int} (h : AllInts es is) : PA X es (J7 is) := by
 induction h with
 | nil => exact ak
 | cons h ih => exact fun pos pins s σ H Q I q => aa aA ih rfl pos pins s σ H Q I q
section
variable {X : Cx} {tg : Expr}
theorem ixL (K : PySem.W.Frag) (h : X.K = K := by rfl) : IxR X (yu K) := by subst h; exact Hw
theorem ixT (K : PySem.W.Frag) (h : X.K = K := by rfl) : IxR X (Fo K) := by subst h; exact JQ
theorem getL (K : PySem.W.Frag) (h : X.K = K := by rfl) : FQ X (yu K) := by subst h; exact Gs
theorem slL (K : PySem.W.Frag) (h : X.K = K := by rfl) : SlR X (JR K) := by subst h; exact H_
theorem Bx (K : PySem.W.Frag) (hu : X.A.units + 64 < cLine) (h : X.K = K := by rfl) : OpR X (compareOp .Eq) (Jo K) := by subst h; exact JP hu
theorem jM (K : PySem.W.Frag) (hu : X.A.units + 64 < cLine) (h : X.K = K := by rfl) : OpR X (compareOp .NotEq) (Iz K) := by subst h; exact Jg hu
def K4 (K : PySem.W.Frag) : List V -> Hp -> VK -> Prop := fun xs H Q => ∃ x t T b, xs = [x, .ty T] /\ TyOf K H x t /\ PySem.W.kitOne K t (.type T) = some b /\ Q (.bl b) H
def Ky (K : PySem.W.Frag) : List V -> Hp -> VK -> Prop := fun xs H Q => ∃ p ys, xs = [.ref p] /\ (SqL K H p ys \/ SqT K H p ys) /\ Q (.int ys.length) H
def Hb (K : PySem.W.Frag) : List V -> Hp -> VK -> Prop := fun xs H Q => ∃ p ys, xs = [.ref p] /\ (SqL K H p ys \/ SqT K H p ys) /\ ∀ l, H l = none -> Q (.ref l) (upd H l (.lst ys))
def Kr (K : PySem.W.Frag) : List V -> Hp -> VK -> Prop := fun xs H Q => ∃ (a : Addr) (bs : List Bool), xs = [.ref a] /\ SqL K H a (bs.map V.bl) /\ Q (.bl (bs.all id)) H
def KQ (K : PySem.W.Frag) : List V -> Hp -> VK -> Prop := fun xs H Q => ∃ (a : Addr) (bs : List Bool), xs = [.ref a] /\ SqL K H a (bs.map V.bl) /\ Q (.bl (bs.any id)) H
def Km (K : PySem.W.Frag) : List V -> Hp -> VK -> Prop := fun xs H Q => ∃ (a : Addr) (ns : List Int), xs = [.ref a] /\ SqL K H a (ns.map V.int) /\ Q (.int ns.sum) H
def L_ (K : PySem.W.Frag) : List V -> Hp -> VK -> Prop := fun xs H Q => ∃ (a : Addr) (ns : List Int), xs = [.ref a] /\ SqL K H a (ns.map V.int) /\ ns ≠ [] /\ Q (.int (K8 ns)) H
def Mh (K : PySem.W.Frag) : List V -> Hp -> VK -> Prop := fun xs H Q => ∃ (a : Addr) (ns : List Int), xs = [.ref a] /\ SqL K H a (ns.map V.int) /\ ns ≠ [] /\ Q (.int (KZ ns)) H
theorem jG (K : PySem.W.Frag) (h : X.K = K := by rfl) : CallR X (.builtin "isinstance") (K4 K) := by subst h; exact Af
theorem bU (K : PySem.W.Frag) (h : X.K = K := by rfl) : CallR X (.builtin "len") (Ky K) := by subst h; exact yD
theorem dH (K : PySem.W.Frag) (h : X.K = K := by rfl) : CallR X (.type "list") (Hb K) := by subst h; exact xK
theorem pN (K : PySem.W.Frag) (hc : X.calm = true := by rfl) (h : X.K = K := by rfl) : CallR X (.builtin "all") (Kr K) := by subst h; exact FT hc
theorem pB (K : PySem.W.Frag) (hc : X.calm = true := by rfl) (h : X.K = K := by rfl) : CallR X (.builtin "any") (KQ K) := by subst h; exact Gk hc
theorem sumK (K : PySem.W.Frag) (hc : X.calm = true := by rfl) (h : X.K = K := by rfl) : CallR X (.builtin "sum") (Km K) := by subst h; exact Gj hc
theorem piL (K : PySem.W.Frag) {l : Expr} {tl : TE} (hl : PE X l tl) (h : X.K = K := by rfl) : PI X tg l (GR K tl) := by subst h; exact Ih hl
theorem piT (K : PySem.W.Frag) {l : Expr} {tl : TE} (hl : PE X l tl) (h : X.K = K := by rfl) : PI X tg l (Ja K tl) := by subst h; exact Jf hl
theorem pgT (K : PySem.W.Frag) {es : List Expr} {k : Nat} {t : TGs} {n : Nat} {pos : Pos} (h : PGs X es t) (hc : X.calm = true := by rfl) (hn : (assignEach es X.env).length = n := by rfl) (hst : (assignEach es X.env).findIdx? (·.1) = none := by rfl) (hK : X.K = K := by rfl) :
  PG X (.Tuple es k pos) (IK K n t) := by subst hK; exact Jv hc h hn hst
theorem pY (K : PySem.W.Frag) {es : List Expr} {k1 : _} {tp : Pos} {a b : Expr} {ta : TA} {p pos : Pos} (hg : Gl X "zip") (hm : X.mg "zip" = none) (ha : PA X [a, b] ta) (hs : starEach [a, b] X.env = [(false, eval a X.env), (false, eval b X.env)] := by rfl) (hs2 : starEach [b] X.env = [(false, eval b X.env)] := by rfl)
  (hK : X.K = K := by rfl) : PI X (.Tuple es k1 tp) (.Call (.Name "zip" p) [a, b] [] pos) (Jx K ta) := by subst hK; exact Ji hg hm ha hs hs2
theorem Fd (K : PySem.W.Frag) {es : List Expr} {k1 : _} {tp : Pos} {a : Expr} {ta : TA} {p pos : Pos} (hg : Gl X "enumerate") (hm : X.mg "enumerate" = none) (ha : PA X [a] ta) (hs : starEach [a] X.env = [(false, eval a X.env)] := by rfl)
  (hK : X.K = K := by rfl) : PI X (.Tuple es k1 tp) (.Call (.Name "enumerate" p) [a] [] pos) (G9 K ta) := by subst hK; exact HD hg hm ha hs
theorem peI {x : Str} {i : Int} {pos : Pos} (hm : ∃ t, X.mg x = some (.int i t)) (hg : Gl X x) (hd : (x == ("__debug__" : Str)) = false := by decide) : PE X (.Name x pos) (tC (.int i)) := by
 obtain ⟨t, hm⟩ := hm
 exact Hm hg hm ⟨t, rfl⟩ hd
end
end L2
set_option maxRecDepth 100000
namespace Fr
def mk (a b : Int) : Int × Int := (a / (Int.gcd a b : Int), b / (Int.gcd a b : Int))
theorem gcd_pos {a b : Int} (h : 0 < b) : 0 < (Int.gcd a b : Int) := by
 have : 0 < Int.gcd a b := Int.gcd_pos_of_ne_zero_right a (by omega)
 omega
theorem gcd_le {a b : Int} (h : 0 < b) : (Int.gcd a b : Int) <= b := Int.le_of_dvd h (Int.gcd_dvd_right a b)
theorem j8 {a b : Int} : (mk a b).1 * (Int.gcd a b : Int) = a := Int.ediv_mul_cancel (Int.gcd_dvd_left a b)
theorem jf {a b : Int} : (mk a b).2 * (Int.gcd a b : Int) = b := Int.ediv_mul_cancel (Int.gcd_dvd_right a b)
theorem mk_pos {a b : Int} (h : 0 < b) : 0 < (mk a b).2 := by
 have h1 := gcd_pos (a := a) h
 have h2 := jf (a := a) (b := b)
 rcases Int.lt_or_le 0 (mk a b).2 with h3 | h3
 ·exact h3
 ·have h4 : (mk a b).2 * (Int.gcd a b : Int) <= 0 := Int.mul_nonpos_of_nonpos_of_nonneg h3 (by omega)
  omega
theorem mk_snd_le {a b : Int} (h : 0 < b) : (mk a b).2 <= b := by
 have h1 := gcd_pos (a := a) h
 have h2 := jf (a := a) (b := b)
 have h3 := mk_pos (a := a) h
 have h4 : (mk a b).2 * 1 <= (mk a b).2 * (Int.gcd a b : Int) := Int.mul_le_mul_of_nonneg_left (by omega) (by omega)
 omega
theorem mk_fst_le {a b : Int} (h : 0 < b) : (mk a b).1.natAbs <= a.natAbs := by
 have h1 := gcd_pos (a := a) h
 have h2 := congrArg Int.natAbs (j8 (a := a) (b := b))
 rw [Int.natAbs_mul] at h2
 rw [<- h2]
 exact Nat.le_mul_of_pos_right _ (by omega)
theorem yE {a b k : Int} (hk : 0 < k) : mk (a * k) (b * k) = mk a b := by
 have e : (Int.gcd (a * k) (b * k) : Int) = (Int.gcd a b : Int) * k := by
  rw [Int.gcd_mul_right]
  have : (k.natAbs : Int) = k := Int.natAbs_of_nonneg (by omega)
  rw [Int.natCast_mul, this]
 unfold mk
 rw [e, Int.mul_ediv_mul_of_pos_left _ _ hk, Int.mul_ediv_mul_of_pos_left _ _ hk]
theorem mk_add {a b c d : Int} (hb : 0 < b) (hd : 0 < d) : mk ((mk a b).1 * (mk c d).2 + (mk c d).1 * (mk a b).2) ((mk a b).2 * (mk c d).2) = mk (a * d + c * b) (b * d) := by
 have h1 := j8 (a := a) (b := b)
 have h2 := jf (a := a) (b := b)
 have h3 := j8 (a := c) (b := d)
 have h4 := jf (a := c) (b := d)
 have g1 := gcd_pos (a := a) hb
 have g2 := gcd_pos (a := c) hd
 generalize (mk a b).1 = x at *
 generalize (mk a b).2 = y at *
 generalize (mk c d).1 = z at *
 generalize (mk c d).2 = w at *
 generalize (Int.gcd a b : Int) = g at *
 generalize (Int.gcd c d : Int) = g' at *
 have e1 : a * d + c * b = (x * w + z * y) * (g * g') := by
  rw [<- h1, <- h2, <- h3, <- h4, Int.add_mul]
  congr 1
  ·rw [Int.mul_assoc, Int.mul_assoc]; congr 1; rw [Int.mul_left_comm]
  ·rw [Int.mul_assoc, Int.mul_assoc]; congr 1; rw [Int.mul_left_comm g' y g, Int.mul_comm g' g]
 have e2 : b * d = (y * w) * (g * g') := by
  rw [<- h2, <- h4, Int.mul_assoc, Int.mul_assoc]; congr 1; rw [Int.mul_left_comm]
 rw [e1, e2, yE (Int.mul_pos g1 g2)]
theorem mk_lt {a b c d : Int} (hb : 0 < b) (hd : 0 < d) : decide ((mk a b).1 * (mk c d).2 < (mk c d).1 * (mk a b).2) = decide (a * d < c * b) := by
 have h1 := j8 (a := a) (b := b)
 have h2 := jf (a := a) (b := b)
 have h3 := j8 (a := c) (b := d)
 have h4 := jf (a := c) (b := d)
 have g1 := gcd_pos (a := a) hb
 have g2 := gcd_pos (a := c) hd
 generalize (mk a b).1 = x at *
 generalize (mk a b).2 = y at *
 generalize (mk c d).1 = z at *
 generalize (mk c d).2 = w at *
 generalize (Int.gcd a b : Int) = g at *
 generalize (Int.gcd c d : Int) = g' at *
 have e1 : a * d = (x * w) * (g * g') := by
  rw [<- h1, <- h4, Int.mul_assoc, Int.mul_assoc]; congr 1; rw [Int.mul_left_comm]
 have e2 : c * b = (z * y) * (g * g') := by
  rw [<- h2, <- h3, Int.mul_assoc, Int.mul_assoc]; congr 1; rw [Int.mul_left_comm g' y g, Int.mul_comm g' g]
 have hp : 0 < g * g' := Int.mul_pos g1 g2
 rw [e1, e2]
 exact decide_eq_decide.mpr ⟨fun h => Int.mul_lt_mul_of_pos_right h hp, fun h => Int.lt_of_mul_lt_mul_right h (by omega)⟩
def draw (c k m : Int) : Int := ((c % 1000000007 * 48271 + k * 69621 + 7) % 1000000007) * ((c % 1000000007 * 48271 + k * 69621 + 7) % 1000000007) / 1013 % 1000003 % m
theorem draw_nn (c k : Int) {m : Int} (h : 0 < m) : 0 <= draw c k m := Int.emod_nonneg _ (by omega)
theorem draw_lt (c k : Int) {m : Int} (h : 0 < m) : draw c k m < m := Int.emod_lt_of_pos _ h
theorem gcd_step (l r : Int) : Int.gcd r (l % r) = Int.gcd l r := by
 rw [Int.gcd_comm r (l % r)]
 have h := Int.gcd_add_mul_left_left r (l % r) (l / r)
 rw [Int.emod_add_mul_ediv] at h
 exact h.symm
end Fr
set_option Elab.async false
set_option linter.all false
set_option maxRecDepth 100000
namespace L2
open PySem PySem.Spec PyProof.Rows
theorem ao {H : Hp} {p : Addr} {o : HO} (h : H p = none) : Same H (upd H p o) := fun c u e => by
 rw [aJ (aV e h)]
 exact e
theorem cM {H H1 : Hp} {p : Addr} {o : HO} (e : Same H H1) (h : H p = none) : Same H (upd H1 p o) := fun c u q => by
 rw [aJ (aV q h)]
 exact e c u q
theorem Az {Q : VK} {H : Hp} {c : Prop} [Decidable c] (hc : c) (k : Q (.bl true) H) : Q (.bl (decide c)) H := by
 rw [decide_eq_true hc]
 exact k
structure New (H H' : Hp) (p : Addr) (o : HO) : Prop where
 new : H p = none
 is : H' p = some o
 same : Same H H'
theorem New.of {H H1 : Hp} {p : Addr} {o : HO} (s : Same H H1) (h : H1 p = none) : New H (upd H1 p o) p o := ⟨s.free h, aq, s.trans (ao h)⟩
theorem New.pre {H H1 H2 : Hp} {p : Addr} {o : HO} (s : Same H H1) (n : New H1 H2 p o) : New H H2 p o := ⟨s.free n.new, n.is, s.trans n.same⟩
theorem New.post {H H1 H2 : Hp} {p : Addr} {o : HO} (n : New H H1 p o) (s : Same H1 H2) : New H H2 p o := ⟨n.new, s _ _ n.is, n.same.trans s⟩
end L2
namespace PySem
theorem Paired.get2 {α β : Type} {F : α -> β -> Prop} : ∀ {l₁ : List α} {l₂ : List β} {i : Nat} {x : α}, Paired F l₁ l₂ -> l₁[i]? = some x -> ∃ y, l₂[i]? = some y /\ F x y
 | _, _, i, x, .nil, e => by simp at e
 | _, _, 0, x, .cons h _, e => by
  simp at e
  subst e
  exact ⟨_, rfl, h⟩
 | _, _, i + 1, x, .cons _ t, e => by simpa using Paired.get2 (i := i) t (by simpa using e)
theorem Paired.at2 {α β : Type} {F : α -> β -> Prop} : ∀ {l₁ : List α} {l₂ : List β} {i : Nat} {y : β}, Paired F l₁ l₂ -> l₂[i]? = some y -> ∃ x, l₁[i]? = some x /\ F x y
 | _, _, i, x, .nil, e => by simp at e
 | _, _, 0, x, .cons h _, e => by
  simp at e
  subst e
  exact ⟨_, rfl, h⟩
 | _, _, i + 1, x, .cons _ t, e => by simpa using Paired.at2 (i := i) t (by simpa using e)
theorem Paired.mem2 {α β : Type} {F : α -> β -> Prop} {l₁ : List α} {l₂ : List β} {x : α} (p : Paired F l₁ l₂) (h : x ∈ l₁) : ∃ y ∈ l₂, F x y := by
 obtain ⟨i, hi, rfl⟩ := List.getElem_of_mem h
 obtain ⟨y, e, f⟩ := p.get2 (List.getElem?_eq_getElem hi)
 exact ⟨y, List.mem_of_getElem? e, f⟩
theorem Paired.app2 {α β : Type} {F : α -> β -> Prop} : ∀ {l₁ m₁ : List α} {l₂ m₂ : List β}, Paired F l₁ l₂ -> Paired F m₁ m₂ -> Paired F (l₁ ++ m₁) (l₂ ++ m₂)
 | _, _, _, _, .nil, q => q
 | _, _, _, _, .cons h t, q => .cons h (Paired.app2 t q)
theorem Paired.imp2 {α β : Type} {F G : α -> β -> Prop} {l₁ : List α} {l₂ : List β} (r : Paired F l₁ l₂) (f : ∀ a b, F a b -> G a b) : Paired G l₁ l₂ := L2.Paired.mapP r f
end PySem
namespace L2
open PySem PySem.Spec PyProof.Rows
theorem bw {K : PySem.W.Frag} {a : Addr} {xs : List V} {te : TE} {σc : St} {H : Hp} {Fin : List V -> Hp -> Prop} (R : V -> V -> Hp -> Prop) (hR : ∀ x y H1 H2, Same H1 H2 -> R x y H1 -> R x y H2) (hl : SqL K H a xs) (hz : xs.length <= sizeLine)
  (hs : ∀ x ∈ xs, ∀ H1, Same H H1 -> ∀ Q : VK, (∀ y H2, Same H1 H2 -> R x y H2 -> Q y H2) -> te (σc.set 0 (some x)) H1 Q) (hd : ∀ ys H', Same H H' -> Paired (fun x y => R x y H') xs ys -> Fin ys H') : eF (Itl K a) (fW 0) lE te σc H Fin := by
 refine Do (xs := xs) (fun i ys H' => Same H H' /\ Paired (fun x y => R x y H') (xs.take i) ys) ⟨Same.refl _, by simpa using Paired.nil⟩ (fun i ys H' hi h => ?_) hz (fun i x ys H' hx h => ?_) (fun ys H' h => ?_)
 ·refine ⟨h.1.seq hl, ?_⟩
  have := h.2.length
  rw [List.length_take] at this
  omega
 ·refine zj ?_
  refine hs x (List.mem_of_getElem? hx) H' h.1 _ fun y H2 s2 r => ⟨h.1.trans s2, ?_⟩
  rw [List.take_add_one, hx]
  exact (h.2.imp2 fun x y q => hR x y _ _ s2 q).app2 (.cons r .nil)
 ·exact hd ys H' h.1 (by simpa using h.2)
theorem Ad {K : PySem.W.Frag} {a : Addr} {xs : List V} {te : TE} {σc : St} {H : Hp} {Fin : List V -> Hp -> Prop} (R : V -> V -> Hp -> Prop) (hR : ∀ x y H1 H2, Same H1 H2 -> R x y H1 -> R x y H2) (hl : SqT K H a xs) (hz : xs.length <= sizeLine)
  (hs : ∀ x ∈ xs, ∀ H1, Same H H1 -> ∀ Q : VK, (∀ y H2, Same H1 H2 -> R x y H2 -> Q y H2) -> te (σc.set 0 (some x)) H1 Q) (hd : ∀ ys H', Same H H' -> Paired (fun x y => R x y H') xs ys -> Fin ys H') : eF (Itt K a) (fW 0) lE te σc H Fin := by
 refine Ga (xs := xs) (fun i ys H' => Same H H' /\ Paired (fun x y => R x y H') (xs.take i) ys) ⟨Same.refl _, by simpa using Paired.nil⟩ (fun i ys H' hi h => ?_) hz (fun i x ys H' hx h => ?_) (fun ys H' h => ?_)
 ·refine ⟨SqT.mono h.1 hl, ?_⟩
  have := h.2.length
  rw [List.length_take] at this
  omega
 ·refine zj ?_
  refine hs x (List.mem_of_getElem? hx) H' h.1 _ fun y H2 s2 r => ⟨h.1.trans s2, ?_⟩
  rw [List.take_add_one, hx]
  exact (h.2.imp2 fun x y q => hR x y _ _ s2 q).app2 (.cons r .nil)
 ·exact hd ys H' h.1 (by simpa using h.2)
theorem dz {n : Nat} {te : TE} {σc : St} {H : Hp} {Fin : List V -> Hp -> Prop} (R : Nat -> V -> Hp -> Prop) (hR : ∀ x y H1 H2, Same H1 H2 -> R x y H1 -> R x y H2) (hz : n <= sizeLine)
  (hs : ∀ i, i < n -> ∀ H1, Same H H1 -> ∀ Q : VK, (∀ y H2, Same H1 H2 -> R i y H2 -> Q y H2) -> te (σc.set 0 (some (.int i))) H1 Q) (hd : ∀ ys H', Same H H' -> Paired (fun x y => R x y H') (List.range n) ys -> Fin ys H') : eF (Itr 0 n) (fW 0) lE te σc H Fin := by
 refine CK (n := n) (fun i ys H' => Same H H' /\ Paired (fun x y => R x y H') (List.range i) ys) ⟨Same.refl _, Paired.nil⟩ (fun i ys H' hi h => ?_) hz (fun i ys H' hx h => ?_) (fun ys H' h => ?_)
 ·have := h.2.length
  rw [List.length_range] at this
  omega
 ·rw [Int.zero_add]
  refine zj ?_
  refine hs i hx H' h.1 _ fun y H2 s2 r => ⟨h.1.trans s2, ?_⟩
  rw [List.range_succ]
  exact (h.2.imp2 fun x y q => hR x y _ _ s2 q).app2 (.cons r .nil)
 ·exact hd ys H' h.1 h.2
def IsRow (H : Hp) (v : V) (r : List Int) : Prop := ∃ a, v = .ref a /\ H a = some (.lst (r.map V.int))
def IsTab (H : Hp) (a : Addr) (T : List (List Int)) : Prop := ∃ vs, H a = some (.lst vs) /\ Paired (IsRow H) vs T
theorem IsRow.mono {H H' : Hp} {v : V} {r : List Int} (s : Same H H') (h : IsRow H v r) : IsRow H' v r := let ⟨a, e, q⟩ := h; ⟨a, e, s _ _ q⟩
theorem IsTab.mono {H H' : Hp} {a : Addr} {T : List (List Int)} (s : Same H H') (h : IsTab H a T) : IsTab H' a T := let ⟨vs, e, q⟩ := h; ⟨vs, s _ _ e, q.imp2 fun _ _ z => z.mono s⟩
def OwnRow (H H' : Hp) (v : V) (r : List Int) : Prop := ∃ a, v = .ref a /\ H a = none /\ H' a = some (.lst (r.map V.int))
def OwnTab (H H' : Hp) (a : Addr) (T : List (List Int)) : Prop := ∃ vs, H a = none /\ H' a = some (.lst vs) /\ Paired (OwnRow H H') vs T
theorem OwnRow.row {H H' : Hp} {v : V} {r : List Int} (h : OwnRow H H' v r) : IsRow H' v r := let ⟨a, e, _, q⟩ := h; ⟨a, e, q⟩
theorem OwnTab.tab {H H' : Hp} {a : Addr} {T : List (List Int)} (h : OwnTab H H' a T) : IsTab H' a T := let ⟨vs, _, e, q⟩ := h; ⟨vs, e, q.imp2 fun _ _ z => z.row⟩
theorem OwnRow.mono {H H1 H2 : Hp} {v : V} {r : List Int} (s : Same H1 H2) (h : OwnRow H H1 v r) : OwnRow H H2 v r := let ⟨a, e, n, q⟩ := h; ⟨a, e, n, s _ _ q⟩
theorem OwnRow.pre {H H1 H2 : Hp} {v : V} {r : List Int} (s : Same H H1) (h : OwnRow H1 H2 v r) : OwnRow H H2 v r := let ⟨a, e, n, q⟩ := h; ⟨a, e, s.free n, q⟩
theorem OwnTab.pre {H H1 H2 : Hp} {a : Addr} {T : List (List Int)} (s : Same H H1) (h : OwnTab H1 H2 a T) : OwnTab H H2 a T := let ⟨vs, n, e, q⟩ := h; ⟨vs, s.free n, e, q.imp2 fun _ _ z => z.pre s⟩
theorem OwnTab.mono {H H1 H2 : Hp} {a : Addr} {T : List (List Int)} (s : Same H1 H2) (h : OwnTab H H1 a T) : OwnTab H H2 a T := let ⟨vs, n, e, q⟩ := h; ⟨vs, n, s _ _ e, q.imp2 fun _ _ z => z.mono s⟩
def BX (r : List Int) : D := .lst (r.map D.int)
def Iu (T : List (List Int)) : D := .lst (T.map BX)
theorem vN {K : PySem.W.Frag} {H : Hp} : ∀ r : List Int, Reps K H (r.map D.int) (r.map V.int)
 | [] => by simp [Reps]
 | x :: r => by
  rw [List.map_cons, List.map_cons]
  unfold Reps
  exact ⟨_, _, rfl, by unfold Rep; rfl, vN r⟩
theorem IsRow.rep {K : PySem.W.Frag} {H : Hp} {v : V} {r : List Int} (h : IsRow H v r) : Rep K H (BX r) v := by
 obtain ⟨a, rfl, e⟩ := h
 unfold BX Rep
 exact ⟨a, _, rfl, SqL.of e, vN r⟩
theorem vQ {K : PySem.W.Frag} {H : Hp} : ∀ {vs : List V} {T : List (List Int)}, Paired (IsRow H) vs T -> Reps K H (T.map BX) vs
 | _, _, .nil => by simp [Reps]
 | _, _, .cons h t => by
  rw [List.map_cons]
  unfold Reps
  exact ⟨_, _, rfl, h.rep, vQ t⟩
theorem IsTab.rep {K : PySem.W.Frag} {H : Hp} {a : Addr} {T : List (List Int)} (h : IsTab H a T) : Rep K H (Iu T) (.ref a) := by
 obtain ⟨vs, e, p⟩ := h
 unfold Iu Rep
 exact ⟨a, vs, rfl, SqL.of e, vQ p⟩
structure Good (T : List (List Int)) (m n : Nat) : Prop where
 m1 : 1 <= m
 m4 : m <= 4
 n1 : 1 <= n
 n4 : n <= 4
 rows : T.length = m
 cols : ∀ r ∈ T, r.length = n
 num : ∀ r ∈ T, ∀ x ∈ r, -100 <= x /\ x <= 100
theorem iV {r : List Int} {j : Nat} (h : j < r.length) : atI (r.map V.int) (j : Int) = some (.int (r.getD j 0)) := by
 refine gP ?_
 rw [List.getElem?_map, List.getElem?_eq_getElem h, List.getD_eq_getElem?_getD, List.getElem?_eq_getElem h]
 rfl
theorem fM {α : Type} {xs : List α} {j : Nat} (h : j < xs.length) : atI xs (j : Int) = some xs[j] := gP (List.getElem?_eq_getElem h)
end L2
set_option Elab.async false
set_option linter.all false
set_option maxRecDepth 100000
namespace L2
open PySem PySem.Spec PyProof.Rows
theorem bN {t u : TS} {D : Ends} {σ : St} {H : Hp} (J : St -> Hp -> Prop) (h : ∀ R : St -> Hp -> Prop, (∀ σ' H', J σ' H' -> R σ' H') -> t { D with nx := R } σ H) (k : ∀ σ' H', J σ' H' -> u D σ' H') : Iw t u D σ H := h (u D) k
theorem oH {i : Nat} {v : V} {σ : St} {H : Hp} {a : St -> Hp -> Prop} {b : VK} {c d : St -> Hp -> Prop} (h : a (σ.set i (some v)) H) : fW i v σ H (Ends.mk a b c d).nx := h
theorem zx {σ : St} {H : Hp} {A B : Hp -> Prop} (h : A H) : lE σ H fun b H3 => if b = true then A H3 else B H3 := by
 show (if true = true then A H else B H)
 exact cX h
theorem lg {α : Type} : ∀ {xs : List α} {ys : List V}, Paired (fun _ y => y = V.bl true) xs ys -> ys = (List.replicate xs.length true).map V.bl
 | _, _, .nil => rfl
 | _, _, .cons h t => by
  rw [lg t, h]
  rfl
theorem tK {α : Type} : ∀ {xs : List α} {ys : List V}, Paired (fun _ y => y = V.bl false) xs ys -> ys = (List.replicate xs.length false).map V.bl
 | _, _, .nil => rfl
 | _, _, .cons h t => by
  rw [tK t, h]
  rfl
theorem qW (n : Nat) : (List.replicate n true).all id = true := by simp
theorem FN (n : Nat) : (List.replicate n false).any id = false := by simp
theorem ints_of {α : Type} (Pr : Int -> Prop) : ∀ {xs : List α} {ys : List V}, Paired (fun _ y => ∃ i, y = V.int i /\ Pr i) xs ys -> ∃ r : List Int, ys = r.map V.int /\ r.length = xs.length /\ ∀ x ∈ r, Pr x
 | _, _, .nil => ⟨[], rfl, rfl, fun _ h => nomatch h⟩
 | _, _, .cons h t => by
  obtain ⟨i, rfl, hi⟩ := h
  obtain ⟨r, rfl, hl, hr⟩ := ints_of Pr t
  refine ⟨i :: r, rfl, by simp [hl], fun x hx => ?_⟩
  rcases List.mem_cons.mp hx with e | e
  ·rw [e]; exact hi
  ·exact hr x e
end L2
namespace PySem
theorem Paired.set2 {α β : Type} {F : α -> β -> Prop} {x : α} {y : β} (h : F x y) : ∀ {l₁ : List α} {l₂ : List β} (i : Nat), Paired F l₁ l₂ -> Paired F (l₁.set i x) (l₂.set i y)
 | _, _, _, .nil => .nil
 | _, _, 0, .cons _ t => .cons h t
 | _, _, i + 1, .cons q t => .cons q (Paired.set2 h i t)
end PySem
namespace L2
open PySem PySem.Spec PyProof.Rows
def RowNe (l : Addr) (H : Hp) (v : V) (r : List Int) : Prop := ∃ b, v = .ref b /\ b ≠ l /\ H b = some (.lst (r.map V.int))
theorem RowNe.row {l : Addr} {H : Hp} {v : V} {r : List Int} (h : RowNe l H v r) : IsRow H v r := let ⟨b, e, _, q⟩ := h; ⟨b, e, q⟩
theorem RowNe.mono {l : Addr} {H H' : Hp} {v : V} {r : List Int} (s : Same H H') (h : RowNe l H v r) : RowNe l H' v r := let ⟨b, e, n, q⟩ := h; ⟨b, e, n, s _ _ q⟩
theorem RowNe.at {l : Addr} {H : Hp} {v : V} {r : List Int} {o : HO} (h : RowNe l H v r) : RowNe l (upd H l o) v r := let ⟨b, e, n, q⟩ := h; ⟨b, e, n, by rw [aJ n]; exact q⟩
theorem iy {xs : List V} {k : Int} (h0 : 0 <= k) (h1 : k <= xs.length) : cP xs (some k) none = xs.drop k.toNat := by
 have e : HT.sIx xs.length 0 (some k) = k.toNat := by
  unfold HT.sIx
  simp only
  split <;> omega
 have e2 : HT.sIx xs.length xs.length none = xs.length := rfl
 unfold cP
 rw [e, e2, List.take_of_length_le (by rw [List.length_drop]; omega)]
theorem qP {xs : List V} {k : Int} (h0 : 0 <= k) (h1 : k <= xs.length) : cP xs none (some k) = xs.take k.toNat := by
 have e : HT.sIx xs.length xs.length (some k) = k.toNat := by
  unfold HT.sIx
  simp only
  split <;> omega
 have e2 : HT.sIx xs.length 0 none = 0 := rfl
 unfold cP
 rw [e, e2, List.drop_zero]
 rfl
end L2
namespace Tb
open PySem L2
theorem pick4 {j : Int} (h0 : 0 <= j) (h1 : j < 4) : ∃ v : Int, atI (([2, 5, 9, 98] : List Int).map V.int) j = some (.int v) /\ 2 <= v /\ v <= 98 := by
 have : j = 0 \/ j = 1 \/ j = 2 \/ j = 3 := by omega
 rcases this with rfl | rfl | rfl | rfl
 ·exact ⟨2, rfl, by decide, by decide⟩
 ·exact ⟨5, rfl, by decide, by decide⟩
 ·exact ⟨9, rfl, by decide, by decide⟩
 ·exact ⟨98, rfl, by decide, by decide⟩
end Tb
namespace L2
open PySem
theorem Ay {α : Type} {H H' : Hp} (Pr : List Int -> Prop) : ∀ {xs : List α} {ys : List V}, Paired (fun _ y => ∃ r : List Int, OwnRow H H' y r /\ Pr r) xs ys -> ∃ U : List (List Int), Paired (OwnRow H H') ys U /\ U.length = xs.length /\ ∀ r ∈ U, Pr r
 | _, _, .nil => ⟨[], .nil, rfl, fun _ h => nomatch h⟩
 | _, _, .cons h t => by
  obtain ⟨r, hr, hp⟩ := h
  obtain ⟨U, h1, h2, h3⟩ := Ay Pr t
  refine ⟨r :: U, .cons hr h1, by simp [h2], fun x hx => ?_⟩
  rcases List.mem_cons.mp hx with e | e
  ·rw [e]; exact hp
  ·exact h3 x e
end L2
namespace L2
open PySem PySem.Spec PyProof.Rows
theorem zV {r t : List Int} (h : r.map V.int = t.map V.int) : r = t := by
 have inj : ∀ (a b : List Int), a.map V.int = b.map V.int -> a = b := by
  intro a
  induction a with
  | nil => intro b h; cases b with
   | nil => rfl
   | cons _ _ => simp at h
  | cons x a ih => intro b h; cases b with
   | nil => simp at h
   | cons y b =>
    simp only [List.map_cons, List.cons.injEq, V.int.injEq] at h
    rw [h.1, ih b h.2]
 exact inj r t h
theorem IsRow.inj {H : Hp} {v : V} {r t : List Int} (h : IsRow H v r) (q : IsRow H v t) : r = t := by
 obtain ⟨a, rfl, e⟩ := h
 obtain ⟨b, eb, f⟩ := q
 cases eb
 rw [e] at f
 injection f with f
 injection f with f
 exact zV f
theorem xM {H : Hp} (f : List Int -> Int) : ∀ {vs ys : List V} {T : List (List Int)}, Paired (fun x y => ∀ r, IsRow H x r -> y = V.int (f r)) vs ys -> Paired (IsRow H) vs T -> ys = (T.map f).map V.int
 | _, _, _, .nil, .nil => rfl
 | _, _, _, .cons h t, .cons q u => by rw [h _ q, xM f t u]; rfl
theorem vH {H H' : Hp} (f : List Int -> List Int) : ∀ {vs ys : List V} {T : List (List Int)}, Paired (fun x y => ∀ r, IsRow H x r -> OwnRow H H' y (f r)) vs ys -> Paired (IsRow H) vs T -> Paired (OwnRow H H') ys (T.map f)
 | _, _, _, .nil, .nil => .nil
 | _, _, _, .cons h t, .cons q u => .cons (h _ q) (vH f t u)
theorem pP {H H' : Hp} (f : Nat -> List Int) : ∀ {xs : List Nat} {ys : List V}, Paired (fun i y => OwnRow H H' y (f i)) xs ys -> Paired (OwnRow H H') ys (xs.map f)
 | _, _, .nil => .nil
 | _, _, .cons h t => .cons h (pP f t)
theorem nF (f : Nat -> Int) : ∀ {xs : List Nat} {ys : List V}, Paired (fun i y => y = V.int (f i)) xs ys -> ys = (xs.map f).map V.int
 | _, _, .nil => rfl
 | _, _, .cons h t => by rw [h, nF f t]; rfl
theorem vJ {K : PySem.W.Frag} {a : Addr} {T : List (List Int)} {te : TE} {σc : St} {H : Hp} {Fin : List V -> Hp -> Prop} (f : List Int -> Int) (hT : IsTab H a T) (hz : T.length <= 1000)
  (hs : ∀ r ∈ T, ∀ b, H b = some (.lst (r.map V.int)) -> ∀ H1, Same H H1 -> ∀ Q : VK, (∀ H2, Same H1 H2 -> Q (.int (f r)) H2) -> te (σc.set 0 (some (.ref b))) H1 Q) (hd : ∀ H', Same H H' -> Fin ((T.map f).map V.int) H') : eF (Itl K a) (fW 0) lE te σc H Fin := by
 obtain ⟨vs, ha, hp⟩ := hT
 refine bw (xs := vs) (fun x y _ => ∀ r, IsRow H x r -> y = V.int (f r)) (fun _ _ _ _ _ h => h) (SqL.of ha) (by rw [hp.length]; exact Nat.le_of_lt (aO hz)) ?_ ?_
 ·intro x hx H1 s1 Q q
  obtain ⟨r, hr, hrow⟩ := hp.mem2 hx
  obtain ⟨b, rfl, hb⟩ := id hrow
  exact hs r hr b hb H1 s1 Q fun H2 s2 => q _ H2 s2 fun r' h' => by rw [hrow.inj h']
 ·intro ys H' s' pr
  rw [xM f pr hp]
  exact hd H' s'
theorem BW {K : PySem.W.Frag} {a : Addr} {T : List (List Int)} {te : TE} {σc : St} {H : Hp} {Fin : List V -> Hp -> Prop} (f : List Int -> List Int) (hT : IsTab H a T) (hz : T.length <= 1000)
  (hs : ∀ r ∈ T, ∀ b, H b = some (.lst (r.map V.int)) -> ∀ H1, Same H H1 -> ∀ Q : VK, (∀ y H2, Same H1 H2 -> OwnRow H H2 y (f r) -> Q y H2) -> te (σc.set 0 (some (.ref b))) H1 Q)
  (hd : ∀ ys H', Same H H' -> Paired (OwnRow H H') ys (T.map f) -> Fin ys H') : eF (Itl K a) (fW 0) lE te σc H Fin := by
 obtain ⟨vs, ha, hp⟩ := hT
 refine bw (xs := vs) (fun x y H' => ∀ r, IsRow H x r -> OwnRow H H' y (f r)) (fun _ _ _ _ s h r q => (h r q).mono s) (SqL.of ha) (by rw [hp.length]; exact Nat.le_of_lt (aO hz)) ?_ ?_
 ·intro x hx H1 s1 Q q
  obtain ⟨r, hr, hrow⟩ := hp.mem2 hx
  obtain ⟨b, rfl, hb⟩ := id hrow
  exact hs r hr b hb H1 s1 Q fun y H2 s2 ho => q _ H2 s2 fun r' h' => by rw [<- hrow.inj h']; exact ho
 ·intro ys H' s' pr
  exact hd ys H' s' (vH f pr hp)
theorem OwnTab.lay {H H1 : Hp} {p : Addr} {ys : List V} {T : List (List Int)} (s : Same H H1) (hp : H1 p = none) (h : Paired (OwnRow H H1) ys T) : OwnTab H (upd H1 p (.lst ys)) p T :=
 ⟨ys, s.free hp, aq, h.imp2 fun _ _ z => z.mono (ao hp)⟩
theorem IsTab.row {H : Hp} {a : Addr} {T : List (List Int)} (h : IsTab H a T) {i : Nat} (hi : i < T.length) : ∃ vs b, H a = some (.lst vs) /\ i < vs.length /\ atI vs (i : Int) = some (.ref b) /\ H b = some (.lst ((T.getD i []).map V.int)) := by
 obtain ⟨vs, e, p⟩ := h
 obtain ⟨v, ev, b, rfl, hb⟩ := p.at2 (List.getElem?_eq_getElem hi)
 refine ⟨vs, b, e, by rw [p.length]; exact hi, gP ev, ?_⟩
 rw [List.getD_eq_getElem?_getD, List.getElem?_eq_getElem hi]
 exact hb
theorem Good.row {T : List (List Int)} {m n : Nat} (g : Good T m n) {i : Nat} (hi : i < m) : T.getD i [] ∈ T /\ (T.getD i []).length = n := by
 have h : i < T.length := by rw [g.rows]; exact hi
 have e : T.getD i [] = T[i] := by rw [List.getD_eq_getElem?_getD, List.getElem?_eq_getElem h]; rfl
 rw [e]
 exact ⟨List.getElem_mem h, g.cols _ (List.getElem_mem h)⟩
def IsPl (H : Hp) (v : V) (p : Nat × Nat) : Prop := ∃ b, v = .ref b /\ H b = some (.tup [.int p.1, .int p.2])
theorem IsPl.mono {H H' : Hp} {v : V} {p : Nat × Nat} (s : Same H H') (h : IsPl H v p) : IsPl H' v p := let ⟨b, e, q⟩ := h; ⟨b, e, s _ _ q⟩
theorem IsPl.at {l : Addr} {H : Hp} {v : V} {p : Nat × Nat} {xs : List V} {o : HO} (hl : H l = some (.lst xs)) (h : IsPl H v p) : IsPl (upd H l o) v p := by
 obtain ⟨b, e, q⟩ := h
 exact ⟨b, e, by rw [aJ (fB q hl (by intro z; cases z))]; exact q⟩
def plD (p : Nat × Nat) : D := .tup [.int p.1, .int p.2]
end L2
namespace L2
open PySem PySem.Spec PyProof.Rows
theorem v5 (f : Int -> Int) : ∀ {r : List Int} {ys : List V}, Paired (fun x y => ∀ i, x = V.int i -> y = V.int (f i)) (r.map V.int) ys -> ys = (r.map f).map V.int
 | [], _, h => by cases h; rfl
 | i :: r, _, h => by
  cases h with
  | cons h t => rw [h i rfl, v5 f t]; rfl
theorem wA {K : PySem.W.Frag} {b : Addr} {r : List Int} {te : TE} {σc : St} {H : Hp} {Fin : List V -> Hp -> Prop} (f : Int -> Int) (hb : SqL K H b (r.map V.int)) (hz : r.length <= 1000)
  (hs : ∀ i ∈ r, ∀ H1, Same H H1 -> ∀ Q : VK, (∀ H2, Same H1 H2 -> Q (.int (f i)) H2) -> te (σc.set 0 (some (.int i))) H1 Q) (hd : ∀ H', Same H H' -> Fin ((r.map f).map V.int) H') : eF (Itl K b) (fW 0) lE te σc H Fin := by
 refine bw (xs := r.map V.int) (fun x y _ => ∀ i, x = V.int i -> y = V.int (f i)) (fun _ _ _ _ _ h => h) hb (by rw [List.length_map]; exact Nat.le_of_lt (aO hz)) ?_ ?_
 ·intro x hx H1 s1 Q q
  obtain ⟨i, hi, rfl⟩ := List.mem_map.mp hx
  exact hs i hi H1 s1 Q fun H2 s2 => q _ H2 s2 fun j e => by cases e; rfl
 ·intro ys H' s' pr
  rw [v5 f pr]
  exact hd H' s'
theorem jU {b : Bool} {A B : Prop} (hb : b = true) (h : B) : if (!b) = true then A else B := by
 subst hb
 exact bK h
theorem bV {K : PySem.W.Frag} {H : Hp} {p : Addr} {x y : Int} (h : H p = some (.tup [.int x, .int y])) : Rep K H (.tup [.int x, .int y]) (.ref p) := by
 unfold Rep
 exact ⟨p, _, rfl, SqT.of h, by simp [Reps, Rep]⟩
end L2
namespace L2
open PySem PySem.Spec PyProof.Rows
def SameX (l : Addr) (H H' : Hp) : Prop := ∀ b o, b ≠ l -> H b = some o -> H' b = some o
theorem SameX.refl {l : Addr} {H : Hp} : SameX l H H := fun _ _ _ h => h
theorem SameX.then {l : Addr} {H H1 H2 : Hp} (a : SameX l H H1) (b : Same H1 H2) : SameX l H H2 := fun c o n h => b c o (a c o n h)
theorem SameX.at {l : Addr} {H H1 : Hp} {o : HO} (a : SameX l H H1) : SameX l H (upd H1 l o) := fun c u n h => by rw [aJ n]; exact a c u n h
def RowX (H : Hp) (l : Addr) (H' : Hp) (v : V) (r : List Int) : Prop := ∃ b, v = .ref b /\ b ≠ l /\ H b = none /\ H' b = some (.lst (r.map V.int))
theorem RowX.own {H H' : Hp} {l : Addr} {v : V} {r : List Int} (h : RowX H l H' v r) : OwnRow H H' v r := let ⟨b, e, _, n, q⟩ := h; ⟨b, e, n, q⟩
theorem RowX.mono {H H' H2 : Hp} {l : Addr} {v : V} {r : List Int} (s : Same H' H2) (h : RowX H l H' v r) : RowX H l H2 v r := let ⟨b, e, n, m, q⟩ := h; ⟨b, e, n, m, s _ _ q⟩
theorem RowX.at {H H' : Hp} {l : Addr} {v : V} {r : List Int} {o : HO} (h : RowX H l H' v r) : RowX H l (upd H' l o) v r := let ⟨b, e, n, m, q⟩ := h; ⟨b, e, n, m, by rw [aJ n]; exact q⟩
theorem gQ {α : Type} {l : List α} {i : Nat} {x d : α} (h : l[i]? = some x) : l.getD i d = x := by
 rw [List.getD_eq_getElem?_getD, h]
 rfl
theorem Hx {α : Type} {l : List α} {i : Nat} (d : α) (h : i < l.length) : l[i]? = some (l.getD i d) := by
 rw [List.getD_eq_getElem?_getD, List.getElem?_eq_getElem h]
 rfl
end L2
set_option Elab.async false
set_option linter.all false
namespace L2
open PySem PySem.Spec PyProof.Rows
variable {X : Cx}
def G8 (i j : Int) : Prop := 0 < j /\ j.natAbs.log2 < 9000
theorem mV : OpR X (binaryOp .FloorDiv) (rI G8 fun i j => .int (i / j)) := opI fun i j _ _ _ _ _ hc q => by
 have h1 : (0 : Int) < j := hc.1
 exact floordiv_int (by omega) (by rw [Int.fdiv_eq_ediv_of_nonneg i (by omega)]; exact q) (.inl (PyProof.noPylong_of_log2 hc.2))
end L2
namespace Fr
theorem mk_zero {S : Int} (h : 0 < S) : mk 0 S = (0, 1) := by
 have e : (Int.gcd 0 S : Int) = S := by rw [Int.gcd_zero_left]; omega
 unfold mk
 rw [e, Int.zero_ediv, Int.ediv_self (by omega)]
theorem mk_self {S : Int} (h : 0 < S) : mk S S = (1, 1) := by
 have e : (Int.gcd S S : Int) = S := by rw [Int.gcd_self]; omega
 unfold mk
 rw [e, Int.ediv_self (by omega)]
theorem mk_cross {a b c d : Int} (hb : 0 < b) (hd : 0 < d) (h : a * d = c * b) : mk a b = mk c d := by
 rw [<- yE (a := a) (b := b) hd, <- yE (a := c) (b := d) hb, h, Int.mul_comm b d]
theorem mk_ratio {a b : Int} (h : 0 < b) : (mk a b).1 * b = a * (mk a b).2 := by
 have h1 := j8 (a := a) (b := b)
 have h2 := jf (a := a) (b := b)
 have e : (mk a b).1 * b = (mk a b).1 * ((mk a b).2 * (Int.gcd a b : Int)) := by rw [h2]
 have e2 : a * (mk a b).2 = ((mk a b).1 * (Int.gcd a b : Int)) * (mk a b).2 := by rw [h1]
 rw [e, e2, Int.mul_assoc, Int.mul_comm (mk a b).2]
theorem mk_nonneg {a b : Int} (h : 0 < b) (ha : 0 <= a) : 0 <= (mk a b).1 := Int.ediv_nonneg ha (Int.le_of_lt (gcd_pos h))
theorem mk_cop {a b : Int} (h : 0 < b) : Int.gcd (mk a b).1 (mk a b).2 = 1 := by
 have g := gcd_pos (a := a) h
 have e : Int.gcd ((mk a b).1 * (Int.gcd a b : Int)) ((mk a b).2 * (Int.gcd a b : Int)) = Int.gcd (mk a b).1 (mk a b).2 * Int.gcd a b := by
  rw [Int.gcd_mul_right]
  simp
 rw [j8, jf] at e
 have g' : 0 < Int.gcd a b := by omega
 have e2 : 1 * Int.gcd a b = Int.gcd (mk a b).1 (mk a b).2 * Int.gcd a b := by rw [Nat.one_mul]; exact e
 exact (Nat.eq_of_mul_eq_mul_right g' e2).symm
def dot : List Int -> List Int -> Int
 | x :: xs, y :: ys => x * y + dot xs ys
 | _, _ => 0
theorem dot_snoc : ∀ (xs ys : List Int) (x y : Int), xs.length = ys.length -> dot (xs ++ [x]) (ys ++ [y]) = dot xs ys + x * y
 | [], [], x, y, _ => by simp [dot]
 | a :: xs, b :: ys, x, y, h => by
  have := dot_snoc xs ys x y (by simpa using h)
  simp only [List.cons_append, dot]
  omega
end Fr
namespace L2
open PySem PySem.Spec PyProof.Rows
def IsFr (H : Hp) (v : V) (q : Int × Int) : Prop := ∃ b, v = .ref b /\ H b = some (.tup [.int q.1, .int q.2])
theorem IsFr.mono {H H' : Hp} {v : V} {q : Int × Int} (s : Same H H') (h : IsFr H v q) : IsFr H' v q := let ⟨b, e, z⟩ := h; ⟨b, e, s _ _ z⟩
def IsFrs (H : Hp) (a : Addr) (qs : List (Int × Int)) : Prop := ∃ vs, H a = some (.lst vs) /\ Paired (IsFr H) vs qs
theorem IsFrs.mono {H H' : Hp} {a : Addr} {qs : List (Int × Int)} (s : Same H H') (h : IsFrs H a qs) : IsFrs H' a qs := let ⟨vs, e, z⟩ := h; ⟨vs, s _ _ e, z.imp2 fun _ _ y => y.mono s⟩
structure Wt (ws : List Int) (n : Nat) (S : Int) : Prop where
 len : ws.length = n
 n1 : 1 <= n
 n4 : n <= 4
 nn : ∀ x ∈ ws, 0 <= x
 sum : ws.sum = S
 pos : 0 < S
 most : S <= 17
def mks (ws : List Int) (S : Int) : List (Int × Int) := ws.map fun x => Fr.mk x S
theorem fj (ws : List Int) (S : Int) : (mks ws S).length = ws.length := List.length_map ..
theorem Hk {ws : List Int} {S : Int} {i : Nat} {q : Int × Int} (h : (mks ws S)[i]? = some q) : ∃ x, ws[i]? = some x /\ q = Fr.mk x S := by
 unfold mks at h
 rw [List.getElem?_map] at h
 cases e : ws[i]? with
 | none => rw [e] at h; cases h
 | some x => rw [e] at h; exact ⟨x, rfl, by cases h; rfl⟩
end L2
set_option Elab.async false
set_option linter.all false
set_option maxRecDepth 100000
namespace L2
open PySem PySem.Spec PyProof.Rows
def Jw (K : PySem.W.Frag) (neg : Bool) : R2 := fun x y H Q => ∃ p d ds vs, y = .ref p /\ Rep K H d x /\ SqL K H p vs /\ Reps K H ds vs /\ (∀ a ∈ ds, di a d = true /\ dN a <= 40 /\ ∀ b ∈ ds, di a b = true) /\
 Q (.bl (if neg then !(ds.any fun e => eqD e d) else ds.any fun e => eqD e d)) H
section
variable {X : Cx} {pins : List (Addr × Obj)} {σ : St} {H : Hp} {s : Shared}
open Classical in
theorem Gq (I : Inv X pins σ H s) (hu : X.A.units + 64 < cLine) {d : D} {x : V} {u : Value} {ds : List D} {vs : List V} {its : List Value} (rd : Rep X.K H d x) (ru : RelV x u) (rs : Reps X.K H ds vs) (rv : Vals vs its)
  (hl : ∀ a ∈ ds, di a d = true /\ dN a <= 40 /\ ∀ b ∈ ds, di a b = true) : ∃ e : Value -> Bool, (∀ y, y ∈ its -> SeqAt.EqAt X.A.in1 s y u (e y)) /\ its.any e = ds.any fun a => eqD a d := by
 refine ⟨fun (y : Value) => decide (∃ (j : Nat) (d' : D), its[j]? = some y /\ ds[j]? = some d' /\ eqD d' d = true), fun y hy => ?_, ?_⟩
 ·obtain ⟨j, hj, ej⟩ := List.mem_iff_getElem.mp hy
  have hjv : j < vs.length := by rw [rv.length]; exact hj
  obtain ⟨d1, e1, r1⟩ := rs.get (List.getElem?_eq_getElem hjv)
  obtain ⟨u1, f1, s1⟩ := rv.get (List.getElem?_eq_getElem hjv)
  have g1 : u1 = y := by rw [List.getElem?_eq_getElem hj, ej] at f1; exact (Option.some.inj f1).symm
  subst g1
  have m1 := List.mem_of_getElem? e1
  obtain ⟨l1, p1, l2⟩ := hl d1 m1
  have hq := (x_ (A := X.A.in1) I 40 p1 l1 (by show X.A.units + 1 + 40 < cLine; omega) r1 rd s1 ru).1
  have he : decide (∃ (j : Nat) (d' : D), its[j]? = some u1 /\ ds[j]? = some d' /\ eqD d' d = true) = eqD d1 d := by
   cases hc : eqD d1 d with
   | true => exact decide_eq_true ⟨j, d1, by rw [List.getElem?_eq_getElem hj, ej], e1, hc⟩
   | false =>
    refine decide_eq_false ?_
    rintro ⟨i, d', hi, hd', hq'⟩
    have hiv : i < vs.length := by rw [rv.length]; exact (List.getElem?_eq_some_iff.mp hi).1
    obtain ⟨d2, e2, r2⟩ := rs.get (List.getElem?_eq_getElem hiv)
    rw [hd'] at e2
    cases e2
    obtain ⟨u2, f2, s2⟩ := rv.get (List.getElem?_eq_getElem hiv)
    rw [hi] at f2
    cases f2
    have ev := s1.inj s2
    rw [<- ev] at r2
    have := ym (qN I 40 p1 (l2 d' (List.mem_of_getElem? hd')) r1 r2)
    rw [this, hq'] at hc
    cases hc
  show SeqAt.EqAt X.A.in1 s u1 u (decide (∃ (j : Nat) (d' : D), its[j]? = some u1 /\ ds[j]? = some d' /\ eqD d' d = true))
  rw [he]
  exact hq
 ·rw [Bool.eq_iff_iff, List.any_eq_true, List.any_eq_true]
  constructor
  ·rintro ⟨y, _, hy⟩
   obtain ⟨j, d', _, h2, h3⟩ := of_decide_eq_true hy
   exact ⟨d', List.mem_of_getElem? h2, h3⟩
  ·rintro ⟨d', hd', h3⟩
   obtain ⟨j, hj, ej⟩ := List.mem_iff_getElem.mp hd'
   have hji : j < its.length := by rw [<- rv.length, rs.length]; exact hj
   exact ⟨its[j], List.getElem_mem hji, decide_eq_true ⟨j, d', List.getElem?_eq_getElem hji, by rw [List.getElem?_eq_getElem hj, ej], h3⟩⟩
theorem DX (hu : X.A.units + 64 < cLine) : OpR X (compareOp .NotIn) (Jw X.K true) := by
 intro pins s σ H x y v u Q I rx ry h
 obtain ⟨p, d, ds, vs, rfl, rd, hq, rs, hl, q⟩ := h
 cases ry
 obtain ⟨its, r, pl, hz⟩ := I.list hq
 obtain ⟨e, h1, h2⟩ := Gq I hu rd rx rs r hl
 refine SeqAt.notIn_listAt e pl.isList (fun w hw => h1 w (by simpa using hw)) ⟨.bl _, H, I, rfl, ?_⟩
 rw [show its.toArray.any e = its.any e by simp, h2]
 exact q
end
section
variable {X : Cx}
theorem JS (K : PySem.W.Frag) (hu : X.A.units + 64 < cLine) (h : X.K = K := by rfl) : OpR X (compareOp .NotIn) (Jw K true) := by subst h; exact DX hu
theorem inK (K : PySem.W.Frag) (h : X.K = K := by rfl) : OpR X (compareOp .In) (rIn K false) := by subst h; exact DR
end
theorem yM (i : Int) (xs : List Int) : inV (.int i) (xs.map V.int) = decide (i ∈ xs) := by
 unfold inV
 rw [Bool.eq_iff_iff, List.any_eq_true, decide_eq_true_iff]
 constructor
 ·rintro ⟨y, hy, h⟩
  obtain ⟨j, hj, rfl⟩ := List.mem_map.mp hy
  have : j = i := by simpa [eqV] using h
  rw [<- this]; exact hj
 ·intro h
  exact ⟨.int i, List.mem_map_of_mem h, by simp [eqV]⟩
theorem vK (xs : List Int) : (xs.map V.int).all jR = true := by
 rw [List.all_eq_true]
 intro y hy
 obtain ⟨j, _, rfl⟩ := List.mem_map.mp hy
 rfl
structure Cl (K : PySem.W.Frag) (mg : Str -> Option Value) (x : Str) (fs ms : List Str) (C : Addr) : Prop where
 cl : Cls K C
 no : ∀ f, f ∈ fs -> NoAttr K C f
 mg_ : mg x = some (.ref C)
 makes : PySem.W.makesIn K C = true
 kp : PySem.W.keepIn K (.ref C) = true
structure FunC (K : PySem.W.Frag) (C : Addr) (m qual : Str) (st : Stmt) (ps : List Str) : Prop where
 ex : ∃ f fd, Fun K m qual st f fd /\ Meth K C m f /\ Binds K fd ps []
structure DefC (P : Program) (w : World) (K : PySem.W.Frag) (mg : Str -> Option Value) (base : Heap) (C : Addr) (m : Str) (ps : List Str) (k : Nat) (sp : Sp) : Prop where
 ex : ∃ f fd, FnOk P w K mg base CX0 k f fd ps sp /\ Meth K C m f /\ Binds K fd ps []
section
variable {P : Program} {w : World} {K : PySem.W.Frag} {mg : Str -> Option Value} {base : Heap}
theorem DefC.of {C : Addr} {x qual : Str} {st : Stmt} {N ps : List Str} {k : Nat} {sp : Sp} (F : FunC K C x qual st ps) (S : FnScope N ps (aH st)) (len : ∀ vs H Q E, sp vs H Q E -> vs.length = ps.length)
  (hbody : ∀ (f : Addr) (cdv : Value) (A : Around) (outer : List Env) (s : Shared) (H : Hp) (vs : List V) (Q : VK) (E : XK), Room k (A.deeper (envOfC qual (aH st) s.heap.objs.size f cdv)) -> sp vs H Q E ->
   ∃ t, PSs (pH CX0 P w K mg base N qual (aH st) f cdv A outer s H E).nox (dC st) t /\ t { nx := fun _ H' => Q .non H', rt := Q } (start N vs) H) : DefC P w K mg base C x ps (k + 1) sp := by
 obtain ⟨f, fd, F1, hm, hb⟩ := F.ex
 exact ⟨f, fd, F1.ok S len (hbody f), hm, hb⟩
theorem fun_c {C : Addr} {x qual : Str} {st : Stmt} {ps : List Str} {f : Addr} {oc : Value} {od an : Option Addr} {osl : Array (Option Value)} {kV doc pm cdv ct : Value}
  (a : PySem.W.findIn K (.ref C) x = some (some (.ref f))) (i : PySem.W.isFn K (.ref f) = true)
  (l : K.lookup f = some ⟨oc, od, .func (PySem.W.fnOf x qual (fu st) (dC st) (aH st) .none kV doc pm an cdv ct), osl⟩) (c : PySem.W.codeIn K cdv qual = true) (k : PySem.W.keepIn K (.ref f) = true)
  (b : ∀ (kV doc pm : Value) (an : Option Addr) (cdv ct : Value) (us : List Value), us.length = ps.length -> bindArgs (PySem.W.fnOf x qual (fu st) (dC st) (aH st) .none kV doc pm an cdv ct) ⟨us, []⟩ = pure (ps.zip us)) : FunC K C x qual st ps := by
 have F := zF (st := st) l c k
 exact ⟨f, _, F, ⟨a, i, k⟩, F.binds b⟩
end
section
variable {X : Cx} {x m : Str} {ps : List Str} {k : Nat} {sp : Sp} {p pos apos : Pos} {o e : Expr} {es : List Expr} {t : TA} {ta : TE} {C : Addr} {fs ms : List Str}
theorem nR {pl : Sem Bool} (D : DefC X.prog X.w X.K X.mg X.base C m ps k sp) (c : Cl X.K X.mg x fs ms C) (hr : Room k X.A) (he : PE X o ta) (ha : PA X (e :: es) t)
  (hst : starEach (e :: es) X.env = (false, eval e X.env) :: starEach es X.env := by rfl) (hpl : (backTo pos (starEach es X.env)).any (·.1) = false := by rfl)
  (ht : eval (.Call (.Attribute o m apos) (e :: es) [] pos) X.env = (do
   let ov <- eval o X.env
   standAt apos.atName
   let (f, first) <- holding [ov] (getMethod ov m pl)
   callWith pos f first (backTo pos (starEach (e :: es) X.env)) (backToKw pos (keywordEach [] X.env))) := by rfl) :
  PE X (.Call (.Attribute o m apos) (e :: es) [] pos) (G7 C m sp [] E0 ta t) := by
 obtain ⟨f, fd, F, hm, hb⟩ := D.ex
 exact Ht he c.cl hm F hr hb .nil BL ha hst hpl ht
theorem iU (D : DefC X.prog X.w X.K X.mg X.base C "__init__" ps k sp) (c : Cl X.K X.mg x fs ms C) (hr : Room (k + 1) X.A) (hg : Gl X x) (ha : PA X (e :: es) t)
  (hdb : (x == ("__debug__" : Str)) = false := by decide) (he : starEach (e :: es) X.env = (false, eval e X.env) :: starEach es X.env := by rfl) (hpl : (backTo pos (starEach es X.env)).any (·.1) = false := by rfl) :
  PE X (.Call (.Name x p) (e :: es) [] pos) (G3 C sp [] E0 t) := by
 obtain ⟨f, fd, F, hm, hb⟩ := D.ex
 exact Hj ⟨c.makes, hm.at_, hm.fn, c.kp⟩ F hr hg c.mg_ hb .nil BL ha hdb he hpl
end
end L2
set_option Elab.async false
set_option linter.all false
namespace Gm
def sm : Nat -> (Nat -> Int) -> Int
 | 0, _ => 0
 | n + 1, f => sm n f + f n
theorem sm_congr {f g : Nat -> Int} : ∀ {n : Nat}, (∀ j, j < n -> f j = g j) -> sm n f = sm n g
 | 0, _ => rfl
 | n + 1, h => by
  show sm n f + f n = sm n g + g n
  rw [sm_congr fun j hj => h j (by omega), h n (by omega)]
theorem sm_add (f g : Nat -> Int) : ∀ n, sm n (fun j => f j + g j) = sm n f + sm n g
 | 0 => rfl
 | n + 1 => by
  show sm n _ + (f n + g n) = sm n f + f n + (sm n g + g n)
  rw [sm_add f g n]; omega
theorem sm_mul (c : Int) (f : Nat -> Int) : ∀ n, sm n (fun j => c * f j) = c * sm n f
 | 0 => by simp [sm]
 | n + 1 => by
  show sm n _ + c * f n = c * (sm n f + f n)
  rw [sm_mul c f n, Int.mul_add]
theorem sm_zero : ∀ n, sm n (fun _ => 0) = 0
 | 0 => rfl
 | n + 1 => by
  show sm n _ + 0 = 0
  rw [sm_zero n]; rfl
theorem wD {f : Nat -> Int} : ∀ {n : Nat}, (∀ j, j < n -> 0 <= f j) -> 0 <= sm n f
 | 0, _ => Int.le_refl _
 | n + 1, h => by
  show 0 <= sm n f + f n
  have := wD (n := n) fun j hj => h j (by omega)
  have := h n (by omega)
  omega
theorem sm_pos {f : Nat -> Int} : ∀ {n : Nat}, (∀ j, j < n -> 0 <= f j) -> (∃ j, j < n /\ 0 < f j) -> 0 < sm n f
 | 0, _, ⟨j, hj, _⟩ => by omega
 | n + 1, h, ⟨j, hj, hp⟩ => by
  show 0 < sm n f + f n
  have h0 := wD (n := n) fun j hj => h j (by omega)
  have h1 := h n (by omega)
  by_cases e : j = n
  ·subst e; omega
  ·have := sm_pos (n := n) (fun j hj => h j (by omega)) ⟨j, by omega, hp⟩
   omega
theorem GC {f : Nat -> Int} : ∀ {n : Nat}, 0 < sm n f -> ∃ j, j < n /\ 0 < f j
 | 0, h => by simp [sm] at h
 | n + 1, h => by
  have h' : 0 < sm n f + f n := h
  by_cases e : 0 < f n
  ·exact ⟨n, by omega, e⟩
  ·obtain ⟨j, hj, hp⟩ := GC (f := f) (n := n) (by omega)
   exact ⟨j, by omega, hp⟩
theorem sm_single {k : Nat} {c : Int} : ∀ {n : Nat}, sm n (fun j => if j = k then c else 0) = if k < n then c else 0
 | 0 => by simp [sm]
 | n + 1 => by
  show sm n _ + (if n = k then c else 0) = _
  rw [sm_single (n := n)]
  by_cases h1 : k < n
  ·rw [if_pos h1, if_neg (by omega), if_pos (by omega)]; omega
  ·by_cases h2 : n = k
   ·rw [if_neg h1, if_pos h2, if_pos (by omega)]; omega
   ·rw [if_neg h1, if_neg h2, if_neg (by omega)]; omega
theorem lU {α : Type} (num den : α -> Int) : ∀ (l : List α), l ≠ [] -> (∀ x ∈ l, 0 < den x) -> ∃ x ∈ l, ∀ y ∈ l, num x * den y <= num y * den x
 | [], h, _ => absurd rfl h
 | [x], _, _ => ⟨x, by simp, fun y hy => by
  rw [List.mem_singleton.mp hy]
  exact Int.le_refl _⟩
 | x :: z :: l, _, hd => by
  obtain ⟨w, hw, hm⟩ := lU num den (z :: l) (by simp) fun y hy => hd y (List.mem_cons_of_mem _ hy)
  have dx := hd x (by simp)
  have dw := hd w (List.mem_cons_of_mem _ hw)
  by_cases h : num x * den w <= num w * den x
  ·refine ⟨x, by simp, fun y hy => ?_⟩
   rcases List.mem_cons.mp hy with e | hy
   ·rw [e]; exact Int.le_refl _
   ·have dy := hd y (List.mem_cons_of_mem _ hy)
    have h1 := hm y hy
    have a1 : num x * den w * den y <= num w * den x * den y := Int.mul_le_mul_of_nonneg_right h (Int.le_of_lt dy)
    have a2 : num w * den y * den x <= num y * den w * den x := Int.mul_le_mul_of_nonneg_right h1 (Int.le_of_lt dx)
    have a3 : num x * den y * den w <= num y * den x * den w := by grind
    exact Int.le_of_mul_le_mul_right a3 dw
  ·refine ⟨w, List.mem_cons_of_mem _ hw, fun y hy => ?_⟩
   rcases List.mem_cons.mp hy with e | hy
   ·rw [e]; omega
   ·exact hm y hy
structure Pt (a : Nat -> Nat -> Int) (m n : Nat) (y : Nat -> Int) (S N : Int) : Prop where
 pos : 0 < S
 nn : ∀ j, j < n -> 0 <= y j
 sum : sm n y = S
 le : ∀ i, i < m -> sm n (fun j => a i j * y j) <= N
 ti : ∃ i, i < m /\ sm n (fun j => a i j * y j) = N
def cnt (p : Nat -> Bool) (n : Nat) : Nat := ((List.range n).filter p).length
theorem y_ {p q : Nat -> Bool} {n : Nat} (h : ∀ j, j < n -> p j = true -> q j = true) : cnt p n <= cnt q n := by
 unfold cnt
 rw [<- List.countP_eq_length_filter, <- List.countP_eq_length_filter]
 exact List.countP_mono_left fun j hj => h j (List.mem_range.mp hj)
theorem yW {p q : Nat -> Bool} : ∀ {n : Nat}, (∀ j, j < n -> p j = true -> q j = true) -> (∃ j, j < n /\ p j = false /\ q j = true) -> cnt p n < cnt q n
 | 0, _, ⟨j, hj, _⟩ => by omega
 | n + 1, h, ⟨j, hj, h1, h2⟩ => by
  have e : ∀ r : Nat -> Bool, cnt r (n + 1) = cnt r n + (if r n = true then 1 else 0) := by
   intro r
   unfold cnt
   rw [List.range_succ, List.filter_append, List.length_append]
   by_cases c : r n = true
   ·simp [c]
   ·simp [c]
  rw [e p, e q]
  have h0 := y_ (p := p) (q := q) (n := n) fun j hj => h j (by omega)
  have hn := h n (by omega)
  by_cases c : j = n
  ·subst c
   simp [h1, h2]
   omega
  ·have := yW (n := n) (fun j hj => h j (by omega)) ⟨j, by omega, h1, h2⟩
   by_cases c1 : p n = true
   ·rw [if_pos c1, if_pos (hn c1)]; omega
   ·rw [if_neg c1]; split <;> omega
def todo (a : Nat -> Nat -> Int) (m n : Nat) (y : Nat -> Int) (N : Int) : Nat := cnt (fun j => decide (y j ≠ 0)) n + cnt (fun i => decide (sm n (fun j => a i j * y j) ≠ N)) m
theorem Bq (a : Nat -> Int) (y d : Nat -> Int) (q p : Int) (n : Nat) : sm n (fun j => a j * (q * y j + p * d j)) = q * sm n (fun j => a j * y j) + p * sm n (fun j => a j * d j) := by
 rw [<- sm_mul, <- sm_mul, <- sm_add]
 exact sm_congr fun j _ => by grind
theorem step {a : Nat -> Nat -> Int} {m n : Nat} {y : Nat -> Int} {S N : Int} (P : Pt a m n y S N) {d : Nat -> Int} {δ : Int} (hs : ∀ j, j < n -> y j = 0 -> d j = 0) (h0 : sm n d = 0) (hd : ∃ j, j < n /\ d j ≠ 0) (hδ : δ <= 0)
  (ht : ∀ i, i < m -> sm n (fun j => a i j * y j) = N -> sm n (fun j => a i j * d j) = δ) : ∃ y' S' N', Pt a m n y' S' N' /\ N' * S <= N * S' /\ todo a m n y' N' < todo a m n y N /\ (∀ j, j < n -> y j = 0 -> y' j = 0) /\ ∀ i, i < m -> sm n (fun j => a i j * y j) = N -> sm n (fun j => a i j * y' j) = N' := by
 have hneg : ∃ j, j < n /\ d j < 0 := by
  refine Classical.byContradiction fun hc => ?_
  have hge : ∀ j, j < n -> 0 <= d j := fun j hj => by
   refine Classical.byContradiction fun h => hc ⟨j, hj, by omega⟩
  obtain ⟨j, hj, hne⟩ := hd
  have := sm_pos hge ⟨j, hj, by have := hge j hj; omega⟩
  omega
 let num : Nat ⊕ Nat -> Int := fun x => match x with | .inl j => y j | .inr i => N - sm n (fun j => a i j * y j)
 let den : Nat ⊕ Nat -> Int := fun x => match x with | .inl j => - d j | .inr i => sm n (fun j => a i j * d j) - δ
 let L : List (Nat ⊕ Nat) := ((List.range n).filter fun j => decide (d j < 0)).map .inl ++ ((List.range m).filter fun i => decide (δ < sm n (fun j => a i j * d j))).map .inr
 have mL : ∀ j, j < n -> d j < 0 -> (.inl j : Nat ⊕ Nat) ∈ L := fun j hj h => List.mem_append_left _ (List.mem_map_of_mem (List.mem_filter.mpr ⟨List.mem_range.mpr hj, decide_eq_true h⟩))
 have mR : ∀ i, i < m -> δ < sm n (fun j => a i j * d j) -> (.inr i : Nat ⊕ Nat) ∈ L := fun i hi h => List.mem_append_right _ (List.mem_map_of_mem (List.mem_filter.mpr ⟨List.mem_range.mpr hi, decide_eq_true h⟩))
 have inL : ∀ x ∈ L, (∃ j, j < n /\ d j < 0 /\ x = .inl j) \/ ∃ i, i < m /\ δ < sm n (fun j => a i j * d j) /\ x = .inr i := by
  intro x hx
  rcases List.mem_append.mp hx with h | h
  ·obtain ⟨j, hj, rfl⟩ := List.mem_map.mp h
   obtain ⟨h1, h2⟩ := List.mem_filter.mp hj
   exact .inl ⟨j, List.mem_range.mp h1, of_decide_eq_true h2, rfl⟩
  ·obtain ⟨i, hi, rfl⟩ := List.mem_map.mp h
   obtain ⟨h1, h2⟩ := List.mem_filter.mp hi
   exact .inr ⟨i, List.mem_range.mp h1, of_decide_eq_true h2, rfl⟩
 have dp : ∀ x ∈ L, 0 < den x := by
  intro x hx
  rcases inL x hx with ⟨j, _, h, rfl⟩ | ⟨i, _, h, rfl⟩
  ·show 0 < - d j; omega
  ·show 0 < sm n (fun j => a i j * d j) - δ; omega
 obtain ⟨j0, hj0, hd0⟩ := hneg
 obtain ⟨x, hx, hmin⟩ := lU num den L (List.ne_nil_of_mem (mL j0 hj0 hd0)) dp
 have hq := dp x hx
 have hp : 0 <= num x := by
  rcases inL x hx with ⟨j, hj, h, rfl⟩ | ⟨i, hi, h, rfl⟩
  ·exact P.nn j hj
  ·show 0 <= N - sm n (fun j => a i j * y j)
   have := P.le i hi
   omega
 generalize hpe : num x = p at hmin hp
 generalize hqe : den x = q at hmin hq
 have g : ∀ i, sm n (fun j => a i j * (q * y j + p * d j)) = q * sm n (fun j => a i j * y j) + p * sm n (fun j => a i j * d j) := fun i => Bq (a i) y d q p n
 have tight : ∀ i, i < m -> sm n (fun j => a i j * y j) = N -> sm n (fun j => a i j * (q * y j + p * d j)) = q * N + p * δ := fun i hi h => by
  rw [g i, h, ht i hi h]
 refine ⟨fun j => q * y j + p * d j, q * S, q * N + p * δ, ⟨Int.mul_pos hq P.pos, ?_, ?_, ?_, ?_⟩, ?_, ?_, fun j hj e => ?_, fun i hi e => tight i hi e⟩
 ·intro j hj
  show 0 <= q * y j + p * d j
  by_cases h : d j < 0
  ·have := hmin _ (mL j hj h)
   have h1 : p * (- d j) <= y j * q := this
   have e : p * (- d j) = - (p * d j) := Int.mul_neg ..
   have e2 : y j * q = q * y j := Int.mul_comm ..
   omega
  ·have h1 : 0 <= q * y j := Int.mul_nonneg (Int.le_of_lt hq) (P.nn j hj)
   have h2 : 0 <= p * d j := Int.mul_nonneg hp (by omega)
   omega
 ·have e : sm n (fun j => q * y j + p * d j) = q * sm n y + p * sm n d := by rw [<- sm_mul, <- sm_mul, <- sm_add]
  rw [e, h0, P.sum]
  omega
 ·intro i hi
  show sm n (fun j => a i j * (q * y j + p * d j)) <= q * N + p * δ
  rw [g i]
  have hle := P.le i hi
  by_cases h : δ < sm n (fun j => a i j * d j)
  ·have := hmin _ (mR i hi h)
   have h1 : p * (sm n (fun j => a i j * d j) - δ) <= (N - sm n (fun j => a i j * y j)) * q := this
   grind
  ·have h1 : p * sm n (fun j => a i j * d j) <= p * δ := Int.mul_le_mul_of_nonneg_left (by omega) hp
   have h2 : q * sm n (fun j => a i j * y j) <= q * N := Int.mul_le_mul_of_nonneg_left hle (Int.le_of_lt hq)
   omega
 ·obtain ⟨i, hi, h⟩ := P.ti
  exact ⟨i, hi, tight i hi h⟩
 ·have h1 : p * δ <= 0 := Int.mul_nonpos_of_nonneg_of_nonpos hp hδ
  have h2 : p * δ * S <= 0 := Int.mul_nonpos_of_nonpos_of_nonneg h1 (Int.le_of_lt P.pos)
  grind
 ·have s1 : ∀ j, j < n -> decide (q * y j + p * d j ≠ 0) = true -> decide (y j ≠ 0) = true := fun j hj h => by
   refine decide_eq_true fun e => ?_
   have := of_decide_eq_true h
   rw [e, hs j hj e] at this
   simp at this
  have s2 : ∀ i, i < m -> decide (sm n (fun j => a i j * (q * y j + p * d j)) ≠ q * N + p * δ) = true -> decide (sm n (fun j => a i j * y j) ≠ N) = true := fun i hi h => by
   refine decide_eq_true fun e => ?_
   exact of_decide_eq_true h (tight i hi e)
  have c1 := y_ s1
  have c2 := y_ s2
  show cnt (fun j => decide (q * y j + p * d j ≠ 0)) n + cnt (fun i => decide (sm n (fun j => a i j * (q * y j + p * d j)) ≠ q * N + p * δ)) m < cnt (fun j => decide (y j ≠ 0)) n + cnt (fun i => decide (sm n (fun j => a i j * y j) ≠ N)) m
  rcases inL x hx with ⟨j, hj, h, rfl⟩ | ⟨i, hi, h, rfl⟩
  ·have e1 : p = y j := hpe.symm
   have e2 : q = - d j := hqe.symm
   have : cnt (fun j => decide (q * y j + p * d j ≠ 0)) n < cnt (fun j => decide (y j ≠ 0)) n := by
    refine yW s1 ⟨j, hj, decide_eq_false ?_, decide_eq_true ?_⟩
    ·rw [e1, e2]
     intro z
     apply z
     grind
    ·intro z
     rw [hs j hj z] at h
     omega
   omega
  ·have e1 : p = N - sm n (fun j => a i j * y j) := hpe.symm
   have e2 : q = sm n (fun j => a i j * d j) - δ := hqe.symm
   have : cnt (fun i => decide (sm n (fun j => a i j * (q * y j + p * d j)) ≠ q * N + p * δ)) m < cnt (fun i => decide (sm n (fun j => a i j * y j) ≠ N)) m := by
    refine yW s2 ⟨i, hi, decide_eq_false ?_, decide_eq_true ?_⟩
    ·intro z
     apply z
     rw [g i, e1, e2]
     grind
    ·intro z
     rw [ht i hi z] at h
     omega
   omega
 ·show q * y j + p * d j = 0
  rw [e, hs j hj e]
  simp
def wZ (a : Nat -> Nat -> Int) (m n : Nat) (y : Nat -> Int) (N : Int) : Prop :=
 ∀ (d : Nat -> Int) (δ : Int), (∀ j, j < n -> y j = 0 -> d j = 0) -> sm n d = 0 -> (∀ i, i < m -> sm n (fun j => a i j * y j) = N -> sm n (fun j => a i j * d j) = δ) -> ∀ j, j < n -> d j = 0
theorem Fp {a : Nat -> Nat -> Int} {m n : Nat} : ∀ (k : Nat) {y : Nat -> Int} {S N : Int}, todo a m n y N = k -> Pt a m n y S N -> ∃ y' S' N', Pt a m n y' S' N' /\ N' * S <= N * S' /\ wZ a m n y' N' /\ (∀ j, j < n -> y j = 0 -> y' j = 0) /\ ∀ i, i < m -> sm n (fun j => a i j * y j) = N -> sm n (fun j => a i j * y' j) = N' := by
 intro k
 induction k using Nat.strongRecOn with
 | ind k ih =>
  intro y S N hk P
  by_cases hr : wZ a m n y N
  ·exact ⟨y, S, N, P, Int.le_refl _, hr, fun _ _ e => e, fun _ _ e => e⟩
  ·unfold wZ at hr
   obtain ⟨d, hr⟩ := Classical.not_forall.mp hr
   obtain ⟨δ, hr⟩ := Classical.not_forall.mp hr
   obtain ⟨hs, hr⟩ := Classical.not_forall.mp hr
   obtain ⟨h0, hr⟩ := Classical.not_forall.mp hr
   obtain ⟨ht, hr⟩ := Classical.not_forall.mp hr
   obtain ⟨j, hr⟩ := Classical.not_forall.mp hr
   obtain ⟨hj, hne⟩ := Classical.not_forall.mp hr
   have go : ∃ y' S' N', Pt a m n y' S' N' /\ N' * S <= N * S' /\ todo a m n y' N' < todo a m n y N /\ (∀ j, j < n -> y j = 0 -> y' j = 0) /\ ∀ i, i < m -> sm n (fun j => a i j * y j) = N -> sm n (fun j => a i j * y' j) = N' := by
    by_cases hδ : δ <= 0
    ·exact step P hs h0 ⟨j, hj, hne⟩ hδ ht
    ·refine step P (d := fun j => -1 * d j) (δ := -1 * δ) (fun j hj e => by rw [hs j hj e]; rfl) (by rw [sm_mul, h0]; rfl) ⟨j, hj, by omega⟩ (by omega) fun i hi e => ?_
     have e2 : sm n (fun j => a i j * (-1 * d j)) = -1 * sm n (fun j => a i j * d j) := by
      rw [<- sm_mul]
      exact sm_congr fun j _ => by grind
     rw [e2, ht i hi e]
   obtain ⟨y1, S1, N1, P1, l1, t1, u1, w1⟩ := go
   obtain ⟨y2, S2, N2, P2, l2, r2, u2, w2⟩ := ih _ (by omega) rfl P1
   refine ⟨y2, S2, N2, P2, ?_, r2, fun j hj e => u2 j hj (u1 j hj e), fun i hi e => w2 i hi (w1 i hi e)⟩
   have p1 := P1.pos
   have a1 : N2 * S1 * S <= N1 * S2 * S := Int.mul_le_mul_of_nonneg_right l2 (Int.le_of_lt P.pos)
   have a2 : N1 * S * S2 <= N * S1 * S2 := Int.mul_le_mul_of_nonneg_right l1 (Int.le_of_lt P2.pos)
   have a3 : N2 * S * S1 <= N * S2 * S1 := by grind
   exact Int.le_of_mul_le_mul_right a3 p1
end Gm
set_option Elab.async false
set_option linter.all false
namespace Gm
inductive Cone (Cs : List (Nat -> Int)) : (Nat -> Int) -> Prop
 | base {c} : c ∈ Cs -> Cone Cs c
 | comb {u v : Nat -> Int} {p q : Int} : Cone Cs u -> Cone Cs v -> 0 < p -> 0 <= q -> Cone Cs (fun i => p * u i + q * v i)
theorem Cone.trans {Cs Ds : List (Nat -> Int)} (h : ∀ c ∈ Ds, Cone Cs c) {v : Nat -> Int} (hv : Cone Ds v) : Cone Cs v := by
 induction hv with
 | base hc => exact h _ hc
 | comb _ _ hp hq ih1 ih2 => exact .comb ih1 ih2 hp hq
theorem Cone.le {Cs : List (Nat -> Int)} {i : Nat} (h : ∀ c ∈ Cs, c i <= 0) {v : Nat -> Int} (hv : Cone Cs v) : v i <= 0 := by
 induction hv with
 | base hc => exact h _ hc
 | @comb u v p q _ _ hp hq ih1 ih2 =>
  show p * u i + q * v i <= 0
  have h1 : p * u i <= 0 := Int.mul_nonpos_of_nonneg_of_nonpos (Int.le_of_lt hp) ih1
  have h2 : q * v i <= 0 := Int.mul_nonpos_of_nonneg_of_nonpos hq ih2
  omega
theorem Cone.weights {n : Nat} {a : Nat -> Nat -> Int} {v : Nat -> Int} (hv : Cone ((List.range n).map fun j i => a i j) v) : ∃ y : Nat -> Int, (∀ j, j < n -> 0 <= y j) /\ (∃ j, j < n /\ 0 < y j) /\ ∀ i, v i = sm n fun j => a i j * y j := by
 induction hv with
 | base hc =>
  obtain ⟨k, hk, rfl⟩ := List.mem_map.mp hc
  have hk := List.mem_range.mp hk
  refine ⟨fun j => if j = k then 1 else 0, fun j _ => by show (0 : Int) <= if j = k then 1 else 0; split <;> decide, ⟨k, hk, by simp⟩, fun i => ?_⟩
  have e : sm n (fun j => a i j * if j = k then 1 else 0) = sm n fun j => if j = k then a i k else 0 := sm_congr fun j _ => by
   by_cases h : j = k
   ·simp [h]
   ·simp [h]
  rw [e, sm_single, if_pos hk]
 | @comb u w p q _ _ hp hq ih1 ih2 =>
  obtain ⟨y, h1, ⟨k, hk, hk0⟩, h3⟩ := ih1
  obtain ⟨z, g1, _, g3⟩ := ih2
  refine ⟨fun j => p * y j + q * z j, fun j hj => ?_, ⟨k, hk, ?_⟩, fun i => ?_⟩
  ·exact Int.add_nonneg (Int.mul_nonneg (Int.le_of_lt hp) (h1 j hj)) (Int.mul_nonneg hq (g1 j hj))
  ·have a1 := Int.mul_pos hp hk0
   have a2 := Int.mul_nonneg hq (g1 k hk)
   show 0 < p * y k + q * z k
   omega
  ·rw [Bq, <- h3, <- g3]
theorem zG (f : Nat -> Int) : ∀ m, ∃ N : Int, 0 < N /\ ∀ i, i < m -> f i < N
 | 0 => ⟨1, by decide, fun i h => by omega⟩
 | m + 1 => by
  obtain ⟨N, h1, h2⟩ := zG f m
  by_cases h : f m < N
  ·exact ⟨N, h1, fun i hi => by
    by_cases e : i = m
    ·rw [e]; exact h
    ·exact h2 i (by omega)⟩
  ·refine ⟨f m + 1, by omega, fun i hi => ?_⟩
   by_cases e : i = m
   ·rw [e]; omega
   ·have := h2 i (by omega)
    omega
theorem Gp (x u v : Nat -> Int) (p q : Int) (m : Nat) : sm m (fun i => x i * (p * u i + q * v i)) = p * sm m (fun i => x i * u i) + q * sm m (fun i => x i * v i) := by
 rw [<- sm_mul, <- sm_mul, <- sm_add]
 exact sm_congr fun j _ => by grind
theorem Gy (m : Nat) : ∀ Cs : List (Nat -> Int), Cs ≠ [] -> (∃ x : Nat -> Int, (∀ i, i < m -> 0 <= x i) /\ (∃ i, i < m /\ 0 < x i) /\ ∀ c ∈ Cs, 0 <= sm m fun i => x i * c i) \/ ∃ v, Cone Cs v /\ ∀ i, i < m -> v i < 0 := by
 induction m with
 | zero =>
  intro Cs h
  obtain ⟨c, hc⟩ := List.exists_mem_of_ne_nil _ h
  exact .inr ⟨c, .base hc, fun i hi => by omega⟩
 | succ m ih =>
  intro Cs hne
  by_cases hk : ∃ c0 ∈ Cs, c0 m < 0
  ·obtain ⟨c0, hc0, hb0⟩ := hk
   let Ds : List (Nat -> Int) := (Cs.filter fun c => decide (c m <= 0)) ++ (Cs.filter fun c => decide (0 < c m)).flatMap fun c => (Cs.filter fun c' => decide (c' m < 0)).map fun c' i => c m * c' i + (- c' m) * c i
   have hD1 : ∀ c ∈ Cs, c m <= 0 -> c ∈ Ds := fun c hc h => List.mem_append_left _ (List.mem_filter.mpr ⟨hc, decide_eq_true h⟩)
   have hD2 : ∀ c ∈ Cs, 0 < c m -> ∀ c' ∈ Cs, c' m < 0 -> (fun i => c m * c' i + (- c' m) * c i) ∈ Ds := fun c hc h c' hc' h' =>
    List.mem_append_right _ (List.mem_flatMap.mpr ⟨c, List.mem_filter.mpr ⟨hc, decide_eq_true h⟩, List.mem_map.mpr ⟨c', List.mem_filter.mpr ⟨hc', decide_eq_true h'⟩, rfl⟩⟩)
   have inD : ∀ d ∈ Ds, Cone Cs d /\ d m <= 0 := by
    intro d hd
    rcases List.mem_append.mp hd with h | h
    ·obtain ⟨h1, h2⟩ := List.mem_filter.mp h
     exact ⟨.base h1, of_decide_eq_true h2⟩
    ·obtain ⟨c, hc, h⟩ := List.mem_flatMap.mp h
     obtain ⟨h1, h2⟩ := List.mem_filter.mp hc
     have h2 := of_decide_eq_true h2
     obtain ⟨c', hc', rfl⟩ := List.mem_map.mp h
     obtain ⟨h3, h4⟩ := List.mem_filter.mp hc'
     have h4 := of_decide_eq_true h4
     refine ⟨.comb (.base h3) (.base h1) h2 (by omega), ?_⟩
     show c m * c' m + (- c' m) * c m <= 0
     grind
   rcases ih Ds (List.ne_nil_of_mem (hD1 c0 hc0 (Int.le_of_lt hb0))) with ⟨x, hx1, ⟨i0, hi0, hx2⟩, hx3⟩ | ⟨v, hv, hneg⟩
   ·left
    have key : ∃ p q : Int, 0 <= p /\ 0 < q /\ ∀ c ∈ Cs, 0 <= q * sm m (fun i => x i * c i) + p * c m := by
     by_cases hpos : ∃ c ∈ Cs, 0 < c m
     ·obtain ⟨c1, hc1, hb1⟩ := hpos
      obtain ⟨cs, hcs, hmin⟩ := lU (fun c : Nat -> Int => sm m fun i => x i * c i) (fun c => c m) (Cs.filter fun c => decide (0 < c m)) (List.ne_nil_of_mem (List.mem_filter.mpr ⟨hc1, decide_eq_true hb1⟩)) fun c hc => of_decide_eq_true (List.mem_filter.mp hc).2
      obtain ⟨hcs1, hcs2⟩ := List.mem_filter.mp hcs
      have hcs2 := of_decide_eq_true hcs2
      have hmin' : ∀ c ∈ Cs, 0 < c m -> sm m (fun i => x i * cs i) * c m <= sm m (fun i => x i * c i) * cs m := fun c hc h => hmin c (List.mem_filter.mpr ⟨hc, decide_eq_true h⟩)
      by_cases hs : 0 <= sm m (fun i => x i * cs i)
      ·refine ⟨0, 1, Int.le_refl _, by decide, fun c hc => ?_⟩
       have : 0 <= sm m (fun i => x i * c i) := by
        by_cases hb : 0 < c m
        ·have h1 := hmin' c hc hb
         have h2 : 0 <= sm m (fun i => x i * cs i) * c m := Int.mul_nonneg hs (Int.le_of_lt hb)
         have h3 : 0 <= sm m (fun i => x i * c i) * cs m := by omega
         refine Classical.byContradiction fun hc => ?_
         have := Int.mul_neg_of_neg_of_pos (show sm m (fun i => x i * c i) < 0 by omega) hcs2
         omega
        ·exact hx3 c (hD1 c hc (by omega))
       omega
      ·refine ⟨- sm m (fun i => x i * cs i), cs m, by omega, hcs2, fun c hc => ?_⟩
       by_cases hb : 0 < c m
       ·have h1 := hmin' c hc hb
        grind
       ·by_cases hz : c m = 0
        ·have h1 := hx3 c (hD1 c hc (by omega))
         rw [hz]
         have := Int.mul_nonneg (Int.le_of_lt hcs2) h1
         omega
        ·have h1 := hx3 _ (hD2 cs hcs1 hcs2 c hc (by omega))
         rw [Gp] at h1
         grind
     ·refine ⟨0, 1, Int.le_refl _, by decide, fun c hc => ?_⟩
      have h : c m <= 0 := Classical.byContradiction fun h => hpos ⟨c, hc, by omega⟩
      have := hx3 c (hD1 c hc h)
      omega
    obtain ⟨p, q, hp, hq, hall⟩ := key
    refine ⟨fun i => if i = m then p else q * x i, fun i hi => ?_, ⟨i0, by omega, ?_⟩, fun c hc => ?_⟩
    ·show 0 <= if i = m then p else q * x i
     split
     ·exact hp
     ·exact Int.mul_nonneg (Int.le_of_lt hq) (hx1 i (by omega))
    ·show 0 < if i0 = m then p else q * x i0
     rw [if_neg (by omega)]
     exact Int.mul_pos hq hx2
    ·show 0 <= sm m (fun i => (if i = m then p else q * x i) * c i) + (if m = m then p else q * x m) * c m
     rw [if_pos rfl]
     have e : sm m (fun i => (if i = m then p else q * x i) * c i) = q * sm m (fun i => x i * c i) := by
      rw [<- sm_mul]
      refine sm_congr fun i hi => ?_
      rw [if_neg (by omega), Int.mul_assoc]
     rw [e]
     exact hall c hc
   ·right
    obtain ⟨N, hN, hb⟩ := zG c0 m
    have hv' : Cone Cs v := hv.trans fun d hd => (inD d hd).1
    have hvm : v m <= 0 := hv.le fun d hd => (inD d hd).2
    refine ⟨_, .comb hv' (.base hc0) hN (show (0 : Int) <= 1 by decide), fun i hi => ?_⟩
    show N * v i + 1 * c0 i < 0
    by_cases e : i = m
    ·rw [e]
     have : N * v m <= 0 := Int.mul_nonpos_of_nonneg_of_nonpos (Int.le_of_lt hN) hvm
     omega
    ·have h1 := hneg i (by omega)
     have h2 := hb i (by omega)
     have h3 : N * v i <= N * (-1) := Int.mul_le_mul_of_nonneg_left (by omega) (Int.le_of_lt hN)
     omega
  ·left
   refine ⟨fun i => if i = m then 1 else 0, fun i _ => by show (0 : Int) <= if i = m then 1 else 0; split <;> decide, ⟨m, by omega, by simp⟩, fun c hc => ?_⟩
   have e : sm (m + 1) (fun i => (if i = m then 1 else 0) * c i) = sm (m + 1) fun i => if i = m then c m else 0 := sm_congr fun i _ => by
    by_cases h : i = m
    ·simp [h]
    ·simp [h]
   rw [e, sm_single, if_pos (by omega)]
   exact Classical.byContradiction fun h => hk ⟨c, hc, by omega⟩
theorem alt (a : Nat -> Nat -> Int) (m n : Nat) (hn : 0 < n) :
  (∃ x : Nat -> Int, (∀ i, i < m -> 0 <= x i) /\ (∃ i, i < m /\ 0 < x i) /\ ∀ j, j < n -> 0 <= sm m fun i => x i * a i j) \/ ∃ y : Nat -> Int, (∀ j, j < n -> 0 <= y j) /\ (∃ j, j < n /\ 0 < y j) /\ ∀ i, i < m -> sm n (fun j => a i j * y j) < 0 := by
 have hne : (List.range n).map (fun j i => a i j) ≠ [] := fun e => by
  have := congrArg List.length e
  simp at this
  omega
 rcases Gy m _ hne with ⟨x, h1, h2, h3⟩ | ⟨v, hv, hneg⟩
 ·exact .inl ⟨x, h1, h2, fun j hj => h3 _ (List.mem_map.mpr ⟨j, List.mem_range.mpr hj, rfl⟩)⟩
 ·obtain ⟨y, h1, h2, h3⟩ := hv.weights
  exact .inr ⟨y, h1, h2, fun i hi => by rw [<- h3]; exact hneg i hi⟩
end Gm
set_option Elab.async false
set_option linter.all false
namespace Gm
def cut (r : List Int) (c : Nat) : List Int := r.take c ++ r.drop (c + 1)
def sg (c : Nat) : Int := if c % 2 = 0 then 1 else -1
def detN : Nat -> List (List Int) -> Int
 | 0, _ => 1
 | n + 1, M => sm (n + 1) fun c => sg c * (M.getD 0 []).getD c 0 * detN n ((M.drop 1).map fun r => cut r c)
def putC (r : List Int) (c : Nat) (x : Int) : List Int := r.take c ++ [x] ++ r.drop (c + 1)
def withC (M : List (List Int)) (c : Nat) (xs : List Int) : List (List Int) := List.zipWith (fun r x => putC r c x) M xs
abbrev cell (U : List (List Int)) (i j : Nat) : Int := (U.getD i []).getD j 0
def eqsM (U : List (List Int)) (R C : List Nat) : List (List Int) := List.replicate C.length 1 :: (R.drop 1).map fun i => C.map fun j => cell U i j - cell U (R.headD 0) j
def numsM (k : Nat) : List Int := 1 :: List.replicate (k - 1) 0
def wholeM (U : List (List Int)) (R C : List Nat) : Int := detN C.length (eqsM U R C)
def cI (U : List (List Int)) (R C : List Nat) (t : Nat) : Int := detN C.length (withC (eqsM U R C) t (numsM C.length))
def d2 (a b c d : Int) : Int := a * d - b * c
def d3 (a b c d e f g h i : Int) : Int := a * d2 e f h i - b * d2 d f g i + c * d2 d e g h
theorem Ju (x : Int) : detN 1 [[x]] = x := by simp [detN, sm, sg]
theorem vo (a b c d : Int) : detN 2 [[a, b], [c, d]] = d2 a b c d := by simp [detN, sm, sg, cut, d2]; grind
theorem oM (a b c d e f g h i : Int) : detN 3 [[a, b, c], [d, e, f], [g, h, i]] = d3 a b c d e f g h i := by
 have e : detN 3 [[a, b, c], [d, e, f], [g, h, i]] = 0 + 1 * a * detN 2 [[e, f], [h, i]] + (-1) * b * detN 2 [[d, f], [g, i]] + 1 * c * detN 2 [[d, e], [g, h]] := rfl
 rw [e, vo, vo, vo]
 unfold d3
 grind
theorem zH (a1 a2 a3 a4 b1 b2 b3 b4 c1 c2 c3 c4 e1 e2 e3 e4 : Int) : detN 4 [[a1, a2, a3, a4], [b1, b2, b3, b4], [c1, c2, c3, c4], [e1, e2, e3, e4]] =
  a1 * d3 b2 b3 b4 c2 c3 c4 e2 e3 e4 - a2 * d3 b1 b3 b4 c1 c3 c4 e1 e3 e4 + a3 * d3 b1 b2 b4 c1 c2 c4 e1 e2 e4 - a4 * d3 b1 b2 b3 c1 c2 c3 e1 e2 e3 := by
 have e : detN 4 [[a1, a2, a3, a4], [b1, b2, b3, b4], [c1, c2, c3, c4], [e1, e2, e3, e4]] =
  0 + 1 * a1 * detN 3 [[b2, b3, b4], [c2, c3, c4], [e2, e3, e4]] + (-1) * a2 * detN 3 [[b1, b3, b4], [c1, c3, c4], [e1, e3, e4]] + 1 * a3 * detN 3 [[b1, b2, b4], [c1, c2, c4], [e1, e2, e4]] + (-1) * a4 * detN 3 [[b1, b2, b3], [c1, c2, c3], [e1, e2, e3]] := rfl
 rw [e, oM, oM, oM, oM]
 grind
theorem BV {l : List Nat} (h : l.length = 1) : ∃ a, l = [a] := List.length_eq_one_iff.mp h
theorem Fq {l : List Nat} {k : Nat} (h : l.length = k + 1) : ∃ a t, l = a :: t /\ t.length = k := by
 cases l with
 | nil => simp at h
 | cons a t => exact ⟨a, t, rfl, by simpa using h⟩
theorem Cy {l : List Nat} (h : l.length = 2) : ∃ a b, l = [a, b] := by
 obtain ⟨a, t, rfl, ht⟩ := Fq h
 obtain ⟨b, rfl⟩ := BV ht
 exact ⟨a, b, rfl⟩
theorem Bv {l : List Nat} (h : l.length = 3) : ∃ a b c, l = [a, b, c] := by
 obtain ⟨a, t, rfl, ht⟩ := Fq h
 obtain ⟨b, c, rfl⟩ := Cy ht
 exact ⟨a, b, c, rfl⟩
theorem Fl {l : List Nat} (h : l.length = 4) : ∃ a b c d, l = [a, b, c, d] := by
 obtain ⟨a, t, rfl, ht⟩ := Fq h
 obtain ⟨b, c, d, rfl⟩ := Bv ht
 exact ⟨a, b, c, d, rfl⟩
theorem CQ {R C : List Nat} (h : R.length = C.length) (k : C.length = 1) : ∃ r c, R = [r] /\ C = [c] := by
 obtain ⟨c, rfl⟩ := BV k
 obtain ⟨r, rfl⟩ := BV h
 exact ⟨r, c, rfl, rfl⟩
theorem DW {R C : List Nat} (h : R.length = C.length) (k : C.length = 2) : ∃ r s c d, R = [r, s] /\ C = [c, d] := by
 obtain ⟨c, d, rfl⟩ := Cy k
 obtain ⟨r, s, rfl⟩ := Cy h
 exact ⟨r, s, c, d, rfl, rfl⟩
theorem DY {R C : List Nat} (h : R.length = C.length) (k : C.length = 3) : ∃ r s t c d e, R = [r, s, t] /\ C = [c, d, e] := by
 obtain ⟨c, d, e, rfl⟩ := Bv k
 obtain ⟨r, s, t, rfl⟩ := Bv h
 exact ⟨r, s, t, c, d, e, rfl, rfl⟩
theorem Ej {R C : List Nat} (h : R.length = C.length) (k : C.length = 4) : ∃ r s t u c d e f, R = [r, s, t, u] /\ C = [c, d, e, f] := by
 obtain ⟨c, d, e, f, rfl⟩ := Fl k
 obtain ⟨r, s, t, u, rfl⟩ := Fl h
 exact ⟨r, s, t, u, c, d, e, f, rfl, rfl⟩
section
variable (U : List (List Int))
theorem xg (r c : Nat) : wholeM U [r] [c] = 1 := Ju 1
theorem whole2 (r s c d : Nat) : wholeM U [r, s] [c, d] = d2 1 1 (cell U s c - cell U r c) (cell U s d - cell U r d) := vo ..
theorem yc (r s t c d e : Nat) : wholeM U [r, s, t] [c, d, e] = d3 1 1 1 (cell U s c - cell U r c) (cell U s d - cell U r d) (cell U s e - cell U r e) (cell U t c - cell U r c) (cell U t d - cell U r d) (cell U t e - cell U r e) := oM ..
theorem part1 (r c : Nat) : cI U [r] [c] 0 = 1 := Ju 1
theorem part20 (r s c d : Nat) : cI U [r, s] [c, d] 0 = d2 1 1 0 (cell U s d - cell U r d) := vo ..
theorem part21 (r s c d : Nat) : cI U [r, s] [c, d] 1 = d2 1 1 (cell U s c - cell U r c) 0 := vo ..
theorem Fg (r s t c d e : Nat) : cI U [r, s, t] [c, d, e] 0 = d3 1 1 1 0 (cell U s d - cell U r d) (cell U s e - cell U r e) 0 (cell U t d - cell U r d) (cell U t e - cell U r e) := oM ..
theorem DP (r s t c d e : Nat) : cI U [r, s, t] [c, d, e] 1 = d3 1 1 1 (cell U s c - cell U r c) 0 (cell U s e - cell U r e) (cell U t c - cell U r c) 0 (cell U t e - cell U r e) := oM ..
theorem Dk (r s t c d e : Nat) : cI U [r, s, t] [c, d, e] 2 = d3 1 1 1 (cell U s c - cell U r c) (cell U s d - cell U r d) 0 (cell U t c - cell U r c) (cell U t d - cell U r d) 0 := oM ..
theorem xJ (r s t u c d e f : Nat) : wholeM U [r, s, t, u] [c, d, e, f] = 1 * d3 (cell U s d - cell U r d) (cell U s e - cell U r e) (cell U s f - cell U r f) (cell U t d - cell U r d) (cell U t e - cell U r e) (cell U t f - cell U r f) (cell U u d - cell U r d) (cell U u e - cell U r e) (cell U u f - cell U r f) - 1 * d3 (cell U s c - cell U r c) (cell U s e - cell U r e) (cell U s f - cell U r f) (cell U t c - cell U r c) (cell U t e - cell U r e) (cell U t f - cell U r f) (cell U u c - cell U r c) (cell U u e - cell U r e) (cell U u f - cell U r f) + 1 * d3 (cell U s c - cell U r c) (cell U s d - cell U r d) (cell U s f - cell U r f) (cell U t c - cell U r c) (cell U t d - cell U r d) (cell U t f - cell U r f) (cell U u c - cell U r c) (cell U u d - cell U r d) (cell U u f - cell U r f) - 1 * d3 (cell U s c - cell U r c) (cell U s d - cell U r d) (cell U s e - cell U r e) (cell U t c - cell U r c) (cell U t d - cell U r d) (cell U t e - cell U r e) (cell U u c - cell U r c) (cell U u d - cell U r d) (cell U u e - cell U r e) := zH ..
theorem Dh (r s t u c d e f : Nat) : cI U [r, s, t, u] [c, d, e, f] 0 = 1 * d3 (cell U s d - cell U r d) (cell U s e - cell U r e) (cell U s f - cell U r f) (cell U t d - cell U r d) (cell U t e - cell U r e) (cell U t f - cell U r f) (cell U u d - cell U r d) (cell U u e - cell U r e) (cell U u f - cell U r f) - 1 * d3 0 (cell U s e - cell U r e) (cell U s f - cell U r f) 0 (cell U t e - cell U r e) (cell U t f - cell U r f) 0 (cell U u e - cell U r e) (cell U u f - cell U r f) + 1 * d3 0 (cell U s d - cell U r d) (cell U s f - cell U r f) 0 (cell U t d - cell U r d) (cell U t f - cell U r f) 0 (cell U u d - cell U r d) (cell U u f - cell U r f) - 1 * d3 0 (cell U s d - cell U r d) (cell U s e - cell U r e) 0 (cell U t d - cell U r d) (cell U t e - cell U r e) 0 (cell U u d - cell U r d) (cell U u e - cell U r e) := zH ..
theorem Fb (r s t u c d e f : Nat) : cI U [r, s, t, u] [c, d, e, f] 1 = 1 * d3 0 (cell U s e - cell U r e) (cell U s f - cell U r f) 0 (cell U t e - cell U r e) (cell U t f - cell U r f) 0 (cell U u e - cell U r e) (cell U u f - cell U r f) - 1 * d3 (cell U s c - cell U r c) (cell U s e - cell U r e) (cell U s f - cell U r f) (cell U t c - cell U r c) (cell U t e - cell U r e) (cell U t f - cell U r f) (cell U u c - cell U r c) (cell U u e - cell U r e) (cell U u f - cell U r f) + 1 * d3 (cell U s c - cell U r c) 0 (cell U s f - cell U r f) (cell U t c - cell U r c) 0 (cell U t f - cell U r f) (cell U u c - cell U r c) 0 (cell U u f - cell U r f) - 1 * d3 (cell U s c - cell U r c) 0 (cell U s e - cell U r e) (cell U t c - cell U r c) 0 (cell U t e - cell U r e) (cell U u c - cell U r c) 0 (cell U u e - cell U r e) := zH ..
theorem El (r s t u c d e f : Nat) : cI U [r, s, t, u] [c, d, e, f] 2 = 1 * d3 (cell U s d - cell U r d) 0 (cell U s f - cell U r f) (cell U t d - cell U r d) 0 (cell U t f - cell U r f) (cell U u d - cell U r d) 0 (cell U u f - cell U r f) - 1 * d3 (cell U s c - cell U r c) 0 (cell U s f - cell U r f) (cell U t c - cell U r c) 0 (cell U t f - cell U r f) (cell U u c - cell U r c) 0 (cell U u f - cell U r f) + 1 * d3 (cell U s c - cell U r c) (cell U s d - cell U r d) (cell U s f - cell U r f) (cell U t c - cell U r c) (cell U t d - cell U r d) (cell U t f - cell U r f) (cell U u c - cell U r c) (cell U u d - cell U r d) (cell U u f - cell U r f) - 1 * d3 (cell U s c - cell U r c) (cell U s d - cell U r d) 0 (cell U t c - cell U r c) (cell U t d - cell U r d) 0 (cell U u c - cell U r c) (cell U u d - cell U r d) 0 := zH ..
theorem CN (r s t u c d e f : Nat) : cI U [r, s, t, u] [c, d, e, f] 3 = 1 * d3 (cell U s d - cell U r d) (cell U s e - cell U r e) 0 (cell U t d - cell U r d) (cell U t e - cell U r e) 0 (cell U u d - cell U r d) (cell U u e - cell U r e) 0 - 1 * d3 (cell U s c - cell U r c) (cell U s e - cell U r e) 0 (cell U t c - cell U r c) (cell U t e - cell U r e) 0 (cell U u c - cell U r c) (cell U u e - cell U r e) 0 + 1 * d3 (cell U s c - cell U r c) (cell U s d - cell U r d) 0 (cell U t c - cell U r c) (cell U t d - cell U r d) 0 (cell U u c - cell U r c) (cell U u d - cell U r d) 0 - 1 * d3 (cell U s c - cell U r c) (cell U s d - cell U r d) (cell U s e - cell U r e) (cell U t c - cell U r c) (cell U t d - cell U r d) (cell U t e - cell U r e) (cell U u c - cell U r c) (cell U u d - cell U r d) (cell U u e - cell U r e) := zH ..
end
def partsM (U : List (List Int)) (R C : List Nat) : List Int := (List.range C.length).map (cI U R C)
theorem Dw (U : List (List Int)) {R C : List Nat} (h : R.length = C.length) (h0 : 0 < C.length) (h4 : C.length <= 4) : (partsM U R C).sum = wholeM U R C := by
 have hk : C.length = 1 \/ C.length = 2 \/ C.length = 3 \/ C.length = 4 := by omega
 rcases hk with k | k | k | k
 ·obtain ⟨r, c, rfl, rfl⟩ := CQ h k
  show cI U [r] [c] 0 + 0 = _
  rw [part1, xg]; rfl
 ·obtain ⟨r, s, c, d, rfl, rfl⟩ := DW h k
  show cI U [r, s] [c, d] 0 + (cI U [r, s] [c, d] 1 + 0) = _
  rw [part20, part21, whole2]
  unfold d2; grind
 ·obtain ⟨r, s, t, c, d, e, rfl, rfl⟩ := DY h k
  show cI U [r, s, t] [c, d, e] 0 + (cI U [r, s, t] [c, d, e] 1 + (cI U [r, s, t] [c, d, e] 2 + 0)) = _
  rw [Fg, DP, Dk, yc]
  unfold d3 d2; grind
 ·obtain ⟨r, s, t, u, c, d, e, f, rfl, rfl⟩ := Ej h k
  show cI U [r, s, t, u] [c, d, e, f] 0 + (cI U [r, s, t, u] [c, d, e, f] 1 + (cI U [r, s, t, u] [c, d, e, f] 2 + (cI U [r, s, t, u] [c, d, e, f] 3 + 0))) = _
  rw [xJ, Dh, Fb, El, CN]
  generalize cell U s c - cell U r c = b1
  generalize cell U s d - cell U r d = b2
  generalize cell U s e - cell U r e = b3
  generalize cell U s f - cell U r f = b4
  generalize cell U t c - cell U r c = c1
  generalize cell U t d - cell U r d = c2
  generalize cell U t e - cell U r e = c3
  generalize cell U t f - cell U r f = c4
  generalize cell U u c - cell U r c = e1
  generalize cell U u d - cell U r d = e2
  generalize cell U u e - cell U r e = e3
  generalize cell U u f - cell U r f = e4
  unfold d3 d2
  grind
def wsum (f : Nat -> Int) : List Nat -> List Int -> Int
 | c :: C, p :: ps => f c * p + wsum f C ps
 | _, _ => 0
theorem Ip (U : List (List Int)) {R C : List Nat} {ps : List Int} {S : Int} (h : R.length = C.length) (h0 : 0 < C.length) (h4 : C.length <= 4) (hp : ps.length = C.length) (hS : ps.sum = S)
  (he : ∀ i ∈ R, wsum (cell U i) C ps = wsum (cell U (R.headD 0)) C ps) : ∀ t, t < C.length -> wholeM U R C * ps.getD t 0 = S * cI U R C t := by
 have hk : C.length = 1 \/ C.length = 2 \/ C.length = 3 \/ C.length = 4 := by omega
 have lenI : ∀ {l : List Int} {k : Nat}, l.length = k + 1 -> ∃ a t, l = a :: t /\ t.length = k := by
  intro l k h
  cases l with
  | nil => simp at h
  | cons a t => exact ⟨a, t, rfl, by simpa using h⟩
 rcases hk with k | k | k | k
 ·obtain ⟨r, c, rfl, rfl⟩ := CQ h k
  obtain ⟨p, t, rfl, ht⟩ := lenI hp
  obtain rfl := List.eq_nil_of_length_eq_zero ht
  intro t ht
  have : t = 0 := by simp at ht; omega
  subst this
  rw [part1, xg]
  simp at hS ⊢
  exact hS
 ·obtain ⟨r, s, c, d, rfl, rfl⟩ := DW h k
  obtain ⟨p, l1, rfl, k1⟩ := lenI hp
  obtain ⟨q, l2, rfl, k2⟩ := lenI k1
  obtain rfl := List.eq_nil_of_length_eq_zero k2
  have e1 := he s (by simp)
  simp only [wsum, List.headD_cons] at e1
  simp only [List.sum_cons, List.sum_nil] at hS
  intro t ht
  have ht : t = 0 \/ t = 1 := by simp at ht; omega
  rcases ht with rfl | rfl
  ·rw [part20, whole2]
   show _ * p = _
   unfold d2; grind
  ·rw [part21, whole2]
   show _ * q = _
   unfold d2; grind
 ·obtain ⟨r, s, t, c, d, e, rfl, rfl⟩ := DY h k
  obtain ⟨p, l1, rfl, k1⟩ := lenI hp
  obtain ⟨q, l2, rfl, k2⟩ := lenI k1
  obtain ⟨u, l3, rfl, k3⟩ := lenI k2
  obtain rfl := List.eq_nil_of_length_eq_zero k3
  have e1 := he s (by simp)
  have e2 := he t (by simp)
  simp only [wsum, List.headD_cons] at e1 e2
  simp only [List.sum_cons, List.sum_nil] at hS
  intro x hx
  have hx : x = 0 \/ x = 1 \/ x = 2 := by simp at hx; omega
  have f1 : (cell U s c - cell U r c) * p + (cell U s d - cell U r d) * q + (cell U s e - cell U r e) * u = 0 := by grind
  have f2 : (cell U t c - cell U r c) * p + (cell U t d - cell U r d) * q + (cell U t e - cell U r e) * u = 0 := by grind
  rw [yc]
  rcases hx with rfl | rfl | rfl
  ·rw [Fg]
   show _ * p = _
   generalize cell U s c - cell U r c = b1 at f1 ⊢
   generalize cell U s d - cell U r d = b2 at f1 ⊢
   generalize cell U s e - cell U r e = b3 at f1 ⊢
   generalize cell U t c - cell U r c = c1 at f2 ⊢
   generalize cell U t d - cell U r d = c2 at f2 ⊢
   generalize cell U t e - cell U r e = c3 at f2 ⊢
   unfold d3 d2; grind
  ·rw [DP]
   show _ * q = _
   generalize cell U s c - cell U r c = b1 at f1 ⊢
   generalize cell U s d - cell U r d = b2 at f1 ⊢
   generalize cell U s e - cell U r e = b3 at f1 ⊢
   generalize cell U t c - cell U r c = c1 at f2 ⊢
   generalize cell U t d - cell U r d = c2 at f2 ⊢
   generalize cell U t e - cell U r e = c3 at f2 ⊢
   unfold d3 d2; grind
  ·rw [Dk]
   show _ * u = _
   generalize cell U s c - cell U r c = b1 at f1 ⊢
   generalize cell U s d - cell U r d = b2 at f1 ⊢
   generalize cell U s e - cell U r e = b3 at f1 ⊢
   generalize cell U t c - cell U r c = c1 at f2 ⊢
   generalize cell U t d - cell U r d = c2 at f2 ⊢
   generalize cell U t e - cell U r e = c3 at f2 ⊢
   unfold d3 d2; grind
 ·obtain ⟨r, s, t, u, c, d, e, f, rfl, rfl⟩ := Ej h k
  obtain ⟨p1, l1, rfl, k1⟩ := lenI hp
  obtain ⟨p2, l2, rfl, k2⟩ := lenI k1
  obtain ⟨p3, l3, rfl, k3⟩ := lenI k2
  obtain ⟨p4, l4, rfl, k4⟩ := lenI k3
  obtain rfl := List.eq_nil_of_length_eq_zero k4
  have g1 := he s (by simp)
  have g2 := he t (by simp)
  have g3 := he u (by simp)
  simp only [wsum, List.headD_cons] at g1 g2 g3
  simp only [List.sum_cons, List.sum_nil] at hS
  have f1 : (cell U s c - cell U r c) * p1 + (cell U s d - cell U r d) * p2 + (cell U s e - cell U r e) * p3 + (cell U s f - cell U r f) * p4 = 0 := by grind
  have f2 : (cell U t c - cell U r c) * p1 + (cell U t d - cell U r d) * p2 + (cell U t e - cell U r e) * p3 + (cell U t f - cell U r f) * p4 = 0 := by grind
  have f3 : (cell U u c - cell U r c) * p1 + (cell U u d - cell U r d) * p2 + (cell U u e - cell U r e) * p3 + (cell U u f - cell U r f) * p4 = 0 := by grind
  have hS' : p1 + p2 + p3 + p4 = S := by omega
  clear he g1 g2 g3
  intro x hx
  have hx : x = 0 \/ x = 1 \/ x = 2 \/ x = 3 := by simp at hx; omega
  rw [xJ]
  rcases hx with rfl | rfl | rfl | rfl
  all_goals
   first
    | (rw [Dh]; show _ * p1 = _)
    | (rw [Fb]; show _ * p2 = _)
    | (rw [El]; show _ * p3 = _)
    | (rw [CN]; show _ * p4 = _)
  all_goals
   clear h h0 hx lenI h4 hp hS k k1 k2 k3 k4
   generalize cell U s c - cell U r c = b1 at f1 ⊢
   generalize cell U s d - cell U r d = b2 at f1 ⊢
   generalize cell U s e - cell U r e = b3 at f1 ⊢
   generalize cell U s f - cell U r f = b4 at f1 ⊢
   generalize cell U t c - cell U r c = c1 at f2 ⊢
   generalize cell U t d - cell U r d = c2 at f2 ⊢
   generalize cell U t e - cell U r e = c3 at f2 ⊢
   generalize cell U t f - cell U r f = c4 at f2 ⊢
   generalize cell U u c - cell U r c = e1 at f3 ⊢
   generalize cell U u d - cell U r d = e2 at f3 ⊢
   generalize cell U u e - cell U r e = e3 at f3 ⊢
   generalize cell U u f - cell U r f = e4 at f3 ⊢
   unfold d3 d2
   grind
end Gm
set_option Elab.async false
set_option linter.all false
namespace Gm
def chM : Nat -> List (List Nat)
 | 0 => [[]]
 | n + 1 => chM n ++ (chM n).map fun c => c ++ [n]
theorem mem_chM : ∀ {m : Nat} {R : List Nat}, R.Sublist (List.range m) ↔ R ∈ chM m
 | 0, R => by
  show R.Sublist [] ↔ R ∈ [[]]
  rw [List.sublist_nil, List.mem_singleton]
 | m + 1, R => by
  rw [List.range_succ, List.sublist_append_iff]
  show _ ↔ R ∈ chM m ++ (chM m).map fun c => c ++ [m]
  rw [List.mem_append, List.mem_map]
  constructor
  ·rintro ⟨R1, R2, rfl, h1, h2⟩
   have h1 := mem_chM.mp h1
   cases h2 with
   | cons _ h =>
    rw [List.sublist_nil.mp h, List.append_nil]; exact .inl h1
   | cons_cons _ h =>
    rw [List.sublist_nil.mp h]; exact .inr ⟨R1, h1, rfl⟩
  ·rintro (h | ⟨R1, h, rfl⟩)
   ·exact ⟨R, [], by simp, mem_chM.mpr h, List.nil_sublist _⟩
   ·exact ⟨R1, [m], rfl, mem_chM.mpr h, List.Sublist.refl _⟩
def yOf (C : List Nat) (ps : List Int) (j : Nat) : Int := wsum (fun c => if c = j then 1 else 0) C ps
theorem yOf_cons (c : Nat) (C : List Nat) (p : Int) (ps : List Int) (j : Nat) : yOf (c :: C) (p :: ps) j = (if j = c then p else 0) + yOf C ps j := by
 show (if c = j then (1 : Int) else 0) * p + yOf C ps j = _
 by_cases h : j = c
 ·rw [if_pos h, if_pos h.symm]; omega
 ·rw [if_neg h, if_neg fun e => h e.symm]; omega
theorem ir (f : Nat -> Int) (ps : List Int) : wsum f [] ps = 0 := by cases ps <;> rfl
theorem lr (f : Nat -> Int) (C : List Nat) : wsum f C [] = 0 := by cases C <;> rfl
theorem oX (f : Nat -> Int) (n : Nat) : ∀ (C : List Nat) (ps : List Int), (∀ c ∈ C, c < n) -> sm n (fun j => f j * yOf C ps j) = wsum f C ps
 | [], ps, _ => by
  have e : sm n (fun j => f j * yOf [] ps j) = sm n fun _ => 0 := sm_congr fun j _ => by
   unfold yOf
   rw [ir]; simp
  rw [e, sm_zero, ir]
 | c :: C, [], _ => by
  have e : sm n (fun j => f j * yOf (c :: C) [] j) = sm n fun _ => 0 := sm_congr fun j _ => by
   unfold yOf
   rw [lr]; simp
  rw [e, sm_zero, lr]
 | c :: C, p :: ps, h => by
  have e : sm n (fun j => f j * yOf (c :: C) (p :: ps) j) = sm n (fun j => (if j = c then f c * p else 0) + f j * yOf C ps j) := sm_congr fun j _ => by
   rw [yOf_cons, Int.mul_add]
   by_cases hj : j = c
   ·rw [if_pos hj, if_pos hj, hj]
   ·rw [if_neg hj, if_neg hj, Int.mul_zero]
  rw [e, sm_add, sm_single, if_pos (h c (by simp)), oX f n C ps fun x hx => h x (by simp [hx])]
  rfl
theorem xU : ∀ (C : List Nat) (ps : List Int), ps.length = C.length -> wsum (fun _ => 1) C ps = ps.sum
 | [], [], _ => rfl
 | c :: C, p :: ps, h => by
  show 1 * p + wsum (fun _ => 1) C ps = _
  rw [xU C ps (by simpa using h), List.sum_cons]; omega
 | [], _ :: _, h => by simp at h
 | _ :: _, [], h => by simp at h
theorem yOf_sum {n : Nat} {C : List Nat} {ps : List Int} (h : ∀ c ∈ C, c < n) (hl : ps.length = C.length) : sm n (yOf C ps) = ps.sum := by
 have := oX (fun _ => 1) n C ps h
 rw [xU C ps hl] at this
 rw [<- this]
 exact sm_congr fun j _ => by simp
theorem yOf_out : ∀ {C : List Nat} {ps : List Int} {j : Nat}, j ∉ C -> yOf C ps j = 0
 | [], ps, j, _ => ir _ _
 | c :: C, [], j, _ => lr _ _
 | c :: C, p :: ps, j, h => by
  rw [yOf_cons, if_neg fun e => h (by simp [e]), yOf_out fun q => h (by simp [q])]; rfl
theorem E_ : ∀ {C : List Nat} {ps : List Int}, C.Nodup -> ps.length = C.length -> ∀ t, t < C.length -> yOf C ps (C.getD t 0) = ps.getD t 0
 | [], _, _, _, t, h => by simp at h
 | c :: C, [], _, h, t, _ => by simp at h
 | c :: C, p :: ps, hn, hl, 0, _ => by
  show yOf (c :: C) (p :: ps) c = p
  rw [yOf_cons, if_pos rfl, yOf_out (List.nodup_cons.mp hn).1]; omega
 | c :: C, p :: ps, hn, hl, t + 1, h => by
  show yOf (c :: C) (p :: ps) (C.getD t 0) = ps.getD t 0
  have ht : t < C.length := by simpa using h
  have hm : C.getD t 0 ∈ C := by
   rw [List.getD_eq_getElem?_getD, List.getElem?_eq_getElem ht]
   exact List.getElem_mem ht
  rw [yOf_cons, if_neg fun e => (List.nodup_cons.mp hn).1 (by rw [<- e]; exact hm), E_ (List.nodup_cons.mp hn).2 (by simpa using hl) t ht]; omega
theorem Ax {y : Nat -> Int} : ∀ {C : List Nat}, C.Nodup -> ∀ j, yOf C (C.map y) j = if j ∈ C then y j else 0
 | [], _, j => by simp [yOf, wsum]
 | c :: C, hn, j => by
  rw [List.map_cons, yOf_cons, Ax (List.nodup_cons.mp hn).2 j]
  by_cases h : j = c
  ·subst h
   rw [if_pos rfl, if_neg (List.nodup_cons.mp hn).1, if_pos (by simp)]; omega
  ·rw [if_neg h]
   by_cases q : j ∈ C
   ·rw [if_pos q, if_pos (by simp [q])]; omega
   ·rw [if_neg q, if_neg (by simp [h, q])]; rfl
theorem JX (l : List (Int × Int)) (h : ∀ u ∈ l, ∀ v ∈ l, u.1 * v.2 - u.2 * v.1 = 0) : ∃ x y : Int, (x ≠ 0 \/ y ≠ 0) /\ ∀ u ∈ l, u.1 * x + u.2 * y = 0 := by
 by_cases hz : ∃ v ∈ l, v.1 ≠ 0 \/ v.2 ≠ 0
 ·obtain ⟨v, hv, hne⟩ := hz
  refine ⟨v.2, - v.1, by omega, fun u hu => ?_⟩
  have := h u hu v hv
  grind
 ·refine ⟨1, 0, .inl (by decide), fun u hu => ?_⟩
  have : u.1 = 0 := Classical.byContradiction fun e => hz ⟨u, hu, .inl e⟩
  rw [this]; simp
theorem mC {x y : Int} (h : x * y = 0) (hx : x ≠ 0) : y = 0 := (Int.mul_eq_zero.mp h).resolve_left hx
theorem Cq (u1 u2 u3 v1 v2 v3 w1 w2 w3 : Int) (h : d3 u1 u2 u3 v1 v2 v3 w1 w2 w3 = 0) :
  ∃ x y z : Int, (x ≠ 0 \/ y ≠ 0 \/ z ≠ 0) /\ u1 * x + u2 * y + u3 * z = 0 /\ v1 * x + v2 * y + v3 * z = 0 /\ w1 * x + w2 * y + w3 * z = 0 := by
 unfold d3 d2 at h
 by_cases A : u2 * v3 - u3 * v2 ≠ 0 \/ u3 * v1 - u1 * v3 ≠ 0 \/ u1 * v2 - u2 * v1 ≠ 0
 ·exact ⟨_, _, _, A, by grind, by grind, by grind⟩
 by_cases B : u2 * w3 - u3 * w2 ≠ 0 \/ u3 * w1 - u1 * w3 ≠ 0 \/ u1 * w2 - u2 * w1 ≠ 0
 ·exact ⟨_, _, _, B, by grind, by grind, by grind⟩
 by_cases D : v2 * w3 - v3 * w2 ≠ 0 \/ v3 * w1 - v1 * w3 ≠ 0 \/ v1 * w2 - v2 * w1 ≠ 0
 ·exact ⟨_, _, _, D, by grind, by grind, by grind⟩
 have a1 : u2 * v3 - u3 * v2 = 0 := by omega
 have a2 : u3 * v1 - u1 * v3 = 0 := by omega
 have a3 : u1 * v2 - u2 * v1 = 0 := by omega
 have b1 : u2 * w3 - u3 * w2 = 0 := by omega
 have b2 : u3 * w1 - u1 * w3 = 0 := by omega
 have b3 : u1 * w2 - u2 * w1 = 0 := by omega
 have c1 : v2 * w3 - v3 * w2 = 0 := by omega
 have c2 : v3 * w1 - v1 * w3 = 0 := by omega
 have c3 : v1 * w2 - v2 * w1 = 0 := by omega
 clear A B D h
 by_cases hu : u1 ≠ 0 \/ u2 ≠ 0
 ·exact ⟨u2, -u1, 0, by omega, by grind, by grind, by grind⟩
 have hu1 : u1 = 0 := by omega
 have hu2 : u2 = 0 := by omega
 subst hu1 hu2
 by_cases hu3 : u3 ≠ 0
 ·have q1 : v2 = 0 := mC (x := u3) (by omega) hu3
  have q2 : v1 = 0 := mC (x := u3) (by omega) hu3
  have q3 : w2 = 0 := mC (x := u3) (by omega) hu3
  have q4 : w1 = 0 := mC (x := u3) (by omega) hu3
  exact ⟨1, 0, 0, by decide, by simp, by simp [q2], by simp [q4]⟩
 have hu3 : u3 = 0 := by omega
 subst hu3
 by_cases hv : v1 ≠ 0 \/ v2 ≠ 0
 ·exact ⟨v2, -v1, 0, by omega, by grind, by grind, by grind⟩
 have hv1 : v1 = 0 := by omega
 have hv2 : v2 = 0 := by omega
 subst hv1 hv2
 by_cases hv3 : v3 ≠ 0
 ·have q4 : w1 = 0 := mC (x := v3) (by omega) hv3
  exact ⟨1, 0, 0, by decide, by simp, by simp, by simp [q4]⟩
 have hv3 : v3 = 0 := by omega
 subst hv3
 by_cases hw : w1 ≠ 0 \/ w2 ≠ 0
 ·exact ⟨w2, -w1, 0, by omega, by grind, by grind, by grind⟩
 have hw1 : w1 = 0 := by omega
 subst hw1
 exact ⟨1, 0, 0, by decide, by simp, by simp, by simp⟩
theorem yF : ∀ {l : List Nat} {i j : Nat}, i ∈ l -> j ∈ l -> i ≠ j -> [i, j].Sublist l \/ [j, i].Sublist l
 | [], i, j, h, _, _ => nomatch h
 | x :: l, i, j, hi, hj, hne => by
  rcases List.mem_cons.mp hi with e | hi'
  ·subst e
   rcases List.mem_cons.mp hj with e | hj'
   ·exact absurd e.symm hne
   ·exact .inl (.cons₂ _ (List.singleton_sublist.mpr hj'))
  ·rcases List.mem_cons.mp hj with e | hj'
   ·subst e
    exact .inr (.cons₂ _ (List.singleton_sublist.mpr hi'))
   ·rcases yF hi' hj' hne with h | h
    ·exact .inl (.cons _ h)
    ·exact .inr (.cons _ h)
theorem rank {U : List (List Int)} {m n : Nat} {y : Nat -> Int} {S N : Int} (P : Pt (cell U) m n y S N) (hr : wZ (cell U) m n y N) (m4 : m <= 4) (n4 : n <= 4) :
  ∃ R C : List Nat, R.Sublist (List.range m) /\ C.Sublist (List.range n) /\ R.length = C.length /\ 0 < C.length /\ (∀ c ∈ C, 0 < y c) /\ (∀ j, j < n -> j ∉ C -> y j = 0) /\
   (∀ i ∈ R, sm n (fun j => cell U i j * y j) = N) /\ wholeM U R C ≠ 0 := by
 let C := (List.range n).filter fun j => decide (y j ≠ 0)
 let T := (List.range m).filter fun i => decide (sm n (fun j => cell U i j * y j) = N)
 have Cs : C.Sublist (List.range n) := List.filter_sublist
 have Ts : T.Sublist (List.range m) := List.filter_sublist
 have Cn : C.Nodup := Cs.nodup List.nodup_range
 have inC : ∀ j, j ∈ C ↔ j < n /\ y j ≠ 0 := fun j => by simp [C]
 have inT : ∀ i, i ∈ T ↔ i < m /\ sm n (fun j => cell U i j * y j) = N := fun i => by simp [T]
 have Cp : ∀ c ∈ C, 0 < y c := fun c hc => by
  obtain ⟨h1, h2⟩ := (inC c).mp hc
  have := P.nn c h1
  omega
 have Co : ∀ j, j < n -> j ∉ C -> y j = 0 := fun j hj h => Classical.byContradiction fun e => h ((inC j).mpr ⟨hj, e⟩)
 have C0 : 0 < C.length := by
  obtain ⟨j, hj, hp⟩ := GC (by rw [P.sum]; exact P.pos)
  exact List.length_pos_of_mem ((inC j).mpr ⟨hj, by omega⟩)
 have C4 : C.length <= 4 := by
  have := Cs.length_le
  rw [List.length_range] at this
  omega
 have T4 : T.length <= 4 := by
  have := Ts.length_le
  rw [List.length_range] at this
  omega
 obtain ⟨t0, T', hT⟩ : ∃ t0 T', T = t0 :: T' := by
  obtain ⟨i, hi, h⟩ := P.ti
  cases hT : T with
  | nil =>
   have := (inT i).mpr ⟨hi, h⟩
   rw [hT] at this
   cases this
  | cons a l => exact ⟨a, l, rfl⟩
 have rc : ∀ qs : List Int, qs.length = C.length -> qs.sum = 0 -> (∀ i ∈ T', wsum (cell U i) C qs = wsum (cell U t0) C qs) -> ∀ t, t < C.length -> qs.getD t 0 = 0 := by
  intro qs hl hs he t ht
  have hC : ∀ c ∈ C, c < n := fun c hc => ((inC c).mp hc).1
  rw [<- E_ Cn hl t ht]
  refine hr (yOf C qs) (wsum (cell U t0) C qs) (fun j hj e => yOf_out fun h => ((inC j).mp h).2 e) (by rw [yOf_sum hC hl, hs]) (fun i hi e => ?_) _ (hC _ ?_)
  ·rw [oX _ n C qs hC]
   have := (inT i).mpr ⟨hi, e⟩
   rw [hT] at this
   rcases List.mem_cons.mp this with rfl | h
   ·rfl
   ·exact he i h
  ·rw [List.getD_eq_getElem?_getD, List.getElem?_eq_getElem ht]
   exact List.getElem_mem ht
 have fin : ∀ R : List Nat, R.Sublist T -> R.length = C.length -> wholeM U R C ≠ 0 -> ∃ R C : List Nat, R.Sublist (List.range m) /\ C.Sublist (List.range n) /\ R.length = C.length /\ 0 < C.length /\ (∀ c ∈ C, 0 < y c) /\ (∀ j, j < n -> j ∉ C -> y j = 0) /\
   (∀ i ∈ R, sm n (fun j => cell U i j * y j) = N) /\ wholeM U R C ≠ 0 :=
  fun R h1 h2 h3 => ⟨R, C, h1.trans Ts, Cs, h2, C0, Cp, Co, fun i hi => ((inT i).mp (h1.subset hi)).2, h3⟩
 clear_value C
 have hk : C.length = 1 \/ C.length = 2 \/ C.length = 3 \/ C.length = 4 := by omega
 rcases hk with k | k | k | k
 ·obtain ⟨c, rfl⟩ := BV k
  refine fin [t0] (by rw [hT]; exact .cons₂ _ (List.nil_sublist _)) rfl ?_
  rw [xg]; decide
 ·obtain ⟨c, d, rfl⟩ := Cy k
  by_cases h : ∃ i ∈ T', wholeM U [t0, i] [c, d] ≠ 0
  ·obtain ⟨i, hi, h⟩ := h
   exact fin [t0, i] (by rw [hT]; exact .cons₂ _ (List.singleton_sublist.mpr hi)) rfl h
  ·exfalso
   have := rc [1, -1] rfl rfl (fun i hi => ?_) 0 (by simp)
   ·exact absurd this (by decide)
   ·have : wholeM U [t0, i] [c, d] = 0 := Classical.byContradiction fun e => h ⟨i, hi, e⟩
    rw [whole2] at this
    unfold d2 at this
    simp only [wsum]
    omega
 ·obtain ⟨c, d, e, rfl⟩ := Bv k
  by_cases h : ∃ i j, [i, j].Sublist T' /\ wholeM U [t0, i, j] [c, d, e] ≠ 0
  ·obtain ⟨i, j, hs, h⟩ := h
   exact fin [t0, i, j] (by rw [hT]; exact .cons₂ _ hs) rfl h
  ·exfalso
   let b : Nat -> Nat -> Int := fun i x => cell U i x - cell U t0 x
   have hz : ∀ i j, [i, j].Sublist T' -> d3 1 1 1 (b i c) (b i d) (b i e) (b j c) (b j d) (b j e) = 0 := fun i j hs => by
    rw [<- yc]
    exact Classical.byContradiction fun z => h ⟨i, j, hs, z⟩
   obtain ⟨x, z, hne, ho⟩ := JX (T'.map fun i => (b i c - b i e, b i d - b i e)) (by
    intro u hu v hv
    obtain ⟨i, hi, rfl⟩ := List.mem_map.mp hu
    obtain ⟨j, hj, rfl⟩ := List.mem_map.mp hv
    by_cases q : i = j
    ·rw [q]
     show (b j c - b j e) * (b j d - b j e) - (b j d - b j e) * (b j c - b j e) = 0
     grind
    ·show (b i c - b i e) * (b j d - b j e) - (b i d - b i e) * (b j c - b j e) = 0
     rcases yF hi hj q with s | s
     ·have := hz i j s
      unfold d3 d2 at this
      grind
     ·have := hz j i s
      unfold d3 d2 at this
      grind)
   have hq := rc [x, z, -x - z] rfl (by simp only [List.sum_cons, List.sum_nil]; omega) (fun i hi => by
    have := ho _ (List.mem_map_of_mem hi)
    have q : (b i c - b i e) * x + (b i d - b i e) * z = 0 := this
    simp only [wsum]
    have b1 : b i c = cell U i c - cell U t0 c := rfl
    have b2 : b i d = cell U i d - cell U t0 d := rfl
    have b3 : b i e = cell U i e - cell U t0 e := rfl
    rw [b1, b2, b3] at q
    grind)
   have q0 : x = 0 := hq 0 (by simp)
   have q1 : z = 0 := hq 1 (by simp)
   omega
 ·obtain ⟨c, d, e, f, rfl⟩ := Fl k
  let b : Nat -> Nat -> Int := fun i x => cell U i x - cell U t0 x
  have pick : (∃ i j l, T' = [i, j, l] /\ wholeM U [t0, i, j, l] [c, d, e, f] ≠ 0) \/ ∃ x z w : Int, (x ≠ 0 \/ z ≠ 0 \/ w ≠ 0) /\ ∀ i ∈ T', (b i c - b i f) * x + (b i d - b i f) * z + (b i e - b i f) * w = 0 := by
   have T3 : T'.length <= 3 := by
    have := T4
    rw [hT, List.length_cons] at this
    omega
   match hT' : T', T3 with
   | [], _ => exact .inr ⟨1, 0, 0, by decide, fun i hi => nomatch hi⟩
   | [i], _ =>
    obtain ⟨x, z, w, hne, h1, _, _⟩ := Cq (b i c - b i f) (b i d - b i f) (b i e - b i f) 0 0 0 0 0 0 (by simp [d3, d2])
    exact .inr ⟨x, z, w, hne, fun q hq => by rw [List.mem_singleton.mp hq]; exact h1⟩
   | [i, j], _ =>
    obtain ⟨x, z, w, hne, h1, h2, _⟩ := Cq (b i c - b i f) (b i d - b i f) (b i e - b i f) (b j c - b j f) (b j d - b j f) (b j e - b j f) 0 0 0 (by simp [d3, d2])
    refine .inr ⟨x, z, w, hne, fun q hq => ?_⟩
    rcases List.mem_cons.mp hq with rfl | hq
    ·exact h1
    ·rw [List.mem_singleton.mp hq]; exact h2
   | [i, j, l], _ =>
    by_cases hw : wholeM U [t0, i, j, l] [c, d, e, f] = 0
    ·have ht : d3 (b i c - b i f) (b i d - b i f) (b i e - b i f) (b j c - b j f) (b j d - b j f) (b j e - b j f) (b l c - b l f) (b l d - b l f) (b l e - b l f) = 0 := by
      rw [xJ] at hw
      have g : ∀ i x, cell U i x - cell U t0 x = b i x := fun _ _ => rfl
      simp only [g] at hw
      generalize b i c = x1 at *
      generalize b i d = x2 at *
      generalize b i e = x3 at *
      generalize b i f = x4 at *
      generalize b j c = y1 at *
      generalize b j d = y2 at *
      generalize b j e = y3 at *
      generalize b j f = y4 at *
      generalize b l c = z1 at *
      generalize b l d = z2 at *
      generalize b l e = z3 at *
      generalize b l f = z4 at *
      unfold d3 d2 at hw ⊢
      grind
     obtain ⟨x, z, w, hne, h1, h2, h3⟩ := Cq _ _ _ _ _ _ _ _ _ ht
     refine .inr ⟨x, z, w, hne, fun q hq => ?_⟩
     rcases List.mem_cons.mp hq with rfl | hq
     ·exact h1
     rcases List.mem_cons.mp hq with rfl | hq
     ·exact h2
     ·rw [List.mem_singleton.mp hq]; exact h3
    ·exact .inl ⟨i, j, l, rfl, hw⟩
   | _ :: _ :: _ :: _ :: _, h => simp at h
  rcases pick with ⟨i, j, l, rfl, hw⟩ | ⟨x, z, w, hne, ho⟩
  ·exact fin [t0, i, j, l] (by rw [hT]; exact List.Sublist.refl _) rfl hw
  ·exfalso
   have hq := rc [x, z, w, -x - z - w] rfl (by simp only [List.sum_cons, List.sum_nil]; omega) (fun i hi => by
    have q := ho i hi
    simp only [wsum]
    have b1 : b i c = cell U i c - cell U t0 c := rfl
    have b2 : b i d = cell U i d - cell U t0 d := rfl
    have b3 : b i e = cell U i e - cell U t0 e := rfl
    have b4 : b i f = cell U i f - cell U t0 f := rfl
    rw [b1, b2, b3, b4] at q
    grind)
   have q0 : x = 0 := hq 0 (by simp)
   have q1 : z = 0 := hq 1 (by simp)
   have q2 : w = 0 := hq 2 (by simp)
   omega
end Gm
set_option Elab.async false
set_option linter.all false
namespace Gm
def sgn (w : Int) : Int := if 0 < w then 1 else -1
theorem sgn_pos {w : Int} (h : w ≠ 0) : 0 < sgn w * w := by
 unfold sgn
 split <;> omega
def shM (U : List (List Int)) (R C : List Nat) : List Int := (partsM U R C).map fun p => sgn (wholeM U R C) * p
def smM (U : List (List Int)) (R C : List Nat) : Int := sgn (wholeM U R C) * wholeM U R C
def gain (U : List (List Int)) (n : Nat) (y : Nat -> Int) (i : Nat) : Int := sm n fun j => cell U i j * y j
structure Good2 (m n : Nat) (R C : List Nat) : Prop where
 rs : R.Sublist (List.range m)
 cs : C.Sublist (List.range n)
 len : R.length = C.length
 pos : 0 < C.length
theorem Good2.c4 {m n : Nat} {R C : List Nat} (g : Good2 m n R C) (n4 : n <= 4) : C.length <= 4 := by
 have := g.cs.length_le
 rw [List.length_range] at this
 omega
theorem Good2.lt {m n : Nat} {R C : List Nat} (g : Good2 m n R C) : ∀ c ∈ C, c < n := fun c hc => List.mem_range.mp (g.cs.subset hc)
theorem Good2.nd {m n : Nat} {R C : List Nat} (g : Good2 m n R C) : C.Nodup := g.cs.nodup List.nodup_range
theorem Good2.r0 {m n : Nat} {R C : List Nat} (g : Good2 m n R C) : R.headD 0 ∈ R := by
 have := g.len
 have := g.pos
 cases R with
 | nil => simp at *; omega
 | cons r R => simp
theorem Good2.r0m {m n : Nat} {R C : List Nat} (g : Good2 m n R C) : R.headD 0 < m := List.mem_range.mp (g.rs.subset g.r0)
structure Corner (U : List (List Int)) (m n : Nat) (R C : List Nat) : Prop where
 ne : wholeM U R C ≠ 0
 pos : ∀ q ∈ shM U R C, 0 < q
 le : ∀ i, i < m -> gain U n (yOf C (shM U R C)) i <= gain U n (yOf C (shM U R C)) (R.headD 0)
theorem shM_len (U : List (List Int)) (R C : List Nat) : (shM U R C).length = C.length := by
 unfold shM partsM
 simp
theorem qD (c : Int) : ∀ l : List Int, (l.map fun p => c * p).sum = c * l.sum
 | [] => by simp
 | x :: l => by
  rw [List.map_cons, List.sum_cons, List.sum_cons, qD c l, Int.mul_add]
theorem shM_sum (U : List (List Int)) {m n : Nat} {R C : List Nat} (g : Good2 m n R C) (n4 : n <= 4) : (shM U R C).sum = smM U R C := by
 unfold shM smM
 rw [qD, Dw U g.len g.pos (g.c4 n4)]
theorem yOf_nn : ∀ {C : List Nat} {ps : List Int} {j : Nat}, (∀ q ∈ ps, 0 <= q) -> 0 <= yOf C ps j
 | [], ps, j, _ => by
  unfold yOf
  rw [ir]; exact Int.le_refl _
 | c :: C, [], j, _ => by
  unfold yOf
  rw [lr]; exact Int.le_refl _
 | c :: C, p :: ps, j, h => by
  rw [yOf_cons]
  have h1 := h p (by simp)
  have h2 := yOf_nn (C := C) (ps := ps) (j := j) fun q hq => h q (by simp [hq])
  split <;> omega
theorem corner_pt {U : List (List Int)} {m n : Nat} {R C : List Nat} (g : Good2 m n R C) (n4 : n <= 4) (k : Corner U m n R C) : Pt (cell U) m n (yOf C (shM U R C)) (smM U R C) (gain U n (yOf C (shM U R C)) (R.headD 0)) := by
 refine ⟨sgn_pos k.ne, fun j _ => yOf_nn fun q hq => Int.le_of_lt (k.pos q hq), ?_, k.le, ⟨R.headD 0, g.r0m, rfl⟩⟩
 rw [yOf_sum g.lt (shM_len U R C), shM_sum U g n4]
theorem yZ (c : Int) (l : List Int) (t : Nat) : (l.map fun p => c * p).getD t 0 = c * l.getD t 0 := by
 rw [List.getD_eq_getElem?_getD, List.getElem?_map, List.getD_eq_getElem?_getD]
 cases l[t]? <;> simp
theorem B_ {U : List (List Int)} {R C : List Nat} {t : Nat} (h : t < C.length) : (partsM U R C).getD t 0 = cI U R C t := by
 unfold partsM
 rw [List.getD_eq_getElem?_getD, List.getElem?_map, List.getElem?_eq_getElem (by simpa using h)]
 simp
theorem vY (f : Nat -> Int) {a b : Int} : ∀ {C : List Nat} {ps qs : List Int}, ps.length = C.length -> qs.length = C.length -> (∀ t, t < C.length -> ps.getD t 0 * a = qs.getD t 0 * b) -> wsum f C ps * a = wsum f C qs * b
 | [], ps, qs, _, _, _ => by rw [ir, ir]; simp
 | c :: C, p :: ps, q :: qs, h1, h2, h => by
  have h0 : p * a = q * b := h 0 (by simp)
  have ih := vY f (C := C) (ps := ps) (qs := qs) (by simpa using h1) (by simpa using h2) fun t ht => h (t + 1) (by simpa using ht)
  show (f c * p + wsum f C ps) * a = (f c * q + wsum f C qs) * b
  grind
 | c :: C, [], _, h, _, _ => by simp at h
 | c :: C, _ :: _, [], _, h, _ => by simp at h
theorem pI {U : List (List Int)} {m n : Nat} {y : Nat -> Int} {S N : Int} (P : Pt (cell U) m n y S N) (m4 : m <= 4) (n4 : n <= 4) :
  ∃ R C, Good2 m n R C /\ Corner U m n R C /\ gain U n (yOf C (shM U R C)) (R.headD 0) * S <= N * smM U R C /\ (∀ j, j < n -> y j = 0 -> yOf C (shM U R C) j = 0) /\
   ∀ i, i < m -> sm n (fun j => cell U i j * y j) = N -> gain U n (yOf C (shM U R C)) i = gain U n (yOf C (shM U R C)) (R.headD 0) := by
 obtain ⟨y1, S1, N1, P1, l1, r1, u1, w1⟩ := Fp _ rfl P
 obtain ⟨R, C, hR, hC, hl, h0, hp, ho, ht, hw⟩ := rank P1 r1 m4 n4
 have g : Good2 m n R C := ⟨hR, hC, hl, h0⟩
 have hlt := g.lt
 have hnd := g.nd
 have e0 : ∀ j, j < n -> yOf C (C.map y1) j = y1 j := fun j hj => by
  rw [Ax hnd]
  by_cases h : j ∈ C
  ·rw [if_pos h]
  ·rw [if_neg h, ho j hj h]
 have eg : ∀ i, wsum (cell U i) C (C.map y1) = sm n fun j => cell U i j * y1 j := fun i => by
  rw [<- oX (cell U i) n C _ hlt]
  exact sm_congr fun j hj => by rw [e0 j hj]
 have es : (C.map y1).sum = S1 := by
  rw [<- yOf_sum hlt (List.length_map ..), <- P1.sum]
  exact sm_congr fun j hj => e0 j hj
 have cr := Ip U (R := R) (C := C) (ps := C.map y1) hl h0 (g.c4 n4) (List.length_map ..) es (fun i hi => by rw [eg, eg, ht i hi, ht _ g.r0])
 have hS1 := P1.pos
 have hW := sgn_pos hw
 have q1 : ∀ t, t < C.length -> (shM U R C).getD t 0 * S1 = (C.map y1).getD t 0 * smM U R C := fun t h => by
  have := cr t h
  unfold shM smM
  rw [yZ, B_ h]
  grind
 have hm : ∀ t, t < C.length -> 0 < (C.map y1).getD t 0 := fun t h => by
  rw [List.getD_eq_getElem?_getD, List.getElem?_map, List.getElem?_eq_getElem h]
  exact hp _ (List.getElem_mem h)
 have hg : ∀ i, gain U n (yOf C (shM U R C)) i * S1 = (sm n fun j => cell U i j * y1 j) * smM U R C := fun i => by
  unfold gain
  rw [oX (cell U i) n C _ hlt, vY (cell U i) (shM_len U R C) (List.length_map ..) q1, eg]
 have k : Corner U m n R C := by
  refine ⟨hw, fun q hq => ?_, fun i hi => ?_⟩
  ·obtain ⟨t, ht, e⟩ := List.mem_iff_getElem.mp hq
   rw [shM_len] at ht
   have h1 := q1 t ht
   have h2 := Int.mul_pos (hm t ht) (show 0 < smM U R C from hW)
   rw [List.getD_eq_getElem?_getD, List.getElem?_eq_getElem (by rw [shM_len]; exact ht)] at h1
   have h3 : q * S1 = (C.map y1).getD t 0 * smM U R C := by rw [<- h1, <- e]; rfl
   refine Classical.byContradiction fun hc => ?_
   have := Int.mul_nonpos_of_nonpos_of_nonneg (show q <= 0 by omega) (Int.le_of_lt hS1)
   omega
  ·have a1 := hg i
   have a2 := hg (R.headD 0)
   rw [ht _ g.r0] at a2
   have a3 : (sm n fun j => cell U i j * y1 j) * smM U R C <= N1 * smM U R C := Int.mul_le_mul_of_nonneg_right (P1.le i hi) (Int.le_of_lt hW)
   exact Int.le_of_mul_le_mul_right (by omega) hS1
 refine ⟨R, C, g, k, ?_, fun j hj e => yOf_out fun hj' => ?_, fun i hi e => ?_⟩
 rotate_left
 ·have := hp j hj'
  rw [u1 j hj e] at this
  omega
 ·have a1 := hg i
  have a2 := hg (R.headD 0)
  rw [ht _ g.r0] at a2
  rw [w1 i hi e] at a1
  exact Int.eq_of_mul_eq_mul_right (by omega) (a1.trans a2.symm)
 have a2 := hg (R.headD 0)
 rw [ht _ g.r0] at a2
 generalize gain U n (yOf C (shM U R C)) (R.headD 0) = G at a2 ⊢
 have b1 : N1 * S * smM U R C <= N * S1 * smM U R C := Int.mul_le_mul_of_nonneg_right l1 (Int.le_of_lt hW)
 have b2 : G * S * S1 <= N * smM U R C * S1 := by
  have : G * S * S1 = N1 * S * smM U R C := by grind
  rw [this]
  grind
 exact Int.le_of_mul_le_mul_right b2 hS1
theorem complete {U : List (List Int)} {m n : Nat} {y : Nat -> Int} {S N : Int} (P : Pt (cell U) m n y S N) (m4 : m <= 4) (n4 : n <= 4) :
  ∃ R C, Good2 m n R C /\ Corner U m n R C /\ gain U n (yOf C (shM U R C)) (R.headD 0) * S <= N * smM U R C := by
 obtain ⟨R, C, h1, h2, h3, _⟩ := pI P m4 n4
 exact ⟨R, C, h1, h2, h3⟩
theorem max_of (f : Nat -> Int) : ∀ {m : Nat}, 0 < m -> ∃ i, i < m /\ ∀ j, j < m -> f j <= f i
 | 0, h => by omega
 | 1, _ => ⟨0, by decide, fun j hj => by
  have : j = 0 := by omega
  rw [this]; exact Int.le_refl _⟩
 | m + 2, _ => by
  obtain ⟨i, hi, h⟩ := max_of f (m := m + 1) (by omega)
  by_cases c : f i <= f (m + 1)
  ·refine ⟨m + 1, by omega, fun j hj => ?_⟩
   by_cases e : j = m + 1
   ·rw [e]; exact Int.le_refl _
   ·have := h j (by omega)
    omega
  ·refine ⟨i, by omega, fun j hj => ?_⟩
   by_cases e : j = m + 1
   ·rw [e]; omega
   ·exact h j (by omega)
theorem Ik {a b : Nat -> Nat -> Int} {m n : Nat} (hn : 0 < n) (hm : 0 < m) (hb : ∀ i j, i < m -> j < n -> b j i = - a i j) {y : Nat -> Int} {S N : Int} (P : Pt a m n y S N) (hmin : ∀ y' S' N', Pt a m n y' S' N' -> N * S' <= N' * S) :
  ∃ x S' N', Pt b n m x S' N' /\ N' * S + N * S' <= 0 := by
 rcases alt (fun i j => a i j * S - N) m n hn with ⟨x, h1, ⟨i0, hi0, hp⟩, h3⟩ | ⟨z, h1, ⟨j0, hj0, hp⟩, h3⟩
 ·obtain ⟨j1, hj1, hmax⟩ := max_of (fun j => sm m fun i => b j i * x i) hn
  have hx := sm_pos h1 ⟨i0, hi0, hp⟩
  refine ⟨x, sm m x, _, ⟨hx, h1, rfl, hmax, ⟨j1, hj1, rfl⟩⟩, ?_⟩
  have e1 : (sm m fun i => b j1 i * x i) = - sm m fun i => x i * a i j1 := by
   have : (sm m fun i => b j1 i * x i) = sm m fun i => -1 * (x i * a i j1) := sm_congr fun i hi => by
    rw [hb i j1 hi hj1]; grind
   rw [this, sm_mul]; omega
  have e2 : (sm m fun i => x i * (a i j1 * S - N)) = S * (sm m fun i => x i * a i j1) + (-N) * sm m x := by
   rw [<- sm_mul, <- sm_mul, <- sm_add]
   exact sm_congr fun i _ => by grind
  have h4 := h3 j1 hj1
  rw [e2] at h4
  rw [e1]
  grind
 ·exfalso
  obtain ⟨i1, hi1, hmax⟩ := max_of (fun i => sm n fun j => a i j * z j) hm
  have hz := sm_pos h1 ⟨j0, hj0, hp⟩
  have h4 := hmin z (sm n z) _ ⟨hz, h1, rfl, hmax, ⟨i1, hi1, rfl⟩⟩
  have h5 := h3 i1 hi1
  have e2 : (sm n fun j => (a i1 j * S - N) * z j) = S * (sm n fun j => a i1 j * z j) + (-N) * sm n z := by
   rw [<- sm_mul, <- sm_mul, <- sm_add]
   exact sm_congr fun i _ => by grind
  rw [e2] at h5
  grind
theorem meet {a b : Nat -> Nat -> Int} {m n : Nat} (hn : 0 < n) (hm : 0 < m) (hb : ∀ i j, i < m -> j < n -> b j i = - a i j) {y x : Nat -> Int} {S N S' N' : Int} (P : Pt a m n y S N) (hmin : ∀ y' S' N', Pt a m n y' S' N' -> N * S' <= N' * S)
  (P' : Pt b n m x S' N') (hmin' : ∀ y1 S1 N1, Pt b n m y1 S1 N1 -> N' * S1 <= N1 * S') : N' * S + N * S' <= 0 := by
 obtain ⟨x2, S2, N2, P2, h⟩ := Ik hn hm hb P hmin
 have h2 := hmin' x2 S2 N2 P2
 have p0 := P.pos
 have p1 := P'.pos
 have p2 := P2.pos
 have a1 : N' * S2 * S <= N2 * S' * S := Int.mul_le_mul_of_nonneg_right h2 (Int.le_of_lt p0)
 have a2 : (N2 * S + N * S2) * S' <= 0 * S' := Int.mul_le_mul_of_nonneg_right h (Int.le_of_lt p1)
 have a3 : (N' * S + N * S') * S2 <= 0 * S2 := by grind
 exact Int.le_of_mul_le_mul_right a3 p2
end Gm
set_option linter.all false
namespace Ns
def sr : Nat -> (Nat -> Rat) -> Rat
 | 0, _ => 0
 | n + 1, f => sr n f + f n
theorem dq {f g : Nat -> Rat} : ∀ {n : Nat}, (∀ j, j < n -> f j = g j) -> sr n f = sr n g
 | 0, _ => rfl
 | n + 1, h => by
  show sr n f + f n = sr n g + g n
  rw [dq fun j hj => h j (by omega), h n (by omega)]
theorem oZ (f g : Nat -> Rat) (r : Rat) : ∀ n, sr n (fun j => f j + r * g j) = sr n f + r * sr n g
 | 0 => by show (0 : Rat) = 0 + r * 0; grind
 | n + 1 => by
  show sr n (fun j => f j + r * g j) + (f n + r * g n) = (sr n f + f n) + r * (sr n g + g n)
  rw [oZ f g r n]
  grind
theorem f9 {f : Nat -> Rat} : ∀ {n : Nat}, (∀ j, j < n -> f j = 0) -> sr n f = 0
 | 0, _ => rfl
 | n + 1, h => by
  show sr n f + f n = 0
  rw [f9 fun j hj => h j (by omega), h n (by omega)]
  grind
theorem ug {f : Nat -> Rat} {p : Nat} : ∀ {n : Nat}, p < n -> (∀ j, j < n -> j ≠ p -> f j = 0) -> sr n f = f p
 | n + 1, hp, h => by
  show sr n f + f n = f p
  by_cases e : p = n
  ·subst e
   rw [f9 fun j hj => h j (by omega) (by omega)]
   grind
  ·rw [ug (by omega) fun j hj => h j (by omega), h n (by omega) (Ne.symm e)]
   grind
theorem rY (f : Nat -> Rat) (r : Rat) (n : Nat) : sr n (fun j => r * f j) = r * sr n f := by
 have := oZ (fun _ => 0) f r n
 rw [f9 (f := fun _ => 0) fun _ _ => rfl] at this
 have e : sr n (fun j => 0 + r * f j) = sr n (fun j => r * f j) := dq fun j _ => by grind
 rw [<- e, this]
 grind
theorem Ea (f g : Nat -> Rat) (n : Nat) : sr n (fun j => f j + g j) = sr n f + sr n g := by
 have := oZ f g 1 n
 have e : sr n (fun j => f j + 1 * g j) = sr n (fun j => f j + g j) := dq fun j _ => by grind
 rw [<- e, this]
 grind
theorem Ar (f : Nat -> Nat -> Rat) (m : Nat) : ∀ n, sr n (fun j => sr m fun i => f i j) = sr m fun i => sr n fun j => f i j
 | 0 => by rw [f9 (n := m) (f := fun i => sr 0 fun j => f i j) fun _ _ => rfl]; rfl
 | n + 1 => by
  show sr n (fun j => sr m fun i => f i j) + sr m (fun i => f i n) = sr m fun i => (sr n fun j => f i j) + f i n
  rw [Ar f m n, <- Ea]
theorem vV {f : Nat -> Rat} : ∀ {n : Nat}, (∀ j, j < n -> 0 <= f j) -> 0 <= sr n f
 | 0, _ => by show (0 : Rat) <= 0; grind
 | n + 1, h => by
  show 0 <= sr n f + f n
  have h1 := vV (n := n) fun j hj => h j (show j < n + 1 by omega)
  have h2 := h n (by omega)
  grind
theorem Eg {f : Nat -> Rat} : ∀ {n p : Nat}, (∀ j, j < n -> 0 <= f j) -> p < n -> 0 < f p -> 0 < sr n f
 | n + 1, p, h, hp, h0 => by
  show 0 < sr n f + f n
  have h1 := vV (n := n) fun j hj => h j (show j < n + 1 by omega)
  have h2 := h n (by omega)
  by_cases e : p = n
  ·subst e; grind
  ·have := Eg (n := n) (fun j hj => h j (by omega)) (by omega) h0
   grind
theorem fl : ∀ (k : Nat) (M : Nat -> Nat -> Rat), ∃ d : Nat -> Rat, (∃ j, j < k + 1 /\ d j ≠ 0) /\ ∀ i, i < k -> sr (k + 1) (fun j => M i j * d j) = 0
 | 0, M => ⟨fun _ => 1, ⟨0, by omega, by decide⟩, fun i h => absurd h (by omega)⟩
 | k + 1, M => by
  by_cases h : ∃ i, i < k + 1 /\ M i (k + 1) ≠ 0
  ·obtain ⟨i0, h0, hne⟩ := h
   obtain ⟨d, hd, he⟩ := fl k (fun i j => M (if i < i0 then i else i + 1) j - M (if i < i0 then i else i + 1) (k + 1) / M i0 (k + 1) * M i0 j)
   refine ⟨fun j => if j < k + 1 then d j else -(sr (k + 1) fun j => M i0 j * d j) / M i0 (k + 1), ?_, ?_⟩
   ·obtain ⟨j, hj, hne'⟩ := hd
    exact ⟨j, by omega, by dsimp only; rw [if_pos hj]; exact hne'⟩
   ·intro i hi
    have e : sr (k + 1 + 1) (fun j => M i j * (if j < k + 1 then d j else -(sr (k + 1) fun j => M i0 j * d j) / M i0 (k + 1))) = sr (k + 1) (fun j => M i j * d j) + M i (k + 1) * (-(sr (k + 1) fun j => M i0 j * d j) / M i0 (k + 1)) := by
     show sr (k + 1) _ + M i (k + 1) * (if k + 1 < k + 1 then _ else _) = _
     rw [if_neg (Nat.lt_irrefl _)]
     congr 1
     exact dq fun j hj => by rw [if_pos hj]
    rw [e]
    by_cases hi0 : i = i0
    ·subst hi0
     generalize sr (k + 1) (fun j => M i j * d j) = s
     grind
    ·have hex : ∃ i', i' < k /\ (if i' < i0 then i' else i' + 1) = i := by
      by_cases hlt : i < i0
      ·exact ⟨i, by omega, if_pos hlt⟩
      ·exact ⟨i - 1, by omega, by rw [if_neg (by omega)]; omega⟩
     obtain ⟨i', hi', ei⟩ := hex
     have h1 := he i' hi'
     simp only [ei] at h1
     have h2 : sr (k + 1) (fun j => (M i j - M i (k + 1) / M i0 (k + 1) * M i0 j) * d j) = sr (k + 1) (fun j => M i j * d j) + (-(M i (k + 1) / M i0 (k + 1))) * sr (k + 1) (fun j => M i0 j * d j) := by
      rw [<- oZ]
      exact dq fun j _ => by grind
     rw [h2] at h1
     generalize sr (k + 1) (fun j => M i j * d j) = s at *
     generalize sr (k + 1) (fun j => M i0 j * d j) = t at *
     grind
  ·refine ⟨fun j => if j = k + 1 then 1 else 0, ⟨k + 1, by omega, by dsimp only; rw [if_pos rfl]; decide⟩, fun i hi => ?_⟩
   refine f9 fun j hj => ?_
   show M i j * (if j = k + 1 then 1 else 0) = 0
   by_cases e : j = k + 1
   ·have : M i (k + 1) = 0 := Classical.byContradiction fun hz => h ⟨i, hi, hz⟩
    rw [e, this]; grind
   ·rw [if_neg e]; grind
def LZ (L : Nat) (v : Nat -> Rat) : Prop := ∀ c, c < L -> v c = 0
def LP (L : Nat) (v : Nat -> Rat) : Prop := ∃ c, c < L /\ (∀ c', c' < c -> v c' = 0) /\ 0 < v c
def GE (L : Nat) (v : Nat -> Rat) : Prop := LZ L v \/ LP L v
theorem GE.congr {L : Nat} {u v : Nat -> Rat} (h : GE L u) (e : ∀ c, c < L -> u c = v c) : GE L v := by
 rcases h with h | ⟨c, hc, h1, h2⟩
 ·exact .inl fun c hc => by rw [<- e c hc]; exact h c hc
 ·exact .inr ⟨c, hc, fun c' h' => by rw [<- e c' (by omega)]; exact h1 c' h', by rw [<- e c hc]; exact h2⟩
theorem LZ.congr {L : Nat} {u v : Nat -> Rat} (h : LZ L u) (e : ∀ c, c < L -> u c = v c) : LZ L v := fun c hc => by rw [<- e c hc]; exact h c hc
theorem tri (v : Nat -> Rat) : ∀ L, GE L v \/ LP L fun c => - v c
 | 0 => .inl (.inl fun c h => absurd h (by omega))
 | L + 1 => by
  rcases tri v L with (h | ⟨c, hc, h1, h2⟩) | ⟨c, hc, h1, h2⟩
  ·by_cases h0 : v L = 0
   ·refine .inl (.inl fun c hc => ?_)
    by_cases e : c = L
    ·rw [e]; exact h0
    ·exact h c (by omega)
   ·by_cases hp : 0 < v L
    ·exact .inl (.inr ⟨L, by omega, fun c hc => h c hc, hp⟩)
    ·exact .inr ⟨L, by omega, fun c hc => by dsimp only; rw [h c hc]; grind, by dsimp only; grind⟩
  ·exact .inl (.inr ⟨c, by omega, h1, h2⟩)
  ·exact .inr ⟨c, by omega, h1, h2⟩
theorem GE.add {L : Nat} {u v : Nat -> Rat} (hu : GE L u) (hv : GE L v) : GE L fun c => u c + v c := by
 rcases hu with hu | ⟨a, ha, a1, a2⟩
 ·exact hv.congr fun c hc => by rw [hu c hc]; grind
 ·rcases hv with hv | ⟨b, hb, b1, b2⟩
  ·exact GE.congr (.inr ⟨a, ha, a1, a2⟩) fun c hc => by rw [hv c hc]; grind
  ·by_cases h : a < b
   ·exact .inr ⟨a, ha, fun c hc => by dsimp only; rw [a1 c hc, b1 c (by omega)]; grind, by dsimp only; rw [b1 a h]; grind⟩
   ·by_cases h' : b < a
    ·exact .inr ⟨b, hb, fun c hc => by dsimp only; rw [a1 c (by omega), b1 c hc]; grind, by dsimp only; rw [a1 b h']; grind⟩
    ·have : a = b := by omega
     subst this
     exact .inr ⟨a, ha, fun c hc => by dsimp only; rw [a1 c hc, b1 c hc]; grind, by grind⟩
theorem GE.smul {L : Nat} {u : Nat -> Rat} {r : Rat} (hr : 0 <= r) (hu : GE L u) : GE L fun c => r * u c := by
 by_cases h0 : r = 0
 ·exact .inl fun c _ => by rw [h0]; grind
 ·rcases hu with hu | ⟨a, ha, a1, a2⟩
  ·exact .inl fun c hc => by dsimp only; rw [hu c hc]; grind
  ·exact .inr ⟨a, ha, fun c hc => by dsimp only; rw [a1 c hc]; grind, Rat.mul_pos (by grind) a2⟩
theorem GE.anti {L : Nat} {u : Nat -> Rat} (h : GE L u) (h' : GE L fun c => - u c) : LZ L u := by
 rcases h with h | ⟨a, ha, a1, a2⟩
 ·exact h
 ·rcases h' with h' | ⟨b, hb, b1, b2⟩
  ·have := h' a ha; grind
  ·by_cases e : a < b
   ·have := b1 a e; grind
   ·by_cases e' : b < a
    ·have := a1 b e'; grind
    ·have : a = b := by omega
     subst this
     grind
theorem GE.lead {L : Nat} {u : Nat -> Rat} (h : GE L u) (hL : 0 < L) : 0 <= u 0 := by
 rcases h with h | ⟨a, ha, a1, a2⟩
 ·have := h 0 hL; grind
 ·by_cases e : a = 0
  ·subst e; grind
  ·have := a1 0 (by omega); grind
theorem Du (L : Nat) (p : Nat -> Prop) (ρ : Nat -> Nat -> Rat) : ∀ n, (∃ q, q < n /\ p q) -> ∃ q, q < n /\ p q /\ ∀ q', q' < n -> p q' -> GE L fun c => ρ q' c - ρ q c
 | 0, h => by obtain ⟨q, h, _⟩ := h; omega
 | n + 1, h => by
  have self : ∀ q, GE L fun c => ρ q c - ρ q c := fun q => .inl fun c _ => by grind
  by_cases hn : ∃ q, q < n /\ p q
  ·obtain ⟨q, hq, pq, hm⟩ := Du L p ρ n hn
   by_cases pn : p n
   ·rcases tri (fun c => ρ n c - ρ q c) L with h1 | h1
    ·refine ⟨q, by omega, pq, fun q' h' p' => ?_⟩
     by_cases e : q' = n
     ·rw [e]; exact h1
     ·exact hm q' (by omega) p'
    ·have h2 : GE L fun c => ρ q c - ρ n c := GE.congr (.inr h1) fun c _ => by grind
     refine ⟨n, by omega, pn, fun q' h' p' => ?_⟩
     by_cases e : q' = n
     ·rw [e]; exact self n
     ·exact GE.congr ((hm q' (by omega) p').add h2) fun c _ => by grind
   ·refine ⟨q, by omega, pq, fun q' h' p' => ?_⟩
    by_cases e : q' = n
    ·rw [e] at p'; exact absurd p' pn
    ·exact hm q' (by omega) p'
  ·obtain ⟨q, hq, pq⟩ := h
   have : q = n := Classical.byContradiction fun e => hn ⟨q, by omega, pq⟩
   subst this
   refine ⟨q, by omega, pq, fun q' h' p' => ?_⟩
   have : q' = q := Classical.byContradiction fun e => hn ⟨q', by omega, p'⟩
   rw [this]; exact self q
end Ns
set_option linter.all false
namespace Ns
def lin (C : Nat -> Nat -> Rat) (N : Nat) (f : Nat × Bool) (d : Nat -> Rat) : Rat := if f.2 = true then - sr N (fun j => C f.1 j * d j) else d f.1
def bb (i c : Nat) : Rat := if c = 0 then 1 else if c = i + 1 then 1 else 0
def cst (f : Nat × Bool) (c : Nat) : Rat := if f.2 = true then bb f.1 c else 0
def slk (C : Nat -> Nat -> Rat) (N : Nat) (f : Nat × Bool) (z : Nat -> Nat -> Rat) (c : Nat) : Rat := lin C N f (fun j => z j c) + cst f c
variable {C : Nat -> Nat -> Rat}
theorem mH {N : Nat} (f : Nat × Bool) (a b : Nat -> Rat) (r : Rat) : lin C N f (fun j => a j + r * b j) = lin C N f a + r * lin C N f b := by
 unfold lin
 by_cases h : f.2 = true
 ·rw [if_pos h, if_pos h, if_pos h]
  have e : sr N (fun j => C f.1 j * (a j + r * b j)) = sr N (fun j => C f.1 j * a j) + r * sr N (fun j => C f.1 j * b j) := by
   rw [<- oZ]
   exact dq fun j _ => by grind
  rw [e]
  grind
 ·rw [if_neg h, if_neg h, if_neg h]
theorem xX {N : Nat} (f : Nat × Bool) (z : Nat -> Nat -> Rat) (s : Nat -> Rat) (d : Nat -> Rat) (c : Nat) : slk C N f (fun j c => z j c + s c * d j) c = slk C N f z c + s c * lin C N f d := by
 unfold slk
 rw [mH]
 grind
def nH (C : Nat -> Nat -> Rat) (f : Nat × Bool) (j : Nat) : Rat := if f.2 = true then - C f.1 j else if j = f.1 then 1 else 0
theorem mO {N : Nat} {f : Nat × Bool} (h : f.1 < N) (d : Nat -> Rat) : lin C N f d = sr N fun j => nH C f j * d j := by
 unfold lin nH
 by_cases hf : f.2 = true
 ·rw [if_pos hf]
  have e : sr N (fun j => (if f.2 = true then - C f.1 j else if j = f.1 then 1 else 0) * d j) = -1 * sr N (fun j => C f.1 j * d j) := by
   rw [<- rY]
   exact dq fun j _ => by rw [if_pos hf]; grind
  rw [e]
  grind
 ·rw [if_neg hf, ug h fun j _ hj => by rw [if_neg hf, if_neg hj]; grind]
  rw [if_neg hf, if_pos rfl]
  grind
def fct (k : Nat) (σ : Nat -> Bool) (q : Nat) : Nat × Bool := if q < k then (q, !σ q) else (k, decide (q = k + 1))
theorem kY {k : Nat} {σ : Nat -> Bool} {q : Nat} : (fct k σ q).1 < k + 1 := by
 unfold fct
 split
 ·show q < k + 1; omega
 ·show k < k + 1; omega
theorem Bf {k : Nat} {σ : Nat -> Bool} {q q' : Nat} (hq : q < k + 2) (hq' : q' < k + 2) (h : fct k σ q = fct k σ q') : q = q' := by
 unfold fct at h
 by_cases h1 : q < k
 ·by_cases h2 : q' < k
  ·rw [if_pos h1, if_pos h2] at h
   exact congrArg Prod.fst h
  ·rw [if_pos h1, if_neg h2] at h
   have : q = k := congrArg Prod.fst h
   omega
 ·by_cases h2 : q' < k
  ·rw [if_neg h1, if_pos h2] at h
   have : k = q' := congrArg Prod.fst h
   omega
  ·rw [if_neg h1, if_neg h2] at h
   have : decide (q = k + 1) = decide (q' = k + 1) := congrArg Prod.snd h
   rw [decide_eq_decide] at this
   omega
theorem p_ {k : Nat} {σ : Nat -> Bool} {q j : Nat} (hj : j < k) : (j, σ j) ≠ fct k σ q := by
 intro h
 unfold fct at h
 split at h
 ·have h1 : j = q := congrArg Prod.fst h
  have h2 : σ j = !σ q := congrArg Prod.snd h
  rw [<- h1] at h2
  cases hs : σ j <;> rw [hs] at h2 <;> simp at h2
 ·have h1 : j = k := congrArg Prod.fst h
  omega
theorem uT {k : Nat} (σ : Nat -> Bool) {i : Nat} (hi : i < k + 1) (s : Bool) : (i < k /\ σ i = s) \/ ∃ q, q < k + 2 /\ fct k σ q = (i, s) := by
 by_cases h : i < k
 ·by_cases e : σ i = s
  ·exact .inl ⟨h, e⟩
  ·refine .inr ⟨i, by omega, ?_⟩
   unfold fct
   rw [if_pos h]
   cases hs : σ i <;> cases s <;> simp_all
 ·have : i = k := by omega
  subst this
  cases s
  ·exact .inr ⟨i, by omega, by unfold fct; rw [if_neg (by omega)]; simp⟩
  ·exact .inr ⟨i + 1, by omega, by unfold fct; rw [if_neg (by omega)]; simp⟩
theorem nd {k : Nat} {σ : Nat -> Bool} {z : Nat -> Nat -> Rat} (hz : ∀ j, j < k -> LZ (k + 2) (slk C (k + 1) (j, σ j) z)) {q1 q2 : Nat} (h1 : q1 < k + 2) (h2 : q2 < k + 2) (hne : q1 ≠ q2)
  (t1 : LZ (k + 2) (slk C (k + 1) (fct k σ q1) z)) (t2 : LZ (k + 2) (slk C (k + 1) (fct k σ q2) z)) : False := by
 let φ : Nat -> Nat × Bool := fun p => if p < k then (p, σ p) else if p = k then fct k σ q1 else fct k σ q2
 have φl : ∀ p, p < k + 2 -> (φ p).1 < k + 1 := fun p hp => by
  show (if p < k then (p, σ p) else if p = k then fct k σ q1 else fct k σ q2).1 < k + 1
  split
  ·show p < k + 1; omega
  ·split
   ·exact kY
   ·exact kY
 have φt : ∀ p, p < k + 2 -> LZ (k + 2) (slk C (k + 1) (φ p) z) := fun p hp => by
  show LZ (k + 2) (slk C (k + 1) (if p < k then (p, σ p) else if p = k then fct k σ q1 else fct k σ q2) z)
  split
  ·exact hz p (by assumption)
  ·split
   ·exact t1
   ·exact t2
 have φi : ∀ p p', p < k + 2 -> p' < k + 2 -> φ p = φ p' -> p = p' := fun p p' hp hp' h => by
  have h : (if p < k then (p, σ p) else if p = k then fct k σ q1 else fct k σ q2) = (if p' < k then (p', σ p') else if p' = k then fct k σ q1 else fct k σ q2) := h
  by_cases a : p < k
  ·rw [if_pos a] at h
   by_cases b : p' < k
   ·rw [if_pos b] at h
    exact congrArg Prod.fst h
   ·rw [if_neg b] at h
    split at h
    ·exact absurd h (p_ a)
    ·exact absurd h (p_ a)
  ·rw [if_neg a] at h
   by_cases b : p' < k
   ·rw [if_pos b] at h
    split at h
    ·exact absurd h.symm (p_ b)
    ·exact absurd h.symm (p_ b)
   ·rw [if_neg b] at h
    by_cases a' : p = k
    ·rw [if_pos a'] at h
     by_cases b' : p' = k
     ·omega
     ·rw [if_neg b'] at h
      exact absurd (Bf h1 h2 h) hne
    ·rw [if_neg a'] at h
     by_cases b' : p' = k
     ·rw [if_pos b'] at h
      exact absurd (Bf h2 h1 h).symm hne
     ·omega
 obtain ⟨u, ⟨p0, hp0, hu0⟩, hu⟩ := fl (k + 1) (fun j p => nH C (φ p) j)
 have rhs : ∀ c, c < k + 2 -> sr (k + 2) (fun p => u p * cst (φ p) c) = 0 := fun c hc => by
  have e1 : sr (k + 2) (fun p => u p * slk C (k + 1) (φ p) z c) = 0 := f9 fun p hp => by rw [φt p hp c hc]; grind
  have e2 : sr (k + 2) (fun p => u p * slk C (k + 1) (φ p) z c) = sr (k + 2) (fun p => u p * lin C (k + 1) (φ p) (fun j => z j c)) + sr (k + 2) (fun p => u p * cst (φ p) c) := by
   rw [<- Ea]
   exact dq fun p _ => by unfold slk; grind
  have e3 : sr (k + 2) (fun p => u p * lin C (k + 1) (φ p) (fun j => z j c)) = 0 := by
   have : sr (k + 2) (fun p => u p * lin C (k + 1) (φ p) (fun j => z j c)) = sr (k + 2) (fun p => sr (k + 1) fun j => z j c * (nH C (φ p) j * u p)) := dq fun p hp => by
    rw [mO (φl p hp), <- rY]
    exact dq fun j _ => by grind
   rw [this, Ar (fun j p => z j c * (nH C (φ p) j * u p)) (k + 1) (k + 2)]
   refine f9 fun j hj => ?_
   rw [rY, hu j hj]
   grind
  rw [e2, e3] at e1
  grind
 have ut : ∀ p, p < k + 2 -> (φ p).2 = true -> u p = 0 := fun p hp hs => by
  have h := rhs ((φ p).1 + 1) (by have := φl p hp; omega)
  rw [ug hp fun p' hp' hne' => ?_] at h
  ·unfold cst bb at h
   rw [if_pos hs, if_neg (by omega), if_pos rfl] at h
   grind
  ·show u p' * cst (φ p') ((φ p).1 + 1) = 0
   unfold cst bb
   by_cases hs' : (φ p').2 = true
   ·rw [if_pos hs', if_neg (by omega), if_neg fun e => hne' (φi p' p hp' hp (Prod.ext (by omega) (by rw [hs, hs'])))]
    grind
   ·rw [if_neg hs']; grind
 apply hu0
 by_cases hs : (φ p0).2 = true
 ·exact ut p0 hp0 hs
 ·have h := hu (φ p0).1 (φl p0 hp0)
  rw [ug hp0 fun p' hp' hne' => ?_] at h
  ·unfold nH at h
   rw [if_neg hs, if_pos rfl] at h
   grind
  ·show nH C (φ p') (φ p0).1 * u p' = 0
   by_cases hs' : (φ p').2 = true
   ·rw [ut p' hp' hs']; grind
   ·unfold nH
    rw [if_neg hs', if_neg fun e => hne' (φi p' p0 hp' hp0 (Prod.ext e.symm (by cases a : (φ p').2 <;> cases b : (φ p0).2 <;> simp_all)))]
    grind
theorem seen {k : Nat} {σ : Nat -> Bool} {d : Nat -> Rat} (hd : ∀ j, j < k -> lin C (k + 1) (j, σ j) d = 0) {j0 : Nat} (h0 : j0 < k + 1) : d j0 = 0 \/ ∃ q, q < k + 2 /\ lin C (k + 1) (fct k σ q) d = d j0 := by
 rcases uT σ h0 false with ⟨h, e⟩ | ⟨q, hq, e⟩
 ·have := hd j0 h
  rw [e] at this
  exact .inl this
 ·exact .inr ⟨q, hq, by rw [e]; rfl⟩
theorem vt {k : Nat} {σ : Nat -> Bool} {z : Nat -> Nat -> Rat} (hz : ∀ j, j < k -> LZ (k + 2) (slk C (k + 1) (j, σ j) z)) {q1 : Nat} (h1 : q1 < k + 2) (t1 : LZ (k + 2) (slk C (k + 1) (fct k σ q1) z))
  {d : Nat -> Rat} (hd : ∀ j, j < k -> lin C (k + 1) (j, σ j) d = 0) (hd1 : lin C (k + 1) (fct k σ q1) d = 0) : ∀ j, j < k + 1 -> d j = 0 := by
 intro j0 h0
 rcases seen hd h0 with h | ⟨q, hq, e⟩
 ·exact h
 ·refine Classical.byContradiction fun hne => ?_
  have hq1 : q1 ≠ q := fun h => by rw [<- h, hd1] at e; exact hne e.symm
  have mv : ∀ f c, slk C (k + 1) f (fun j c => z j c + (- slk C (k + 1) (fct k σ q) z c / d j0) * d j) c = slk C (k + 1) f z c + (- slk C (k + 1) (fct k σ q) z c / d j0) * lin C (k + 1) f d := fun f c => xX f z (fun c => - slk C (k + 1) (fct k σ q) z c / d j0) d c
  refine nd (C := C) (σ := σ) (z := fun j c => z j c + (- slk C (k + 1) (fct k σ q) z c / d j0) * d j) (fun j hj c hc => ?_) h1 hq hq1 (fun c hc => ?_) (fun c hc => ?_)
  ·rw [mv, hd j hj, hz j hj c hc]; grind
  ·rw [mv, hd1, t1 c hc]; grind
  ·rw [mv, e]; grind
theorem bd {k : Nat} {σ : Nat -> Bool} (C0 : ∀ i j, i < k + 1 -> j < k + 1 -> 0 <= C i j) (C1 : ∀ j, j < k + 1 -> ∃ i, i < k + 1 /\ 0 < C i j) {d : Nat -> Rat} (hd : ∀ j, j < k -> lin C (k + 1) (j, σ j) d = 0) {j0 : Nat} (h0 : j0 < k + 1) (hne : d j0 ≠ 0) : ∃ q, q < k + 2 /\ lin C (k + 1) (fct k σ q) d < 0 := by
 refine Classical.byContradiction fun hc => ?_
 have all : ∀ i, i < k + 1 -> ∀ s, 0 <= lin C (k + 1) (i, s) d := fun i hi s => by
  rcases uT σ hi s with ⟨h, e⟩ | ⟨q, hq, e⟩
  ·rw [<- e, hd i h]; grind
  ·rw [<- e]
   refine Classical.byContradiction fun hl => hc ⟨q, hq, by grind⟩
 have dn : ∀ j, j < k + 1 -> 0 <= d j := fun j hj => all j hj false
 obtain ⟨i, hi, hp⟩ := C1 j0 h0
 have h1 : 0 <= - sr (k + 1) (fun j => C i j * d j) := all i hi true
 have h2 : 0 < sr (k + 1) (fun j => C i j * d j) := Eg (fun j hj => Rat.mul_nonneg (C0 i j hi hj) (dn j hj)) h0 (Rat.mul_pos hp (by have := dn j0 h0; grind))
 grind
theorem Ed {r : Rat} (h : 0 < r) : 0 <= 1 / r := by
 rw [Rat.div_def, Rat.one_mul]
 exact Rat.le_of_lt (Rat.inv_pos.mpr h)
def vx (C : Nat -> Nat -> Rat) (k : Nat) (σ : Nat -> Bool) (f : Nat × Bool) : Prop := ∃ z, (∀ i, i < k + 1 -> ∀ s, GE (k + 2) (slk C (k + 1) (i, s) z)) /\ (∀ j, j < k -> LZ (k + 2) (slk C (k + 1) (j, σ j) z)) /\ LZ (k + 2) (slk C (k + 1) f z)
theorem edge {k : Nat} {σ : Nat -> Bool} (C0 : ∀ i j, i < k + 1 -> j < k + 1 -> 0 <= C i j) (C1 : ∀ j, j < k + 1 -> ∃ i, i < k + 1 /\ 0 < C i j) {q1 : Nat} (h1 : q1 < k + 2) (v1 : vx C k σ (fct k σ q1)) :
  ∃ q2, q2 < k + 2 /\ q2 ≠ q1 /\ vx C k σ (fct k σ q2) /\ ∀ q, q < k + 2 -> vx C k σ (fct k σ q) -> q = q1 \/ q = q2 := by
 obtain ⟨z, zf, zs, z1⟩ := v1
 have way : ∃ d : Nat -> Rat, (∃ j, j < k + 1 /\ d j ≠ 0) /\ (∀ j, j < k -> lin C (k + 1) (j, σ j) d = 0) /\ 0 < lin C (k + 1) (fct k σ q1) d := by
  obtain ⟨d, ⟨j0, h0, hne⟩, hd⟩ := fl k (fun i j => nH C (i, σ i) j)
  have hd' : ∀ j, j < k -> lin C (k + 1) (j, σ j) d = 0 := fun j hj => by rw [mO (show j < k + 1 by omega)]; exact hd j hj
  have hn : lin C (k + 1) (fct k σ q1) d ≠ 0 := fun e => hne (vt zs h1 z1 hd' e j0 h0)
  by_cases hp : 0 < lin C (k + 1) (fct k σ q1) d
  ·exact ⟨d, ⟨j0, h0, hne⟩, hd', hp⟩
  ·have neg : ∀ f, lin C (k + 1) f (fun j => 0 + (-1) * d j) = - lin C (k + 1) f d := fun f => by
    rw [mH f (fun _ => 0) d (-1)]
    have : lin C (k + 1) f (fun _ => 0) = 0 := by
     unfold lin
     split
     ·rw [f9 fun j _ => by grind]; grind
     ·rfl
    rw [this]; grind
   refine ⟨fun j => 0 + (-1) * d j, ⟨j0, h0, by dsimp only; grind⟩, fun j hj => by rw [neg, hd' j hj]; grind, by rw [neg]; grind⟩
 obtain ⟨d, ⟨j0, h0, hne⟩, hd, hp⟩ := way
 have ff : ∀ q, GE (k + 2) (slk C (k + 1) (fct k σ q) z) := fun q => zf _ kY _
 obtain ⟨q2, h2, n2, hm⟩ := Du (k + 2) (fun q => lin C (k + 1) (fct k σ q) d < 0) (fun q c => slk C (k + 1) (fct k σ q) z c / (- lin C (k + 1) (fct k σ q) d)) (k + 2) (bd C0 C1 hd h0 hne)
 generalize he2 : lin C (k + 1) (fct k σ q2) d = e2 at n2 hm
 have r0 : GE (k + 2) (fun c => slk C (k + 1) (fct k σ q2) z c / (- e2)) := GE.congr (GE.smul (r := 1 / (- e2)) (Ed (by grind)) (ff q2)) fun c _ => by grind
 have mv : ∀ f c, slk C (k + 1) f (fun j c => z j c + (slk C (k + 1) (fct k σ q2) z c / (- e2)) * d j) c = slk C (k + 1) f z c + (slk C (k + 1) (fct k σ q2) z c / (- e2)) * lin C (k + 1) f d := fun f c => xX f z (fun c => slk C (k + 1) (fct k σ q2) z c / (- e2)) d c
 refine ⟨q2, h2, fun e => by rw [<- e, he2] at hp; grind, ⟨fun j c => z j c + (slk C (k + 1) (fct k σ q2) z c / (- e2)) * d j, fun i hi s => ?_, fun j hj c hc => ?_, fun c hc => ?_⟩, ?_⟩
 ·have key : ∀ f, GE (k + 2) (slk C (k + 1) f z) -> 0 <= lin C (k + 1) f d -> GE (k + 2) (slk C (k + 1) f (fun j c => z j c + (slk C (k + 1) (fct k σ q2) z c / (- e2)) * d j)) := fun f h1 h2 =>
   GE.congr (h1.add (r0.smul h2)) fun c _ => by rw [mv]; grind
  rcases uT σ hi s with ⟨h, e⟩ | ⟨q, hq, e⟩
  ·exact key _ (zf i hi s) (by rw [<- e, hd i h]; grind)
  ·rw [<- e]
   by_cases hl : lin C (k + 1) (fct k σ q) d < 0
   ·have h3 := hm q hq hl
    refine GE.congr (h3.smul (r := - lin C (k + 1) (fct k σ q) d) (by grind)) fun c _ => ?_
    rw [mv]
    generalize lin C (k + 1) (fct k σ q) d = x at *
    generalize slk C (k + 1) (fct k σ q) z c = y at *
    generalize slk C (k + 1) (fct k σ q2) z c / (- e2) = w at *
    grind
   ·exact key _ (ff q) (by grind)
 ·rw [mv, hd j hj, zs j hj c hc]; grind
 ·rw [mv, he2]; grind
 ·intro q hq ⟨z', zf', zs', zq'⟩
  refine Classical.byContradiction fun hno => ?_
  have nq1 : q ≠ q1 := fun e => hno (.inl e)
  have nq2 : q ≠ q2 := fun e => hno (.inr e)
  generalize he1 : lin C (k + 1) (fct k σ q1) d = e1 at hp
  have ff' : ∀ q, GE (k + 2) (slk C (k + 1) (fct k σ q) z') := fun q => zf' _ kY _
  have on : ∀ c, c < k + 2 -> ∀ j, j < k + 1 -> z' j c = z j c + (slk C (k + 1) (fct k σ q1) z' c / e1) * d j := fun c hc => by
   have h3 : ∀ f, lin C (k + 1) f (fun j => (z' j c + (-1) * z j c) + (-(slk C (k + 1) (fct k σ q1) z' c / e1)) * d j) = (slk C (k + 1) f z' c - slk C (k + 1) f z c) - (slk C (k + 1) (fct k σ q1) z' c / e1) * lin C (k + 1) f d := fun f => by
    rw [mH f (fun j => z' j c + (-1) * z j c) d, mH f (fun j => z' j c) (fun j => z j c)]
    unfold slk
    grind
   have h4 := vt zs h1 z1 (d := fun j => (z' j c + (-1) * z j c) + (-(slk C (k + 1) (fct k σ q1) z' c / e1)) * d j) (fun j hj => by rw [h3, hd j hj, zs' j hj c hc, zs j hj c hc]; grind) (by rw [h3, he1, z1 c hc]; grind)
   intro j hj
   have := h4 j hj
   grind
  have sl : ∀ f, f.1 < k + 1 -> ∀ c, c < k + 2 -> slk C (k + 1) f z' c = slk C (k + 1) f z c + (slk C (k + 1) (fct k σ q1) z' c / e1) * lin C (k + 1) f d := fun f hf c hc => by
   have h5 : lin C (k + 1) f (fun j => z' j c) = lin C (k + 1) f (fun j => z j c + (slk C (k + 1) (fct k σ q1) z' c / e1) * d j) := by
    rw [mO hf, mO hf]
    exact dq fun j hj => by rw [on c hc j hj]
   unfold slk at *
   rw [h5, mH f (fun j => z j c) d]
   grind
  have sg : GE (k + 2) (fun c => slk C (k + 1) (fct k σ q1) z' c / e1) := GE.congr (GE.smul (r := 1 / e1) (Ed hp) (ff' q1)) fun c _ => by grind
  by_cases hl : lin C (k + 1) (fct k σ q) d < 0
  ·
   have a1 := hm q hq hl
   have a2 : LZ (k + 2) (fun c => slk C (k + 1) (fct k σ q2) z' c) := by
    refine GE.anti (ff' q2) ?_
    refine GE.congr (a1.smul (r := - e2) (by grind)) fun c hc => ?_
    have b1 := sl (fct k σ q) kY c hc
    have b2 := sl (fct k σ q2) kY c hc
    rw [zq' c hc] at b1
    rw [he2] at b2
    generalize slk C (k + 1) (fct k σ q2) z' c = y2' at *
    generalize slk C (k + 1) (fct k σ q1) z' c / e1 = s at *
    generalize lin C (k + 1) (fct k σ q) d = x at *
    generalize slk C (k + 1) (fct k σ q) z c = y at *
    generalize slk C (k + 1) (fct k σ q2) z c = y2 at *
    have b3 : y / (-x) = s := by grind
    rw [b3, b2]
    grind
   exact nd zs' hq h2 nq2 zq' a2
  ·have a1 : LZ (k + 2) (slk C (k + 1) (fct k σ q) z) := by
    refine GE.anti (ff q) ?_
    refine GE.congr (sg.smul (r := lin C (k + 1) (fct k σ q) d) (by grind)) fun c hc => ?_
    have b1 := sl (fct k σ q) kY c hc
    rw [zq' c hc] at b1
    grind
   exact nd zs hq h1 nq1 a1 z1
end Ns
set_option linter.all false
namespace Ns
open Classical in
noncomputable def ind (p : Prop) : Nat := if p then 1 else 0
theorem w6 {p : Prop} (h : p) : ind p = 1 := by unfold ind; rw [if_pos h]
theorem w5 {p : Prop} (h : ¬ p) : ind p = 0 := by unfold ind; rw [if_neg h]
theorem oR {p q : Prop} (h : p ↔ q) : ind p = ind q := by rw [propext h]
noncomputable def cn : Nat -> (Nat -> Prop) -> Nat
 | 0, _ => 0
 | n + 1, p => cn n p + ind (p n)
theorem vD {p : Nat -> Prop} : ∀ {n : Nat}, (∀ q, q < n -> ¬ p q) -> cn n p = 0
 | 0, _ => rfl
 | n + 1, h => by
  show cn n p + ind (p n) = 0
  rw [vD fun q hq => h q (by omega), w5 (h n (by omega))]
theorem yr {p : Nat -> Prop} {a : Nat} : ∀ {n : Nat}, a < n -> p a -> (∀ q, q < n -> p q -> q = a) -> cn n p = 1
 | n + 1, ha, pa, h => by
  show cn n p + ind (p n) = 1
  by_cases e : a = n
  ·subst e
   rw [vD fun q hq pq => by have := h q (by omega) pq; omega, w6 pa]
  ·rw [yr (by omega) pa fun q hq pq => h q (by omega) pq, w5 fun pn => e (h n (by omega) pn).symm]
theorem Ez {p : Nat -> Prop} {a b : Nat} : ∀ {n : Nat}, a < n -> b < n -> a ≠ b -> p a -> p b -> (∀ q, q < n -> p q -> q = a \/ q = b) -> cn n p = 2
 | n + 1, ha, hb, hab, pa, pb, h => by
  show cn n p + ind (p n) = 2
  by_cases e : a = n
  ·subst e
   rw [yr (a := b) (by omega) pb fun q hq pq => (h q (by omega) pq).resolve_left (by omega), w6 pa]
  ·by_cases e' : b = n
   ·subst e'
    rw [yr (a := a) (by omega) pa fun q hq pq => (h q (by omega) pq).resolve_right (by omega), w6 pb]
   ·rw [Ez (by omega) (by omega) hab pa pb fun q hq pq => h q (by omega) pq, w5 fun pn => by rcases h n (by omega) pn with z | z <;> omega]
def st (σ : Nat -> Bool) (k : Nat) (b : Bool) : Nat -> Bool := fun j => if j = k then b else σ j
theorem k_ (σ : Nat -> Bool) (k : Nat) (b : Bool) : st σ k b k = b := by unfold st; rw [if_pos rfl]
theorem jP (σ : Nat -> Bool) {k j : Nat} (b : Bool) (h : j ≠ k) : st σ k b j = σ j := by unfold st; rw [if_neg h]
theorem Bh (σ : Nat -> Bool) {i k : Nat} (b c : Bool) (h : i ≠ k) : st (st σ i b) k c = st (st σ k c) i b := by
 funext j
 unfold st
 by_cases h1 : j = k
 ·subst h1
  rw [if_pos rfl, if_neg (Ne.symm h), if_pos rfl]
 ·rw [if_neg h1]
  by_cases h2 : j = i
  ·rw [if_pos h2, if_pos h2]
  ·rw [if_neg h2, if_neg h2, if_neg h1]
def bs : Nat -> ((Nat -> Bool) -> Nat) -> Nat
 | 0, F => F fun _ => false
 | k + 1, F => bs k fun σ => F (st σ k false) + F (st σ k true)
theorem nj {F G : (Nat -> Bool) -> Nat} : ∀ {k : Nat}, (∀ σ, F σ = G σ) -> bs k F = bs k G
 | 0, h => h _
 | k + 1, h => nj (k := k) fun σ => by rw [h, h]
theorem yI (F G : (Nat -> Bool) -> Nat) : ∀ k, bs k (fun σ => F σ + G σ) = bs k F + bs k G
 | 0 => rfl
 | k + 1 => by
  show bs k (fun σ => (F (st σ k false) + G (st σ k false)) + (F (st σ k true) + G (st σ k true))) = bs k _ + bs k _
  rw [<- yI]
  exact nj fun σ => by omega
theorem pQ : ∀ {k : Nat} {F : (Nat -> Bool) -> Nat}, (∀ σ, F σ % 2 = 0) -> bs k F % 2 = 0
 | 0, F, h => h _
 | k + 1, F, h => pQ (k := k) fun σ => by have := h (st σ k false); have := h (st σ k true); omega
theorem yQ {i : Nat} : ∀ {k : Nat} {F : (Nat -> Bool) -> Nat}, i < k -> (∀ σ b, F (st σ i b) = F σ) -> bs k F % 2 = 0
 | k + 1, F, hi, h => by
  by_cases e : i = k
  ·subst e
   exact pQ (k := i) fun σ => by rw [h, h]; omega
  ·exact yQ (i := i) (k := k) (by omega) fun σ b => by rw [Bh σ b false e, Bh σ b true e, h, h]
theorem Bk : ∀ {n : Nat} {F : (Nat -> Bool) -> Nat}, (∀ τ, (∃ i, i < n /\ τ i = true) -> F τ = 0) -> (∀ τ, (∀ i, i < n -> τ i = false) -> F τ = 1) -> bs n F = 1
 | 0, F, _, h1 => h1 _ fun i hi => absurd hi (by omega)
 | n + 1, F, h0, h1 => by
  refine Bk (n := n) (fun τ ⟨i, hi, ht⟩ => ?_) fun τ ht => ?_
  ·rw [h0 (st τ n false) ⟨i, by omega, by rw [jP _ _ (by omega)]; exact ht⟩, h0 (st τ n true) ⟨n, by omega, k_ ..⟩]
  ·rw [h1 (st τ n false) fun i hi => ?_, h0 (st τ n true) ⟨n, by omega, k_ ..⟩]
   by_cases e : i = n
   ·rw [e]; exact k_ ..
   ·rw [jP _ _ e]; exact ht i (by omega)
variable {C : Nat -> Nat -> Rat}
theorem mW {k : Nat} {σ τ : Nat -> Bool} {f : Nat × Bool} (h : ∀ j, j < k -> σ j = τ j) : vx C k σ f -> vx C k τ f := fun ⟨z, a, b, c⟩ => ⟨z, a, fun j hj => by rw [<- h j hj]; exact b j hj, c⟩
theorem Ba {k i : Nat} (hi : i < k) (σ : Nat -> Bool) (b : Bool) : vx C k (st σ i b) (i, !(st σ i b i)) -> vx C k σ (i, !σ i) := by
 rintro ⟨z, z1, z2, z3⟩
 rw [k_] at z3
 have h2 := z2 i hi
 rw [k_] at h2
 refine ⟨z, z1, fun j hj => ?_, ?_⟩
 ·by_cases e : j = i
  ·subst e
   cases hb : b <;> cases hs : σ j <;> rw [hb] at h2 z3
   ·exact h2
   ·exact z3
   ·exact z3
   ·exact h2
  ·have := z2 j hj
   rw [jP _ _ e] at this
   exact this
 ·cases hb : b <;> cases hs : σ i <;> rw [hb] at h2 z3
  ·exact z3
  ·exact h2
  ·exact h2
  ·exact z3
theorem HH {k i : Nat} (hi : i < k) (σ : Nat -> Bool) (b : Bool) : ind (vx C k (st σ i b) (i, !(st σ i b i))) = ind (vx C k σ (i, !σ i)) := by
 refine oR ⟨Ba hi σ b, fun h => ?_⟩
 have e : st (st σ i b) i (σ i) = σ := by
  funext j
  by_cases h : j = i
  ·rw [h]; exact k_ ..
  ·rw [jP _ _ h, jP _ _ h]
 refine Ba hi (st σ i b) (σ i) ?_
 rw [e]
 exact h
theorem places (k : Nat) (C0 : ∀ i j, i < k + 1 -> j < k + 1 -> 0 <= C i j) (C1 : ∀ j, j < k + 1 -> ∃ i, i < k + 1 /\ 0 < C i j) :
  ∃ τ : Nat -> Bool, (∃ i, i < k + 1 /\ τ i = true) /\ vx C k τ (k, τ k) := by
 refine Classical.byContradiction fun hno => ?_
 have e1 : bs k (fun σ => cn (k + 2) fun q => vx C k σ (fct k σ q)) % 2 = 0 := pQ fun σ => by
  by_cases h : ∃ q, q < k + 2 /\ vx C k σ (fct k σ q)
  ·obtain ⟨q1, h1, v1⟩ := h
   obtain ⟨q2, h2, hne, v2, hu⟩ := edge C0 C1 h1 v1
   rw [Ez h1 h2 (Ne.symm hne) v1 v2 hu]
  ·rw [vD fun q hq v => h ⟨q, hq, v⟩]
 have e2 : ∀ n, n <= k -> bs k (fun σ => cn n fun q => vx C k σ (fct k σ q)) % 2 = 0 := by
  intro n
  induction n with
  | zero => exact fun _ => pQ fun σ => rfl
  | succ n ih =>
   intro hn
   have h1 : bs k (fun σ => cn (n + 1) fun q => vx C k σ (fct k σ q)) = bs k (fun σ => cn n fun q => vx C k σ (fct k σ q)) + bs k (fun σ => ind (vx C k σ (fct k σ n))) := yI _ _ k
   have h2 : bs k (fun σ => ind (vx C k σ (fct k σ n))) % 2 = 0 := by
    have h3 : bs k (fun σ => ind (vx C k σ (fct k σ n))) = bs k (fun σ => ind (vx C k σ (n, !σ n))) := nj fun σ => by
     unfold fct
     rw [if_pos (by omega)]
    rw [h3]
    exact yQ (i := n) (by omega) fun σ b => HH (by omega) σ b
   have := ih (by omega)
   omega
 have e3 : bs k (fun σ => cn (k + 2) fun q => vx C k σ (fct k σ q)) = bs k (fun σ => cn k fun q => vx C k σ (fct k σ q)) + bs (k + 1) (fun τ => ind (vx C k τ (k, τ k))) := by
  rw [show bs (k + 1) (fun τ => ind (vx C k τ (k, τ k))) = bs k (fun σ => ind (vx C k (st σ k false) (k, st σ k false k)) + ind (vx C k (st σ k true) (k, st σ k true k))) from rfl, <- yI]
  refine nj fun σ => ?_
  show cn k _ + ind (vx C k σ (fct k σ k)) + ind (vx C k σ (fct k σ (k + 1))) = _
  have f1 : fct k σ k = (k, false) := by unfold fct; rw [if_neg (by omega)]; simp
  have f2 : fct k σ (k + 1) = (k, true) := by unfold fct; rw [if_neg (by omega)]; simp
  rw [f1, f2, k_, k_, Nat.add_assoc]
  congr 2
  ·exact oR ⟨mW fun j hj => (jP _ _ (by omega)).symm, mW fun j hj => jP _ _ (by omega)⟩
  ·exact oR ⟨mW fun j hj => (jP _ _ (by omega)).symm, mW fun j hj => jP _ _ (by omega)⟩
 have e4 : bs (k + 1) (fun τ => ind (vx C k τ (k, τ k))) = 1 := by
  refine Bk (fun τ ht => w5 fun h => hno ⟨τ, ht, h⟩) fun τ ht => w6 ?_
  have z0 : ∀ f, lin C (k + 1) f (fun _ => (0 : Rat)) = 0 := fun f => by
   unfold lin
   split
   ·rw [f9 fun j _ => by grind]; grind
   ·rfl
  have s0 : ∀ i, LZ (k + 2) (slk C (k + 1) (i, false) fun _ _ => 0) := fun i c _ => by
   unfold slk
   rw [z0]
   show (0 : Rat) + 0 = 0
   grind
  refine ⟨fun _ _ => 0, fun i hi s => ?_, fun j hj => by rw [ht j (by omega)]; exact s0 j, by rw [ht k (by omega)]; exact s0 k⟩
  cases s
  ·exact .inl (s0 i)
  ·refine .inr ⟨0, by omega, fun c hc => absurd hc (by omega), ?_⟩
   unfold slk
   rw [z0]
   show (0 : Rat) < 0 + 1
   grind
 have := e2 k (Nat.le_refl _)
 omega
theorem nash_z (k : Nat) (C0 : ∀ i j, i < k + 1 -> j < k + 1 -> 0 <= C i j) (C1 : ∀ j, j < k + 1 -> ∃ i, i < k + 1 /\ 0 < C i j) :
  ∃ w : Nat -> Rat, (∀ i, i < k + 1 -> 0 <= w i) /\ (∀ i, i < k + 1 -> sr (k + 1) (fun j => C i j * w j) <= 1) /\ (∀ i, i < k + 1 -> w i = 0 \/ sr (k + 1) (fun j => C i j * w j) = 1) /\ ∃ i, i < k + 1 /\ sr (k + 1) (fun j => C i j * w j) = 1 := by
 obtain ⟨τ, ⟨i0, hi0, ht0⟩, z, zf, zs, zk⟩ := places k C0 C1
 have all : ∀ j, j < k + 1 -> LZ (k + 2) (slk C (k + 1) (j, τ j) z) := fun j hj => by
  by_cases e : j = k
  ·rw [e]; exact zk
  ·exact zs j (by omega)
 have sF : ∀ i, slk C (k + 1) (i, false) z 0 = z i 0 := fun i => by
  show z i 0 + 0 = z i 0
  grind
 have sT : ∀ i, slk C (k + 1) (i, true) z 0 = 1 - sr (k + 1) (fun j => C i j * z j 0) := fun i => by
  show - sr (k + 1) (fun j => C i j * z j 0) + 1 = _
  grind
 refine ⟨fun j => z j 0, fun i hi => ?_, fun i hi => ?_, fun i hi => ?_, i0, hi0, ?_⟩
 ·have := (zf i hi false).lead (by omega)
  rw [sF] at this
  exact this
 ·have := (zf i hi true).lead (by omega)
  rw [sT] at this
  grind
 ·have := all i hi 0 (by omega)
  cases h : τ i
  ·rw [h, sF] at this
   exact .inl this
  ·rw [h, sT] at this
   exact .inr (by grind)
 ·have := all i0 hi0 0 (by omega)
  rw [ht0, sT] at this
  grind
end Ns
#print axioms Ns.nash_z
set_option linter.all false
namespace Ns
theorem wd (w : Rat) : w * ((w.den : Int) : Rat) = (w.num : Rat) := by
 have h : w = (w.num : Rat) / ((w.den : Int) : Rat) := by
  rw [<- Rat.divInt_eq_div, Rat.num_divInt_den]
 have hn : ((w.den : Int) : Rat) ≠ 0 := by
  have := w.den_nz
  intro e
  have := Rat.intCast_inj (a := (w.den : Int)) (b := 0) |>.mp e
  omega
 generalize ((w.den : Int) : Rat) = d at *
 generalize (w.num : Rat) = n at *
 grind
theorem common (w : Nat -> Rat) : ∀ n, ∃ (D : Int) (W : Nat -> Int), 0 < D /\ ∀ i, i < n -> w i * (D : Rat) = (W i : Rat)
 | 0 => ⟨1, fun _ => 0, by decide, fun i h => absurd h (by omega)⟩
 | n + 1 => by
  obtain ⟨D, W, hD, h⟩ := common w n
  refine ⟨D * (w n).den, fun i => if i = n then (w n).num * D else W i * (w n).den, Int.mul_pos hD (by have := (w n).den_pos; omega), fun i hi => ?_⟩
  dsimp only
  by_cases e : i = n
  ·subst e
   rw [if_pos rfl, Rat.intCast_mul, Rat.intCast_mul]
   rw [<- wd (w i)]
   grind
  ·have := h i (by omega)
   rw [if_neg e, Rat.intCast_mul, Rat.intCast_mul, <- this]
   grind
theorem Dv (f : Nat -> Int) : ∀ n, sr n (fun j => (f j : Rat)) = ((Gm.sm n f : Int) : Rat)
 | 0 => rfl
 | n + 1 => by
  show sr n (fun j => (f j : Rat)) + (f n : Rat) = ((Gm.sm n f + f n : Int) : Rat)
  rw [Dv f n, Rat.intCast_add]
theorem qH (f : Nat -> Int) (m : Nat) : ∀ n, Gm.sm (m + n) f = Gm.sm m f + Gm.sm n fun j => f (m + j)
 | 0 => by show Gm.sm m f = Gm.sm m f + 0; omega
 | n + 1 => by
  show Gm.sm (m + n) f + f (m + n) = Gm.sm m f + (Gm.sm n (fun j => f (m + j)) + f (m + n))
  rw [qH f m n]
  omega
theorem nash {a b : Nat -> Nat -> Int} {m n : Nat} {s : Int} (hm : 0 < m) (hn : 0 < n) (ha : ∀ i j, i < m -> j < n -> 0 < a i j + s) (hb : ∀ i j, i < m -> j < n -> 0 < b j i + s) :
  ∃ (x y : Nat -> Int) (X S N M : Int), Gm.Pt a m n y S N /\ Gm.Pt b n m x X M /\ (∀ i, i < m -> x i = 0 \/ Gm.sm n (fun j => a i j * y j) = N) /\ ∀ j, j < n -> y j = 0 \/ Gm.sm m (fun i => b j i * x i) = M := by
 obtain ⟨k, hk⟩ : ∃ k, m + n = k + 1 := ⟨m + n - 1, by omega⟩
 let c : Nat -> Nat -> Int := fun i j => if i < m then (if j < m then 0 else a i (j - m) + s) else (if j < m then b (i - m) j + s else 0)
 have c0 : ∀ i j, i < m + n -> j < m + n -> 0 <= c i j := fun i j hi hj => by
  show 0 <= if i < m then (if j < m then 0 else a i (j - m) + s) else (if j < m then b (i - m) j + s else 0)
  split
  ·split
   ·omega
   ·have := ha i (j - m) (by omega) (by omega); omega
  ·split
   ·have := hb j (i - m) (by omega) (by omega); omega
   ·omega
 obtain ⟨w, w0, w1, w2, i0, hi0, w3⟩ := nash_z (C := fun i j => (c i j : Rat)) k (fun i j hi hj => by have := c0 i j (by omega) (by omega); exact Rat.intCast_nonneg.mpr this) (fun j hj => by
  by_cases h : j < m
  ·refine ⟨m, by omega, ?_⟩
   have : 0 < c m j := by
    show 0 < if m < m then (if j < m then 0 else a m (j - m) + s) else (if j < m then b (m - m) j + s else 0)
    rw [if_neg (by omega), if_pos h]
    exact hb j (m - m) h (by omega)
   exact Rat.intCast_pos.mpr this
  ·refine ⟨0, by omega, ?_⟩
   have : 0 < c 0 j := by
    show 0 < if 0 < m then (if j < m then 0 else a 0 (j - m) + s) else (if j < m then b (0 - m) j + s else 0)
    rw [if_pos hm, if_neg h]
    exact ha 0 (j - m) hm (by omega)
   exact Rat.intCast_pos.mpr this)
 obtain ⟨D, W, hD, hW⟩ := common w (k + 1)
 have hDq : (0 : Rat) < (D : Rat) := Rat.intCast_pos.mpr hD
 have sums : ∀ i, sr (k + 1) (fun j => (c i j : Rat) * w j) * (D : Rat) = ((Gm.sm (k + 1) (fun j => c i j * W j) : Int) : Rat) := fun i => by
  rw [<- Dv, Rat.mul_comm, <- rY]
  refine dq fun j hj => ?_
  rw [Rat.intCast_mul, <- hW j hj]
  grind
 have nn : ∀ i, i < m + n -> 0 <= W i := fun i hi => by
  have h1 := Rat.mul_nonneg (w0 i (by omega)) (Rat.le_of_lt hDq)
  rw [hW i (by omega)] at h1
  exact Rat.intCast_nonneg.mp h1
 have le : ∀ i, i < m + n -> Gm.sm (k + 1) (fun j => c i j * W j) <= D := fun i hi => by
  have h1 := Rat.mul_le_mul_of_nonneg_right (w1 i (by omega)) (Rat.le_of_lt hDq)
  rw [sums, Rat.one_mul] at h1
  exact Rat.intCast_le_intCast.mp h1
 have eq : ∀ i, i < m + n -> sr (k + 1) (fun j => (c i j : Rat) * w j) = 1 -> Gm.sm (k + 1) (fun j => c i j * W j) = D := fun i hi h => by
  have h1 := sums i
  rw [h, Rat.one_mul] at h1
  exact (Rat.intCast_inj.mp h1).symm
 have cp : ∀ i, i < m + n -> W i = 0 \/ Gm.sm (k + 1) (fun j => c i j * W j) = D := fun i hi => by
  rcases w2 i (by omega) with h | h
  ·have h1 := hW i (by omega)
   rw [h, Rat.zero_mul] at h1
   exact .inl (Rat.intCast_inj.mp (h1.symm))
  ·exact .inr (eq i hi h)
 have rowS : ∀ i, i < m -> Gm.sm (k + 1) (fun j => c i j * W j) = Gm.sm n (fun j => a i j * W (m + j)) + s * Gm.sm n (fun j => W (m + j)) := fun i hi => by
  rw [<- hk, qH]
  have e1 : Gm.sm m (fun j => c i j * W j) = 0 := by
   rw [Gm.sm_congr (g := fun _ => 0) fun j hj => ?_, Gm.sm_zero]
   show (if i < m then (if j < m then 0 else a i (j - m) + s) else (if j < m then b (i - m) j + s else 0)) * W j = 0
   rw [if_pos hi, if_pos hj, Int.zero_mul]
  rw [e1, <- Gm.sm_mul, <- Gm.sm_add, Int.zero_add]
  refine Gm.sm_congr fun j hj => ?_
  show (if i < m then (if m + j < m then 0 else a i (m + j - m) + s) else (if m + j < m then b (i - m) (m + j) + s else 0)) * W (m + j) = _
  rw [if_pos hi, if_neg (by omega), show m + j - m = j by omega, Int.add_mul]
 have colS : ∀ j, j < n -> Gm.sm (k + 1) (fun i => c (m + j) i * W i) = Gm.sm m (fun i => b j i * W i) + s * Gm.sm m W := fun j hj => by
  rw [<- hk, qH]
  have e1 : Gm.sm n (fun i => c (m + j) (m + i) * W (m + i)) = 0 := by
   rw [Gm.sm_congr (g := fun _ => 0) fun i hi => ?_, Gm.sm_zero]
   show (if m + j < m then (if m + i < m then 0 else a (m + j) (m + i - m) + s) else (if m + i < m then b (m + j - m) (m + i) + s else 0)) * W (m + i) = 0
   rw [if_neg (by omega), if_neg (by omega), Int.zero_mul]
  rw [e1, <- Gm.sm_mul, <- Gm.sm_add, Int.add_zero]
  refine Gm.sm_congr fun i hi => ?_
  show (if m + j < m then (if i < m then 0 else a (m + j) (i - m) + s) else (if i < m then b (m + j - m) i + s else 0)) * W i = _
  rw [if_neg (by omega), if_pos hi, show m + j - m = j by omega, Int.add_mul]
 have xpos : (∃ i, i < m /\ 0 < W i) -> ∃ j, j < n /\ 0 < W (m + j) := by
  rintro ⟨i, hi, h⟩
  refine Classical.byContradiction fun hc => ?_
  have z : ∀ j, j < n -> W (m + j) = 0 := fun j hj => by
   have := nn (m + j) (by omega)
   refine Classical.byContradiction fun hz => hc ⟨j, hj, by omega⟩
  rcases cp i (by omega) with h' | h'
  ·omega
  ·rw [rowS i hi, Gm.sm_congr (g := fun _ => 0) (fun j hj => by rw [z j hj, Int.mul_zero]), Gm.sm_zero, Gm.sm_congr (g := fun _ => 0) (fun j hj => z j hj), Gm.sm_zero] at h'
   omega
 have ypos : (∃ j, j < n /\ 0 < W (m + j)) -> ∃ i, i < m /\ 0 < W i := by
  rintro ⟨j, hj, h⟩
  refine Classical.byContradiction fun hc => ?_
  have z : ∀ i, i < m -> W i = 0 := fun i hi => by
   have := nn i (by omega)
   refine Classical.byContradiction fun hz => hc ⟨i, hi, by omega⟩
  rcases cp (m + j) (by omega) with h' | h'
  ·omega
  ·rw [colS j hj, Gm.sm_congr (g := fun _ => 0) (fun i hi => by rw [z i hi, Int.mul_zero]), Gm.sm_zero, Gm.sm_congr (f := W) (g := fun _ => 0) (fun i hi => z i hi), Gm.sm_zero] at h'
   omega
 have both : (∃ i, i < m /\ 0 < W i) /\ ∃ j, j < n /\ 0 < W (m + j) := by
  have h1 := eq i0 (by omega) w3
  have h2 : ∃ j, j < k + 1 /\ 0 < W j := by
   refine Classical.byContradiction fun hc => ?_
   have z : ∀ j, j < k + 1 -> W j = 0 := fun j hj => by
    have := nn j (by omega)
    refine Classical.byContradiction fun hz => hc ⟨j, hj, by omega⟩
   rw [Gm.sm_congr (g := fun _ => 0) (fun j hj => by rw [z j hj, Int.mul_zero]), Gm.sm_zero] at h1
   omega
  obtain ⟨j, hj, hp⟩ := h2
  by_cases h : j < m
  ·exact ⟨⟨j, h, hp⟩, xpos ⟨j, h, hp⟩⟩
  ·have : ∃ j, j < n /\ 0 < W (m + j) := ⟨j - m, by omega, by rw [show m + (j - m) = j by omega]; exact hp⟩
   exact ⟨ypos this, this⟩
 obtain ⟨⟨i1, hi1, p1⟩, j1, hj1, p2⟩ := both
 have S0 : 0 < Gm.sm n fun j => W (m + j) := Gm.sm_pos (fun j hj => nn (m + j) (by omega)) ⟨j1, hj1, p2⟩
 have X0 : 0 < Gm.sm m W := Gm.sm_pos (fun i hi => nn i (by omega)) ⟨i1, hi1, p1⟩
 have tr : ∀ i, i < m -> W i = 0 \/ Gm.sm n (fun j => a i j * W (m + j)) = D - s * Gm.sm n fun j => W (m + j) := fun i hi => by
  rcases cp i (by omega) with h | h
  ·exact .inl h
  ·rw [rowS i hi] at h; exact .inr (by omega)
 have tc : ∀ j, j < n -> W (m + j) = 0 \/ Gm.sm m (fun i => b j i * W i) = D - s * Gm.sm m W := fun j hj => by
  rcases cp (m + j) (by omega) with h | h
  ·exact .inl h
  ·rw [colS j hj] at h; exact .inr (by omega)
 refine ⟨W, fun j => W (m + j), Gm.sm m W, Gm.sm n fun j => W (m + j), D - s * Gm.sm n fun j => W (m + j), D - s * Gm.sm m W, ⟨S0, fun j hj => nn (m + j) (by omega), rfl, fun i hi => ?_, i1, hi1, ?_⟩, ⟨X0, fun i hi => nn i (by omega), rfl, fun j hj => ?_, j1, hj1, ?_⟩, tr, tc⟩
 ·have := le i (by omega)
  rw [rowS i hi] at this
  omega
 ·rcases tr i1 hi1 with h | h
  ·omega
  ·exact h
 ·have := le (m + j) (by omega)
  rw [colS j hj] at this
  omega
 ·rcases tc j1 hj1 with h | h
  ·omega
  ·exact h
end Ns
namespace Gm
structure Sett (U V : List (List Int)) (m n : Nat) (R C R' C' : List Nat) : Prop where
 g : Good2 m n R C
 k : Corner U m n R C
 g' : Good2 n m R' C'
 k' : Corner V n m R' C'
 rows : ∀ i, i < m -> yOf C' (shM V R' C') i = 0 \/ gain U n (yOf C (shM U R C)) i = gain U n (yOf C (shM U R C)) (R.headD 0)
 cols : ∀ j, j < n -> yOf C (shM U R C) j = 0 \/ gain V m (yOf C' (shM V R' C')) j = gain V m (yOf C' (shM V R' C')) (R'.headD 0)
theorem sett {U V : List (List Int)} {m n : Nat} (hm : 0 < m) (hn : 0 < n) (m4 : m <= 4) (n4 : n <= 4) (ha : ∀ i j, i < m -> j < n -> -200 <= cell U i j) (hb : ∀ i j, i < m -> j < n -> -200 <= cell V j i) : ∃ R C R' C', Sett U V m n R C R' C' := by
 obtain ⟨x, y, X, S, N, M, P, P', tr, tc⟩ := Ns.nash (a := cell U) (b := cell V) (m := m) (n := n) (s := 201) hm hn (fun i j hi hj => by have := ha i j hi hj; omega) (fun i j hi hj => by have := hb i j hi hj; omega)
 obtain ⟨R, C, g, k, _, hs, ht⟩ := pI P m4 n4
 obtain ⟨R', C', g', k', _, hs', ht'⟩ := pI P' n4 m4
 refine ⟨R, C, R', C', g, k, g', k', fun i hi => ?_, fun j hj => ?_⟩
 ·rcases tr i hi with h | h
  ·exact .inl (hs' i hi h)
  ·exact .inr (ht i hi h)
 ·rcases tc j hj with h | h
  ·exact .inl (hs j hj h)
  ·exact .inr (ht' j hj h)
end Gm
set_option Elab.async false
set_option linter.all false
set_option maxRecDepth 100000
namespace L2
open PySem PySem.Spec PyProof.Rows
def Sz (k : Nat) (x : Int) : Prop := x.natAbs < 2 ^ k
theorem Sz.mono {a b : Nat} {x : Int} (h : Sz a x) (hab : a <= b) : Sz b x := Nat.lt_of_lt_of_le h (Nat.pow_le_pow_right (by decide) hab)
theorem Sz.mul {a b : Nat} {x y : Int} (h : Sz a x) (q : Sz b y) : Sz (a + b) (x * y) := by
 unfold Sz at *
 rw [Int.natAbs_mul, Nat.pow_add]
 exact Nat.mul_lt_mul'' h q
theorem Sz.add {k : Nat} {x y : Int} (h : Sz k x) (q : Sz k y) : Sz (k + 1) (x + y) := by
 unfold Sz at *
 rw [Nat.pow_succ]
 have := Int.natAbs_add_le x y
 omega
theorem Sz.neg {k : Nat} {x : Int} (h : Sz k x) : Sz k (-x) := by
 unfold Sz at *
 rw [Int.natAbs_neg]; exact h
theorem Sz.fst {k : Nat} {a b : Int} (hb : 0 < b) (h : Sz k a) : Sz k (Fr.mk a b).1 := Nat.lt_of_le_of_lt (Fr.mk_fst_le hb) h
theorem Sz.snd {k : Nat} {a b : Int} (hb : 0 < b) (h : Sz k b) : Sz k (Fr.mk a b).2 := by
 unfold Sz at *
 have h1 := Fr.mk_snd_le (a := a) hb
 have h2 := Fr.mk_pos (a := a) hb
 omega
theorem Sz.log {k : Nat} {x : Int} (h : Sz k x) (hk : 0 < k) : x.natAbs.log2 < k := by
 rcases Nat.eq_zero_or_pos x.natAbs with h0 | hp
 ·rw [h0]; simpa using hk
 ·exact (Nat.log2_lt (Nat.ne_of_gt hp)).mpr h
theorem Sz.bits {x : Int} (h : Sz 4000 x) : Builtin.Int.intBits x <= 2 ^ 20 := by
 unfold Builtin.Int.intBits
 split
 ·exact Nat.zero_le _
 ·have := h.log (by decide)
  have e : (2 : Nat) ^ 20 = 1048576 := by decide
  omega
variable {X : Cx}
def J4 (i j : Int) : Prop := Sz 4000 i /\ Sz 4000 j
theorem cF : OpR X (binaryOp .Mult) (rI J4 fun i j => .int (i * j)) := opI fun _ _ _ _ _ _ _ hc q => mul_int q (IntMulOk.of_bits hc.1.bits hc.2.bits)
theorem oh {i j : Int} (h0 : 0 < j) (h : Sz 8000 j) : G8 i j := ⟨h0, Nat.lt_of_lt_of_le (h.log (by decide)) (by decide)⟩
theorem peF (K : PySem.W.Frag) {e : Expr} {f : Str} {pos : Pos} {ta : TE} (he : PE X e ta) (hb : attributeBase e f X.env (eval e X.env) = eval e X.env) (h : X.K = K := by rfl) : PE X (.Attribute e f pos) (Jr K ta f) := by
 subst h
 exact bB he hb
structure Pq (q : Int × Int) : Prop where
 pos : 0 < q.2
 cop : Int.gcd q.1 q.2 = 1
theorem Pq.mk_eq {q : Int × Int} (h : Pq q) : Fr.mk q.1 q.2 = q := by
 have := h.cop
 unfold Fr.mk
 rw [this]
 simp
theorem Pq.of {a b : Int} (h : 0 < b) : Pq (Fr.mk a b) := ⟨Fr.mk_pos h, Fr.mk_cop h⟩
structure GQ (qs : List (Int × Int)) : Prop where
 pr : ∀ q ∈ qs, Pq q
 s1 : ∀ q ∈ qs, Sz 60 q.1
 s2 : ∀ q ∈ qs, Sz 60 q.2
 len : qs.length <= 8
def stp (a : Int × Int) (x : Int × (Int × Int)) : Int × Int := (a.1 * x.2.2 + x.1 * x.2.1 * a.2, a.2 * x.2.2)
def acc (l : List (Int × (Int × Int))) : Int × Int := l.foldl stp (0, 1)
theorem yK (l : List (Int × (Int × Int))) (x : Int × (Int × Int)) : acc (l ++ [x]) = stp (acc l) x := by
 unfold acc
 rw [List.foldl_append]
 rfl
theorem rJ {l : List (Int × (Int × Int))} {i : Nat} {x : Int × (Int × Int)} (h : l[i]? = some x) : acc (l.take (i + 1)) = stp (acc (l.take i)) x := by
 rw [List.take_add_one, h]
 exact yK _ _
def GX (l : List (Int × (Int × Int))) : Prop := ∀ x ∈ l, Sz 9 x.1 /\ Pq x.2 /\ Sz 60 x.2.1 /\ Sz 60 x.2.2
theorem sZ : ∀ (k : Nat) (l : List (Int × (Int × Int))), l.length = k -> GX l -> 0 < (acc l).2 /\ Sz (70 + 61 * k) (acc l).1 /\ Sz (1 + 60 * k) (acc l).2
 | 0, l, h, _ => by
  have := List.eq_nil_of_length_eq_zero h
  subst this
  exact ⟨by decide, show Sz 70 0 from by unfold Sz; exact Nat.pow_pos (by decide), show Sz 1 1 from by unfold Sz; decide⟩
 | k + 1, l, h, g => by
  have hne : l ≠ [] := fun e => by rw [e] at h; simp at h
  have e : l = l.dropLast ++ [l.getLast hne] := (List.dropLast_concat_getLast hne).symm
  obtain ⟨h1, h2, h3, h4⟩ := g _ (List.getLast_mem hne)
  have ih := sZ k l.dropLast (by rw [List.length_dropLast]; omega) fun x hx => g x (List.dropLast_subset l hx)
  rw [e, yK]
  unfold stp
  refine ⟨Int.mul_pos ih.1 h2.pos, ?_, ?_⟩
  ·have a1 : Sz (130 + 61 * k) ((acc l.dropLast).1 * (l.getLast hne).2.2) := (ih.2.1.mul h4).mono (by omega)
   have a2 : Sz (130 + 61 * k) ((l.getLast hne).1 * (l.getLast hne).2.1 * (acc l.dropLast).2) := ((h1.mul h3).mul ih.2.2).mono (by omega)
   exact (a1.add a2).mono (by omega)
  ·exact (ih.2.2.mul h4).mono (by omega)
theorem GX.take {l : List (Int × (Int × Int))} (g : GX l) (i : Nat) : GX (l.take i) := fun x hx => g x (List.mem_of_mem_take hx)
def aW (r : List Int) (qs : List (Int × Int)) : Int × Int := Fr.mk (acc (r.zip qs)).1 (acc (r.zip qs)).2
theorem je {r : List Int} {qs : List (Int × Int)} (hr : ∀ x ∈ r, Sz 9 x) (g : GQ qs) : GX (r.zip qs) := fun x hx => by
 have h1 := List.of_mem_zip hx
 exact ⟨hr _ h1.1, g.pr _ h1.2, g.s1 _ h1.2, g.s2 _ h1.2⟩
theorem gO {l : List (Int × (Int × Int))} (g : GX l) : 0 < (acc l).2 := (sZ _ l rfl g).1
theorem uo {l : List (Int × (Int × Int))} (g : GX l) (h : l.length <= 8) : Sz 900 (acc l).1 := (sZ _ l rfl g).2.1.mono (by omega)
theorem oG {l : List (Int × (Int × Int))} (g : GX l) (h : l.length <= 8) : Sz 900 (acc l).2 := (sZ _ l rfl g).2.2.mono (by omega)
theorem pU {r : List Int} {qs : List (Int × Int)} (hr : ∀ x ∈ r, Sz 9 x) (g : GQ qs) : Pq (aW r qs) := Pq.of (gO (je hr g))
theorem tU (r : List Int) {qs : List (Int × Int)} (g : GQ qs) : (r.zip qs).length <= 8 := by
 rw [List.length_zip]
 have := g.len
 omega
theorem dD {r : List Int} {qs : List (Int × Int)} (hr : ∀ x ∈ r, Sz 9 x) (g : GQ qs) : Sz 900 (aW r qs).1 := (uo (je hr g) (tU r g)).fst (gO (je hr g))
theorem dF {r : List Int} {qs : List (Int × Int)} (hr : ∀ x ∈ r, Sz 9 x) (g : GQ qs) : Sz 900 (aW r qs).2 := (oG (je hr g) (tU r g)).snd (gO (je hr g))
theorem Jb {A D x c d : Int} (hD : 0 < D) (hq : Pq (c, d)) :
  Fr.mk ((Fr.mk A D).1 * (Fr.mk (x * c) (1 * d)).2 + (Fr.mk (x * c) (1 * d)).1 * (Fr.mk A D).2) ((Fr.mk A D).2 * (Fr.mk (x * c) (1 * d)).2) = Fr.mk (stp (A, D) (x, (c, d))).1 (stp (A, D) (x, (c, d))).2 := by
 have hd : 0 < 1 * d := by have := hq.pos; simp only at this; omega
 rw [Fr.mk_add hD hd]
 unfold stp
 simp only [Int.one_mul]
theorem Hv {A D c d : Int} (hD : 0 < D) (hq : Pq (c, d)) :
  Fr.mk ((Fr.mk A D).1 * d + c * (Fr.mk A D).2) ((Fr.mk A D).2 * d) = Fr.mk (stp (A, D) (1, (c, d))).1 (stp (A, D) (1, (c, d))).2 := by
 have e := Fr.mk_add (a := A) (b := D) (c := c) (d := d) hD hq.pos
 have q : Fr.mk c d = (c, d) := hq.mk_eq
 rw [q] at e
 rw [e]
 unfold stp
 simp only [Int.one_mul]
def ones (qs : List (Int × Int)) : List (Int × (Int × Int)) := qs.map fun q => (1, q)
def bT (qs : List (Int × Int)) (n : Nat) : Bool := decide (qs.length = n) && (qs.all fun q => decide (0 <= q.1)) && decide (Fr.mk (acc (ones qs)).1 (acc (ones qs)).2 = (1, 1))
theorem Br {qs : List (Int × Int)} (g : GQ qs) : GX (ones qs) := fun x hx => by
 obtain ⟨q, hq, rfl⟩ := List.mem_map.mp hx
 exact ⟨show Sz 9 1 from by unfold Sz; decide, g.pr q hq, g.s1 q hq, g.s2 q hq⟩
theorem rB : ∀ qs : List (Int × Int), (qs.map fun _ => (1 : Int)).zip qs = ones qs
 | [] => rfl
 | q :: qs => by
  have h := rB qs
  show (1, q) :: (qs.map fun _ => (1 : Int)).zip qs = (1, q) :: ones qs
  rw [h]
def ltQ (p q : Int × Int) : Bool := decide (p.1 * q.2 < q.1 * p.2)
theorem xq (S : Int) (hS : 0 < S) : ∀ (r ws : List Int), (acc (r.zip (mks ws S))).1 * S = Fr.dot r ws * (acc (r.zip (mks ws S))).2 := by
 have go : ∀ (r ws : List Int) (a : Int × Int) (d : Int), a.1 * S = d * a.2 -> ((r.zip (mks ws S)).foldl stp a).1 * S = (d + Fr.dot r ws) * ((r.zip (mks ws S)).foldl stp a).2 := by
  intro r
  induction r with
  | nil =>
   intro ws a d h
   have e : Fr.dot [] ws = 0 := by cases ws <;> rfl
   rw [e]
   simpa using h
  | cons x r ih =>
   intro ws a d h
   cases ws with
   | nil =>
    show a.1 * S = (d + 0) * a.2
    rw [Int.add_zero]; exact h
   | cons w ws =>
    show ((r.zip (mks ws S)).foldl stp (stp a (x, Fr.mk w S))).1 * S = _
    have hr := Fr.mk_ratio (a := w) hS
    rw [ih ws (stp a (x, Fr.mk w S)) (d + x * w) ?_]
    ·show (d + x * w + Fr.dot r ws) * _ = (d + (x * w + Fr.dot r ws)) * _
     rw [Int.add_assoc]
     rfl
    ·unfold stp
     simp only
     generalize Fr.mk w S = q at hr
     grind
 intro r ws
 have := go r ws (0, 1) 0 (by simp)
 rw [Int.zero_add] at this
 exact this
theorem Ei {ws : List Int} {S : Int} (hS : 0 < S) (h1 : ∀ x ∈ ws, Sz 60 x) (h2 : Sz 60 S) (hl : ws.length <= 8) : GQ (mks ws S) := by
 refine ⟨fun q hq => ?_, fun q hq => ?_, fun q hq => ?_, by rw [fj]; exact hl⟩
 ·obtain ⟨x, _, rfl⟩ := List.mem_map.mp hq
  exact Pq.of hS
 ·obtain ⟨x, hx, rfl⟩ := List.mem_map.mp hq
  exact (h1 x hx).fst hS
 ·obtain ⟨x, hx, rfl⟩ := List.mem_map.mp hq
  exact h2.snd hS
theorem nP {r ws : List Int} {S : Int} (hS : 0 < S) (hr : ∀ x ∈ r, Sz 9 x) (g : GQ (mks ws S)) : aW r (mks ws S) = Fr.mk (Fr.dot r ws) S := by
 unfold aW
 exact Fr.mk_cross (gO (je hr g)) hS (xq S hS r ws)
theorem yz : ∀ ws : List Int, Fr.dot (ws.map fun _ => 1) ws = ws.sum
 | [] => rfl
 | w :: ws => by
  show 1 * w + Fr.dot (ws.map fun _ => 1) ws = _
  rw [yz ws, List.sum_cons]; omega
theorem Ge {ws : List Int} {S : Int} {n : Nat} (hS : 0 < S) (g : GQ (mks ws S)) (hl : ws.length = n) (hn : ∀ x ∈ ws, 0 <= x) (hs : ws.sum = S) : bT (mks ws S) n = true := by
 unfold bT
 have e1 : (mks ws S).length = n := by rw [fj, hl]
 have e2 : ((mks ws S).all fun q => decide (0 <= q.1)) = true := by
  rw [List.all_eq_true]
  intro q hq
  obtain ⟨x, hx, rfl⟩ := List.mem_map.mp hq
  exact decide_eq_true (Fr.mk_nonneg hS (hn x hx))
 have e3 : Fr.mk (acc (ones (mks ws S))).1 (acc (ones (mks ws S))).2 = (1, 1) := by
  rw [<- Fr.mk_self hS]
  refine Fr.mk_cross (gO (Br g)) hS ?_
  rw [<- rB]
  have e : ((mks ws S).map fun _ => (1 : Int)) = ws.map fun _ => 1 := by unfold mks; rw [List.map_map]; rfl
  rw [e, xq S hS, yz, hs]
 rw [decide_eq_true e1, e2, decide_eq_true e3]
 rfl
theorem sz9 {x : Int} (h : -200 <= x /\ x <= 200) : Sz 9 x := by
 show x.natAbs < 512
 omega
theorem IsFr.inj {H : Hp} {v : V} {p q : Int × Int} (h : IsFr H v p) (k : IsFr H v q) : p = q := by
 obtain ⟨a, rfl, e⟩ := h
 obtain ⟨b, eb, f⟩ := k
 cases eb
 rw [e] at f
 simp at f
 exact Prod.ext f.1 f.2
theorem IsFr.at {l : Addr} {H : Hp} {v : V} {q : Int × Int} {xs : List V} {o : HO} (hl : H l = some (.lst xs)) (h : IsFr H v q) : IsFr (upd H l o) v q := by
 obtain ⟨b, e, z⟩ := h
 exact ⟨b, e, by rw [aJ (fB z hl (by intro z; cases z))]; exact z⟩
end L2
namespace PySem
theorem Paired.drop1 {α β : Type} {F : α -> β -> Prop} : ∀ {l : List α} {r : List β}, Paired F l r -> Paired F (l.drop 1) (r.drop 1)
 | _, _, .nil => .nil
 | _, _, .cons _ t => t
end PySem
namespace L2
open PySem PySem.Spec PyProof.Rows
theorem IsTab.drop1 {H : Hp} {p : Addr} {vs : List V} {M : List (List Int)} (hp : H p = none) (h : Paired (IsRow H) vs M) : IsTab (upd H p (.lst (vs.drop 1))) p (M.drop 1) :=
 ⟨_, aq, h.drop1.imp2 fun _ _ z => z.mono (ao hp)⟩
structure Isi (K : PySem.W.Frag) (C : Addr) : Prop where
 ha : PySem.W.findIn K (.ref C) "__class__" = some (some (.builtin "object.__class__"))
 hn : PySem.W.specialIn K (.builtin "object.__class__") "__get__" = some (some (.builtin "getset_descriptor.__get__"))
 htk : PySem.W.takesIn K (.builtin "object.__class__") = some true
 hm : PySem.W.mroIn K C (.type "object") = some true
theorem Isi.ty {K : PySem.W.Frag} {C a dx : Addr} {fs : List (Str × V)} {H : Hp} (i : Isi K C) (c : Cls K C) (e : H a = some (.ins C dx fs)) : TyOf K H (.ref a) (.ref C) := .ins e c i.ha i.hn i.htk i.hm
def Li (K : PySem.W.Frag) : List V -> Hp -> VK -> Prop := fun xs H Q => ∃ x t c b, xs = [x, .ref c] /\ TyOf K H x t /\ PySem.W.kitOne K t (.ref c) = some b /\ Q (.bl b) H
end L2
set_option Elab.async false
set_option linter.all false
set_option maxRecDepth 100000
set_option maxHeartbeats 4000000
namespace K11
open PySem L2
def top (i : Nat) : Stmt := PySem.Challenge.pw_unseen_k11_answers_by_hand.main.body.getD i (.Pass ⟨0, 0, 0, 0⟩)
structure Blt (mg : Str -> Option Value) : Prop where
 LEAST_NUMBER : ∃ t, mg "LEAST_NUMBER" = some (.int (-100) t)
 MOST_CARDS : ∃ t, mg "MOST_CARDS" = some (.int (4) t)
 MOST_NUMBER : ∃ t, mg "MOST_NUMBER" = some (.int (100) t)
 abs_ : mg "abs" = none
 all_ : mg "all" = none
 any_ : mg "any" = none
 bool_ : mg "bool" = none
 enumerate_ : mg "enumerate" = none
 int_ : mg "int" = none
 isinstance_ : mg "isinstance" = none
 len_ : mg "len" = none
 list_ : mg "list" = none
 range_ : mg "range" = none
 sum_ : mg "sum" = none
 tuple_ : mg "tuple" = none
 zip_ : mg "zip" = none
def Bl (K : PySem.W.Frag) : Sp := fun vs H Q _ => ∃ (a : Addr) (ns : List Int) (k : Int), vs = [.ref a, .int k] /\ SqL K H a (ns.map V.int) /\ 0 <= k /\ Q (.int (ns.getD k.toNat 0)) H
def mJ : Sp := fun vs H Q _ => ∃ c k m : Int, vs = [.int c, .int k, .int m] /\ 0 < m /\ Q (.int (Fr.draw c k m)) H
def rA : Sp := fun vs H Q _ => ∃ i : Int, vs = [.int i] /\ Q (.bl true) H
def wy : Sp := fun vs H Q _ => ∃ i : Int, vs = [.int i] /\ -100 <= i /\ i <= 100 /\ Q (.bl true) H
def DK : Sp := fun vs H Q _ => ∃ (a : Addr) (r : List Int), vs = [.ref a] /\ H a = some (.lst (r.map V.int)) /\ 1 <= r.length /\ r.length <= 4 /\ (∀ x ∈ r, -100 <= x /\ x <= 100) /\ ∀ H', Same H H' -> Q (.bl true) H'
def yL : Sp := fun vs H Q _ => ∃ (a : Addr) (T : List (List Int)) (m n : Nat), vs = [.ref a] /\ IsTab H a T /\ Good T m n /\ ∀ H', Same H H' -> Q (.bl true) H'
def rD : Sp := fun vs H Q _ => ∃ (a : Addr) (T : List (List Int)) (m n : Nat), vs = [.ref a] /\ IsTab H a T /\ Good T m n /\ ∀ H', Same H H' -> Q .non H'
def vL : Sp := fun vs H Q _ => ∃ (c : Int) (m n : Nat), vs = [.int c, .int m, .int n] /\ 1 <= m /\ m <= 4 /\ 1 <= n /\ n <= 4 /\ ∀ a T H', Same H H' -> IsTab H' a T -> Good T m n -> Q (.ref a) H'
def KC : Sp := fun vs H Q _ => ∃ c : Int, vs = [.int c] /\ ∀ (p : Addr) (m n : Nat) H', 1 <= m -> m <= 4 -> 1 <= n -> n <= 4 -> Same H H' -> H' p = some (.tup [.int m, .int n]) -> Q (.ref p) H'
def ur (K : PySem.W.Frag) : Sp := fun vs H Q _ => ∃ (a : Addr) (ns : List Int), vs = [.ref a] /\ SqL K H a (ns.map V.int) /\ ns.length <= 63 /\ ∀ H', Q (.bl true) H'
section
variable {P : Program} {w : World} {K : PySem.W.Frag} {mg : Str -> Option Value} {base : Heap}
abbrev nQ : Stmt := top 1
theorem zO : FnScope ["thing"] ["thing"] (aH nQ) := ⟨rfl, rfl, rfl, by decide +kernel, rfl, by decide +kernel, by decide +kernel⟩
theorem zX (F : FunM K mg "is_whole" nQ ["thing"]) (T : Blt mg) : Def P w K mg base "is_whole" ["thing"] 1 rA := by
 have S := zO
 refine Def.of F S (fun vs H Q E h => ?_) (fun f cdv A outer s H vs Q E hr h => ?_)
 ·obtain ⟨i, rfl, _⟩ := h
  rfl
 ·obtain ⟨i, rfl, k⟩ := h
  refine ⟨_, (aC (aM (jo (aK (jG K) (by rfl) T.isinstance_ bR (aa (pv 0) (aa (dU (v := .ty "int") rfl T.int_ ye rfl) ak aj) aj) (he := aj)) (gR (lW (aK (jG K) (by rfl) T.isinstance_ bR (aa (pv 0) (aa (dU (v := .ty "bool") rfl T.bool_ vz rfl) ak aj) aj) (he := aj))))))), ?_⟩
  refine ⟨_, rfl, _, _, _, _, rfl, TyOf.int i, rfl, _, rfl, ?_⟩
  refine cX ?_
  exact ⟨_, rfl, _, _, _, _, rfl, TyOf.int i, rfl, _, rfl, k⟩
abbrev lA : Stmt := top 29
theorem yh : FnScope ["number"] ["number"] (aH lA) := ⟨rfl, rfl, rfl, by decide +kernel, rfl, by decide +kernel, by decide +kernel⟩
theorem yj (F : FunM K mg "is_within" lA ["number"]) (T : Blt mg) : Def P w K mg base "is_within" ["number"] 1 wy := by
 have S := yh
 refine Def.of F S (fun vs H Q E h => ?_) (fun f cdv A outer s H vs Q E hr h => ?_)
 ·obtain ⟨i, rfl, _⟩ := h
  rfl
 ·obtain ⟨i, rfl, h1, h2, k⟩ := h
  refine ⟨_, (aC (aM (F_ pW pW (peI T.LEAST_NUMBER rfl) (pv 0) (peI T.MOST_NUMBER rfl)))), ?_⟩
  refine ⟨_, rfl, _, _, rfl, rfl, _, rfl, ?_⟩
  refine ifP (decide_eq_true h1) ?_
  exact ⟨_, _, rfl, rfl, Az h2 k⟩
abbrev rG : Stmt := top 30
theorem Et : FnScope ["thing"] ["thing"] (aH rG) := ⟨rfl, rfl, rfl, by decide +kernel, rfl, by decide +kernel, by decide +kernel⟩
theorem Ew (F : FunM K mg "is_row" rG ["thing"]) (T : Blt mg) (eU : Def P w K mg base "is_whole" ["thing"] 1 rA) (lG : Def P w K mg base "is_within" ["number"] 1 wy) : Def P w K mg base "is_row" ["thing"] 2 DK := by
 have S := Et
 refine Def.of F S (fun vs H Q E h => ?_) (fun f cdv A outer s H vs Q E hr h => ?_)
 ·obtain ⟨a, r, rfl, _⟩ := h
  rfl
 ·obtain ⟨a, r, rfl, ha, h1, h4, hn, k⟩ := h
  refine ⟨_, (aB (bu (PW.pt (cR (bJ (bA (aK (jG K) (by rfl) T.isinstance_ bR (aa (pv 0) (aa (dU (v := .ty "list") rfl T.list_ cD rfl) ak aj) aj) (he := aj)))) (cH (bJ (qZ pW pW aA (aK (bU K) (by rfl) T.len_ bx (aa (pv 0) ak aj) (he := aj)) (peI T.MOST_CARDS rfl))))))
    (aC (aM bQ)) aZ)
   (aC (aM (aK (pN K) (by rfl) T.all_ jt (aa (bj rfl (N' := ["number"]) (src := [none]) rfl (piL K (pv 0)) (fun _ _ _ _ _ => (aP (i := 0) (show (["number"] : List Str).Nodup from by decide +kernel) rfl (Or.inl rfl))) (fun _ _ _ _ _ => bf) (fun _ _ _ _ _ => (jo (aD eU (hr.mono (by decide)) rfl (aa (pv 0) ak aj) (he := aj)) (gR (aD lG (hr.mono (by decide)) rfl (aa (pv 0) ak aj) (he := aj)))))) ak aU) (he := aU))))), ?_⟩
  refine ⟨_, rfl, _, _, _, _, rfl, TyOf.lst ha, rfl, _, rfl, ?_⟩
  refine bK ?_
  refine ⟨_, rfl, a, _, rfl, .inl (SqL.of ha), _, _, rfl, rfl, _, rfl, ?_⟩
  have hl : (r.map V.int).length = r.length := List.length_map ..
  refine ifP (decide_eq_true (by rw [hl]; omega)) ?_
  refine ⟨_, _, rfl, rfl, _, rfl, ?_⟩
  refine GZ (by rw [hl]; omega) ?_
  refine ⟨_, rfl, a, rfl, ⟨_, SqL.of ha⟩, bw (xs := r.map V.int) (fun _ y _ => y = .bl true) (fun _ _ _ _ _ h => h) (SqL.of ha) (by rw [hl]; exact Nat.le_of_lt (aO (by omega))) ?_ ?_⟩
  ·intro x hx H1 s1 Q' q
   obtain ⟨i, hi, rfl⟩ := List.mem_map.mp hx
   refine ⟨_, rfl, i, rfl, _, rfl, ?_⟩
   refine cX ?_
   exact ⟨_, rfl, i, rfl, (hn i hi).1, (hn i hi).2, q _ H1 (Same.refl _) rfl⟩
  ·intro ys H' s' p q hq
   have e := lg p
   subst e
   refine ⟨q, _, rfl, SqL.of aq, ?_⟩
   rw [qW]
   exact k _ (s'.trans (ao hq))
abbrev nM : Stmt := top 31
theorem zW : FnScope ["thing"] ["thing"] (aH nM) := ⟨rfl, rfl, rfl, by decide +kernel, rfl, by decide +kernel, by decide +kernel⟩
theorem Aa (F : FunM K mg "is_table" nM ["thing"]) (T : Blt mg) (qU : Def P w K mg base "is_row" ["thing"] 2 DK) : Def P w K mg base "is_table" ["thing"] 3 yL := by
 have S := zW
 refine Def.of F S (fun vs H Q E h => ?_) (fun f cdv A outer s H vs Q E hr h => ?_)
 ·obtain ⟨a, r, m, n, rfl, _⟩ := h
  rfl
 ·obtain ⟨a, U, m, n, rfl, ⟨vs, ha, hp⟩, g, k⟩ := h
  have hl : vs.length = m := by rw [hp.length, g.rows]
  have m1 := g.m1
  have m4 := g.m4
  have n1 := g.n1
  have n4 := g.n4
  refine ⟨_, (aB (bu (PW.pt (cR (bJ (bA (aK (jG K) (by rfl) T.isinstance_ bR (aa (pv 0) (aa (dU (v := .ty "list") rfl T.list_ cD rfl) ak aj) aj) (he := aj)))) (cH (bJ (qZ pW pW aA (aK (bU K) (by rfl) T.len_ bx (aa (pv 0) ak aj) (he := aj)) (peI T.MOST_CARDS rfl))))))
    (aC (aM bQ)) aZ)
   (aB (bu (bJ (bA (aK (pN K) (by rfl) T.all_ jt (aa (bj rfl (N' := ["row"]) (src := [none]) rfl (piL K (pv 0)) (fun _ _ _ _ _ => (aP (i := 0) (show (["row"] : List Str).Nodup from by decide +kernel) rfl (Or.inl rfl))) (fun _ _ _ _ _ => bf) (fun _ _ _ _ _ => (aD qU (hr.mono (by decide)) rfl (aa (pv 0) ak aj) (he := aj)))) ak aU) (he := aU))))
    (aC (aM bQ)) aZ)
   (aC (aM (aK (pN K) (by rfl) T.all_ jt (aa (bj rfl (N' := ["row", "thing"]) (src := [none, some 0]) rfl (piL K (pv 0)) (fun _ _ _ _ _ => (aP (i := 0) (show (["row", "thing"] : List Str).Nodup from by decide +kernel) rfl (Or.inl rfl))) (fun _ _ _ _ _ => bf) (fun _ _ _ _ _ => (dJ eQ (aK (bU K) (by rfl) T.len_ bx (aa (pv 0) ak aj) (he := aj)) (aK (bU K) (by rfl) T.len_ bx (aa (aQ (ixL K) (pv 1) aA (fun _ _ => rfl)) ak aF) (he := aF)) (a_ _)))) ak aU) (he := aU)))))), ?_⟩
  refine ⟨_, rfl, _, _, _, _, rfl, TyOf.lst ha, rfl, _, rfl, ?_⟩
  refine bK ?_
  refine ⟨_, rfl, a, _, rfl, .inl (SqL.of ha), _, _, rfl, rfl, _, rfl, ?_⟩
  refine ifP (decide_eq_true (by rw [hl]; omega)) ?_
  refine ⟨_, _, rfl, rfl, _, rfl, ?_⟩
  refine GZ (by rw [hl]; omega) ?_
  refine ⟨_, rfl, a, rfl, ⟨_, SqL.of ha⟩, bw (xs := vs) (fun _ y _ => y = .bl true) (fun _ _ _ _ _ h => h) (SqL.of ha) (by rw [hl]; exact Nat.le_of_lt (aO (by omega))) ?_ ?_⟩
  ·intro x hx H1 s1 Q' q
   obtain ⟨r, hr', b, rfl, hb⟩ := hp.mem2 hx
   exact ⟨_, rfl, b, r, rfl, s1 _ _ hb, by rw [g.cols r hr']; exact n1, by rw [g.cols r hr']; exact n4, g.num r hr', fun H2 s2 => q _ H2 s2 rfl⟩
  ·intro ys H' s' p q hq
   have e := lg p
   subst e
   refine ⟨q, _, rfl, SqL.of aq, ?_⟩
   rw [qW]
   refine ⟨_, rfl, ?_⟩
   refine bK ?_
   have s2 := s'.trans (ao (o := .lst ((List.replicate vs.length true).map V.bl)) hq)
   have ha2 := s2 _ _ ha
   refine ⟨_, rfl, a, rfl, ⟨_, SqL.of ha2⟩, bw (xs := vs) (fun _ y _ => y = .bl true) (fun _ _ _ _ _ h => h) (SqL.of ha2) (by rw [hl]; exact Nat.le_of_lt (aO (by omega))) ?_ ?_⟩
   ·intro x hx H1 s1 Q' q'
    obtain ⟨r, hr', b, rfl, hb⟩ := hp.mem2 hx
    have h0 : 0 < vs.length := by omega
    obtain ⟨r0, er0, b0, eb0, hb0⟩ := hp.get2 (List.getElem?_eq_getElem h0)
    have s3 := s2.trans s1
    refine ⟨_, rfl, b, _, rfl, .inl (SqL.of (s3 _ _ hb)), _, rfl, a, vs, 0, _, rfl, rfl, SqL.of (s3 _ _ ha), fM h0, b0, _, (by rw [eb0]), .inl (SqL.of (s3 _ _ hb0)), rfl, ?_⟩
    refine q' _ H1 (Same.refl _) (congrArg V.bl (decide_eq_true ?_))
    rw [List.length_map, List.length_map, g.cols r hr', g.cols r0 (List.mem_of_getElem? er0)]
   ·intro ys H3 s3 p q2 hq2
    have e := lg p
    subst e
    refine ⟨q2, _, rfl, SqL.of aq, ?_⟩
    rw [qW]
    exact k _ ((s2.trans s3).trans (ao hq2))
abbrev jw : Stmt := top 34
theorem uW : FnScope ["thing"] ["thing"] (aH jw) := ⟨rfl, rfl, rfl, by decide +kernel, rfl, by decide +kernel, by decide +kernel⟩
theorem uP (F : FunM K mg "check_table" jw ["thing"]) (T : Blt mg) (m9 : Def P w K mg base "is_table" ["thing"] 3 yL) : Def P w K mg base "check_table" ["thing"] 4 rD := by
 have S := uW
 refine Def.of F S (fun vs H Q E h => ?_) (fun f cdv A outer s H vs Q E hr h => ?_)
 ·obtain ⟨a, r, m, n, rfl, _⟩ := h
  rfl
 ·obtain ⟨a, U, m, n, rfl, hU, g, k⟩ := h
  refine ⟨_, (aC (bu (bJ (bA (aD m9 (hr.mono (by decide)) rfl (aa (pv 0) ak aj) (he := aj))))
    (aC xT) aZ)), ?_⟩
  refine ⟨_, rfl, a, U, m, n, rfl, hU, g, fun H' s' => ⟨_, rfl, ?_⟩⟩
  refine bK ?_
  exact k H' s'
abbrev iR : Stmt := top 58
theorem uc : FnScope ["_law_script", "_law_k"] ["_law_script", "_law_k"] (aH iR) := ⟨rfl, rfl, rfl, by decide +kernel, rfl, by decide +kernel, by decide +kernel⟩
theorem uw (F : FunM K mg "_law_cell_at" iR ["_law_script", "_law_k"]) (T : Blt mg) : Def P w K mg base "_law_cell_at" ["_law_script", "_law_k"] 1 (Bl K) := by
 have S := uc
 refine Def.of F S (fun vs H Q E h => ?_) (fun f cdv A outer s H vs Q E hr h => ?_)
 ·obtain ⟨a, ns, k, rfl, _⟩ := h
  rfl
 ·obtain ⟨a, ns, k, rfl, hS, hk, q⟩ := h
  refine ⟨_, (aB (bu (bh nG (pv 1) (aK (bU K) (by rfl) T.len_ bx (aa (pv 0) ak aj) (he := aj)) (a_ _))
    (aC (aM (aQ (ixL K) (pv 0) (pv 1) (fun _ _ => rfl)))) aZ)
   (aC (aM aA))), ?_⟩
  refine ⟨_, rfl, _, rfl, _, _, rfl, .inl hS, _, _, rfl, rfl, _, rfl, ?_⟩
  refine lR (fun hlt => ?_) (fun hge => ?_)
  ·have hlt' : k < (ns.length : Int) := by simpa using hlt
   have hn : k.toNat < ns.length := by omega
   have e : ns.getD k.toNat 0 = ns[k.toNat] := by simp [List.getD_eq_getElem?_getD, hn]
   refine ⟨_, rfl, _, rfl, _, _, _, _, rfl, rfl, hS, ?_, q⟩
   unfold atI ixN
   rw [if_pos hk, if_pos (by simpa using hlt')]
   simp [hn, List.getD_eq_getElem?_getD]
  ·have hge' : ¬ k < (ns.length : Int) := by simpa using hge
   have e : ns.getD k.toNat 0 = 0 := by
    rw [List.getD_eq_getElem?_getD, List.getElem?_eq_none (by omega)]
    rfl
   rw [e] at q
   exact q
abbrev lu : Stmt := top 59
theorem yx : FnScope ["_law_cell", "_law_k", "_law_many", "_law_mixed"] ["_law_cell", "_law_k", "_law_many"] (aH lu) := ⟨rfl, rfl, rfl, by decide +kernel, rfl, by decide +kernel, by decide +kernel⟩
theorem xF (F : FunM K mg "_law_draw" lu ["_law_cell", "_law_k", "_law_many"]) (T : Blt mg) : Def P w K mg base "_law_draw" ["_law_cell", "_law_k", "_law_many"] 1 mJ := by
 have S := yx
 refine Def.of F S (fun vs H Q E h => ?_) (fun f cdv A outer s H vs Q E hr h => ?_)
 ·obtain ⟨c, k, m, rfl, _⟩ := h
  rfl
 ·obtain ⟨c, k, m, rfl, hm, q⟩ := h
  refine ⟨_, (aB (aY (i := 3) S.nd rfl (Or.inl rfl) (aX eN (aX cU (aX cU (aX jg (aX eN (pv 0) aA) aA) (aX jg (pv 1) aA)) aA) aA))
   (aC (aM (aX eN (aX eN (aX lZ (aX jg (pv 3) (pv 3)) aA) aA) (pv 2))))), ?_⟩
  refine ⟨_, rfl, _, _, rfl, rfl, (by show (0 : Int) < 1000000007; decide), _, _, rfl, rfl, .inr ⟨by decide, by decide⟩, _, rfl, _, _, rfl, rfl, .inr ⟨by decide, by decide⟩, _, _, rfl, rfl, _, _, rfl, rfl, _, _, rfl, rfl, (by show (0 : Int) < 1000000007; decide), ?_⟩
  have h1 := Int.emod_nonneg (c % 1000000007 * 48271 + k * 69621 + 7) (show (1000000007 : Int) ≠ 0 by decide)
  have h2 := Int.emod_lt_of_pos (c % 1000000007 * 48271 + k * 69621 + 7) (show (0 : Int) < 1000000007 by decide)
  exact ⟨_, rfl, _, rfl, _, _, rfl, rfl, .inl ⟨by omega, by omega⟩, _, _, rfl, rfl, ⟨by decide, by decide⟩, _, _, rfl, rfl, (by show (0 : Int) < 1000003; decide), _, rfl, _, _, rfl, rfl, hm, q⟩
abbrev Js : Stmt := top 61
abbrev j4 : Stmt := top 60
theorem wM : FnScope ["_law_cell", "_law_rows", "_law_columns", "_law_most", "_law_found", "_law_row", "_law_kind", "_law_less_here"] ["_law_cell", "_law_rows", "_law_columns"] (aH j4) := ⟨rfl, rfl, rfl, by decide +kernel, rfl, by decide +kernel, by decide +kernel⟩
theorem wX (F : FunM K mg "_law_table" j4 ["_law_cell", "_law_rows", "_law_columns"]) (T : Blt mg) (bG : Def P w K mg base "_law_draw" ["_law_cell", "_law_k", "_law_many"] 1 mJ) : Def P w K mg base "_law_table" ["_law_cell", "_law_rows", "_law_columns"] 2 vL := by
 have S := wM
 refine Def.of F S (fun vs H Q E h => ?_) (fun f cdv A outer s H vs Q E hr h => ?_)
 ·obtain ⟨c, m, n, rfl, _⟩ := h
  rfl
 ·obtain ⟨c, m, n, rfl, m1, m4, n1, n4, k⟩ := h
  refine ⟨_, (aB (aY (i := 3) S.nd rfl (Or.inr rfl) (aQ (ixT K) (bH (HN (.cons (.cons (.cons (.cons .nil)))))) (aD bG (hr.mono (by decide)) rfl (aa (pv 0) (aa aA (aa aA ak aG) aG) aj) (he := aj)) (fun _ _ => rfl)))
   (aB (aY (i := 4) S.nd rfl (Or.inr rfl) (cz ak))
   (aB (cJ PassesOwn.never rfl (cO rfl T.range_ (aa (pv 1) ak aj)) (aP (i := 5) S.nd rfl (Or.inr rfl))
    (aC (cN (ik PySem.F.plainAttrs_list PySem.F.slot_list_append PySem.F.type_list_append dh (pv 4) (aa (bj rfl (N' := ["_law_k", "_law_cell", "_law_row", "_law_most"]) (src := [none, some 0, some 5, some 3]) rfl (cO rfl T.range_ (aa (pv 2) ak aj)) (fun _ _ _ _ _ => (aP (i := 0) (show (["_law_k", "_law_cell", "_law_row", "_law_most"] : List Str).Nodup from by decide +kernel) rfl (Or.inl rfl))) (fun _ _ _ _ _ => bf) (fun _ _ _ _ _ => (aX mD (aD bG (hr.mono (by decide)) rfl (aa (aX cU (aX cU (pv 1) (aX jg aA (pv 2))) (aX jg aA (pv 0))) (aa aA (aa (aX cU (aX jg aA (pv 3)) aA) ak bz) aG) bz) (he := bz)) (pv 3)))) ak aU)))))
   (aB (aY (i := 6) S.nd rfl (Or.inl rfl) (aD bG (hr.mono (by decide)) rfl (aa (pv 0) (aa aA (aa aA ak aG) aG) aj) (he := aj)))
   (aB (bu (bh eQ (pv 6) aA (a_ _))
    (aC (aY (i := 4) S.nd rfl (Or.inr rfl) (bj rfl (N' := ["_law_row", "_law_found", "_law_columns"]) (src := [none, some 4, some 2]) rfl (cO rfl T.range_ (aa (pv 1) ak aj)) (fun _ _ _ _ _ => (aP (i := 0) (show (["_law_row", "_law_found", "_law_columns"] : List Str).Nodup from by decide +kernel) rfl (Or.inl rfl))) (fun _ _ _ _ _ => bf) (fun _ _ _ _ _ => (aX jj (eV (slL K) (aQ (ixL K) (pv 1) aA (fun _ _ => rfl)) (fY (aX eN (pv 0) (pv 2))) gh) (eV (slL K) (aQ (ixL K) (pv 1) aA (fun _ _ => rfl)) gh (fY (aX eN (pv 0) (pv 2))))))))) aZ)
   (aB (bu (PW.pt (oU (bh eQ (pv 6) aA (a_ _)) (mG (bh qg (pv 1) aA (a_ _)))))
    (aB (aY (i := 7) S.nd rfl (Or.inr rfl) (aX mD (aD bG (hr.mono (by decide)) rfl (aa (pv 0) (aa aA (aa aA ak aG) aG) aj) (he := aj)) aA))
   (aC (tX (bj rfl (N' := ["_law_one", "_law_two", "_law_less_here"]) (src := [none, none, some 7]) rfl (pY K rfl T.zip_ (aa (aQ (ixL K) (pv 4) aA (fun _ _ => rfl)) (aa (aQ (ixL K) (pv 4) aA (fun _ _ => rfl)) ak aF) aF)) (fun _ _ _ _ _ => (pgT K (n := 2) (bC (aP (i := 0) (show (["_law_one", "_law_two", "_law_less_here"] : List Str).Nodup from by decide +kernel) rfl (Or.inl rfl)) (bC (aP (i := 1) (show (["_law_one", "_law_two", "_law_less_here"] : List Str).Nodup from by decide +kernel) rfl (Or.inl rfl)) dY)))) (fun _ _ _ _ _ => bf) (fun _ _ _ _ _ => (aX mD (aX lZ (aX cU (pv 0) (pv 1)) aA) (pv 2)))) (zB (pv 4) aA set_list)))) aZ)
   (aC (aM (pv 4))))))))), ?_⟩
  have a1 := Fr.draw_nn c 1 (show (0 : Int) < 4 by decide)
  have a2 := Fr.draw_lt c 1 (show (0 : Int) < 4 by decide)
  obtain ⟨v, hv, v1, v2⟩ := Tb.pick4 a1 a2
  refine ⟨(by show 4 <= sizeLine; decide), fun p hp => ⟨_, rfl, _, _, _, rfl, (by decide), p, _, _, _, rfl, rfl, SqT.of aq, hv, ?_⟩⟩
  refine ⟨Nat.zero_le _, fun l hl => ?_⟩
  have hl0 : H l = none := (ao hp).free hl
  have s0 : Same H (upd (upd H p (.tup (([2, 5, 9, 98] : List Int).map V.int))) l (.lst [])) := (ao hp).trans (ao hl)
  refine ⟨_, rfl, _, rfl, by omega, by omega, jq (n := m) (fun i σ H1 => ∃ o5 vs U, σ = [some (.int c), some (.int m), some (.int n), some (.int v), some (.ref l), o5, none, none] /\ Same H H1 /\ H1 l = some (.lst vs) /\ Paired (RowNe l H1) vs U /\ U.length = i /\
    (∀ r ∈ U, r.length = n) /\ ∀ r ∈ U, ∀ x ∈ r, -98 <= x /\ x <= 98)
   ⟨_, [], [], rfl, s0, aq, .nil, rfl, (fun _ h => nomatch h), fun _ h => nomatch h⟩ ?_ ?_⟩
  ·rintro i σ H1 hi ⟨o5, vs, U, rfl, s1, hL, hP, hU, hc, hb⟩
   refine ⟨_, rfl, .inl ⟨rfl, _, SqL.of hL⟩, _, rfl, _, rfl, by omega, by omega, dz (n := n) (fun _ y _ => ∃ x, y = .int x /\ -98 <= x /\ x <= 98) (fun _ _ _ _ _ h => h) (Nat.le_of_lt (aO (by omega))) ?_ ?_⟩
   ·intro j hj H2 s2 Q' q
    refine ⟨_, rfl, _, rfl, _, _, rfl, rfl, .inl ⟨by decide, by decide⟩, _, _, rfl, rfl, _, rfl, _, _, rfl, rfl, .inl ⟨by decide, by decide⟩, _, _, rfl, rfl, _, rfl, _, _, rfl, rfl, .inl ⟨by decide, by decide⟩, _, _, rfl, rfl, _, _, _, rfl, ?_, _, rfl, _, _, rfl, rfl, q _ H2 (Same.refl _) ⟨_, rfl, ?_⟩⟩
    ·omega
    ·have d1 := Fr.draw_nn (c + 31 * (0 + (i : Int)) + 7 * (j : Int)) 2 (show (0 : Int) < 2 * v + 1 by omega)
     have d2 := Fr.draw_lt (c + 31 * (0 + (i : Int)) + 7 * (j : Int)) 2 (show (0 : Int) < 2 * v + 1 by omega)
     exact ⟨by omega, by omega⟩
   ·intro ys H2 s2 pr q hq
    obtain ⟨r, rfl, rl, rb⟩ := ints_of (fun x => -98 <= x /\ x <= 98) pr
    rw [List.length_range] at rl
    have nql : q ≠ l := fun e => by rw [e, s2 _ _ hL] at hq; cases hq
    have hL2 : upd H2 q (.lst (r.map V.int)) l = some (.lst vs) := by rw [aJ (Ne.symm nql)]; exact s2 _ _ hL
    have vl : vs.length = i := by rw [hP.length, hU]
    refine ⟨l, vs, .ref q, rfl, rfl, hL2, aO (by omega), ?_⟩
    refine ⟨_, vs ++ [.ref q], U ++ [r], rfl, ?_, aq, ?_, ?_, ?_, ?_⟩
    ·exact cM ((s1.trans s2).trans (ao hq)) hl0
    ·refine (hP.imp2 fun _ _ z => ?_).app2 (.cons ⟨q, rfl, nql, ?_⟩ .nil)
     ·exact ((z.mono s2).mono (ao hq)).at
     ·rw [aJ nql, aq]
    ·rw [List.length_append, hU]; rfl
    ·intro r' hr'
     rcases List.mem_append.mp hr' with z | z
     ·exact hc r' z
     ·rw [List.mem_singleton.mp z]; exact rl
    ·intro r' hr'
     rcases List.mem_append.mp hr' with z | z
     ·exact hb r' z
     ·rw [List.mem_singleton.mp z]; exact rb
  ·rintro σ H1 ⟨o5, vs, U, rfl, s1, hL, hP, hU, hc, hb⟩
   refine ⟨_, rfl, _, _, _, rfl, (by decide), ?_⟩
   refine oH ?_
   refine bN (fun σ' H' => ∃ (l' : Addr) (o5' : Option V) (vs' : List V) (U' : List (List Int)), σ' = [some (.int c), some (.int m), some (.int n), some (.int v), some (.ref l'), o5', some (.int (Fr.draw c 3 5)), none] /\ Same H H' /\ H l' = none /\ H' l' = some (.lst vs') /\ Paired (RowNe l' H') vs' U' /\ U'.length = m /\
    (∀ r ∈ U', r.length = n) /\ ∀ r ∈ U', ∀ x ∈ r, -98 <= x /\ x <= 98) (fun R hR => ?_) ?_
   ·refine ⟨_, rfl, rfl, _, rfl, ?_⟩
    refine lR (fun _ => ?_) (fun _ => hR _ _ ⟨l, o5, vs, U, rfl, s1, hl0, hL, hP, hU, hc, hb⟩)
    have vl : vs.length = m := by rw [hP.length, hU]
    have h0 : 0 < vs.length := by omega
    obtain ⟨r0, er0, b0, eb0, nb0, hb0⟩ := hP.get2 (List.getElem?_eq_getElem h0)
    have r0l := hc r0 (List.mem_of_getElem? er0)
    have r0b := hb r0 (List.mem_of_getElem? er0)
    refine ⟨_, rfl, _, rfl, by omega, by omega, dz (n := m) (fun _ y H' => ∃ r : List Int, OwnRow H1 H' y r /\ r.length = n /\ ∀ x ∈ r, -98 <= x /\ x <= 98) (fun _ _ _ _ z h => let ⟨r, h1, h2⟩ := h; ⟨r, h1.mono z, h2⟩) (Nat.le_of_lt (aO (by omega))) ?_ ?_⟩
    ·intro j hj H2 s2 Q' q
     have e1 := Int.emod_nonneg (j : Int) (show (n : Int) ≠ 0 by omega)
     have e2 := Int.emod_lt_of_pos (j : Int) (show (0 : Int) < (n : Int) by omega)
     have hlen : (r0.map V.int).length = n := by rw [List.length_map, r0l]
     refine ⟨_, rfl, l, vs, 0, _, rfl, rfl, SqL.of (s2 _ _ hL), fM h0, _, rfl, _, rfl, _, _, rfl, rfl, (by show (0 : Int) < (n : Int); omega), _, rfl, b0, _, (by rw [eb0]), SqL.of (s2 _ _ hb0), fun q1 hq1 => ?_⟩
     have s3 := s2.trans (ao (o := .lst (cP (r0.map V.int) (some ((j : Int) % (n : Int))) none)) hq1)
     refine ⟨_, rfl, l, vs, 0, _, rfl, rfl, SqL.of (s3 _ _ hL), fM h0, _, rfl, _, rfl, _, _, rfl, rfl, (by show (0 : Int) < (n : Int); omega), _, rfl, b0, _, (by rw [eb0]), SqL.of (s3 _ _ hb0), fun q2 hq2 => ?_⟩
     have g1 : upd (upd H2 q1 (.lst (cP (r0.map V.int) (some ((j : Int) % (n : Int))) none))) q2 (.lst (cP (r0.map V.int) none (some ((j : Int) % (n : Int))))) q1 = some (.lst (cP (r0.map V.int) (some ((j : Int) % (n : Int))) none)) := ao hq2 _ _ aq
     have c1 := iy (xs := r0.map V.int) (k := (j : Int) % (n : Int)) e1 (by rw [hlen]; omega)
     have c2 := qP (xs := r0.map V.int) (k := (j : Int) % (n : Int)) e1 (by rw [hlen]; omega)
     have ln : (cP (r0.map V.int) (some ((j : Int) % (n : Int))) none).length + (cP (r0.map V.int) none (some ((j : Int) % (n : Int)))).length = n := by
      rw [c1, c2, List.length_drop, List.length_take, hlen]; omega
     refine ⟨q1, q2, _, _, rfl, rfl, g1, aq, (by rw [ln]; exact Nat.le_of_lt (aO (by omega))), fun q3 hq3 => ?_⟩
     have s5 : Same H2 _ := (ao hq1).trans ((ao hq2).trans (ao (o := .lst (cP (r0.map V.int) (some ((j : Int) % (n : Int))) none ++ cP (r0.map V.int) none (some ((j : Int) % (n : Int))))) hq3))
     refine q _ _ s5 ⟨r0.drop ((j : Int) % (n : Int)).toNat ++ r0.take ((j : Int) % (n : Int)).toNat, ⟨q3, rfl, ?_, ?_⟩, ?_, ?_⟩
     ·exact (s2.trans ((ao hq1).trans (ao hq2))).free hq3
     ·rw [aq, c1, c2, List.map_append, List.map_drop, List.map_take]
     ·rw [List.length_append, List.length_drop, List.length_take, r0l]; omega
     ·intro x hx
      rcases List.mem_append.mp hx with z | z
      ·exact r0b x (List.mem_of_mem_drop z)
      ·exact r0b x (List.mem_of_mem_take z)
    ·intro ys H2 s2 pr q hq
     obtain ⟨U', hp', hl', hx'⟩ := Ay (fun r => r.length = n /\ ∀ x ∈ r, -98 <= x /\ x <= 98) pr
     rw [List.length_range] at hl'
     refine hR _ _ ⟨q, o5, ys, U', rfl, (s1.trans s2).trans (ao hq), (s1.trans s2).free hq, aq, ?_, hl', fun r hr' => (hx' r hr').1, fun r hr' => (hx' r hr').2⟩
     refine hp'.imp2 fun y r z => ?_
     obtain ⟨b, e, nb, hb'⟩ := z
     exact ⟨b, e, aV hb' hq, ao hq _ _ hb'⟩
   ·rintro σ' H2 ⟨l', o5', vs', U', rfl, s2, hl', hL', hP', hU', hc', hb'⟩
    refine bN (fun σ' H' => ∃ (o7 : Option V) (vs' : List V) (U' : List (List Int)), σ' = [some (.int c), some (.int m), some (.int n), some (.int v), some (.ref l'), o5', some (.int (Fr.draw c 3 5)), o7] /\ Same H H' /\ H' l' = some (.lst vs') /\ Paired (RowNe l' H') vs' U' /\ U'.length = m /\
     (∀ r ∈ U', r.length = n) /\ ∀ r ∈ U', ∀ x ∈ r, -100 <= x /\ x <= 100) (fun R hR => ?_) ?_
    ·have no : R [some (.int c), some (.int m), some (.int n), some (.int v), some (.ref l'), o5', some (.int (Fr.draw c 3 5)), none] H2 :=
      hR _ _ ⟨none, vs', U', rfl, s2, hL', hP', hU', hc', fun r hr' x hx => by have := hb' r hr' x hx; omega⟩
     refine ⟨_, rfl, rfl, _, rfl, ?_⟩
     refine lR (fun _ => ?_) (fun _ => no)
     refine ⟨_, rfl, _, _, rfl, rfl, _, rfl, ?_⟩
     refine lR (fun h2 => ?_) (fun _ => no)
     have m3 : 2 < m := by
      have : (2 : Int) < (m : Int) := by simpa using h2
      omega
     have vl : vs'.length = m := by rw [hP'.length, hU']
     have h0 : 0 < vs'.length := by omega
     have h1 : 1 < vs'.length := by omega
     obtain ⟨r0, er0, b0, eb0, nb0, hb0⟩ := hP'.get2 (List.getElem?_eq_getElem h0)
     obtain ⟨r1, er1, b1, eb1, nb1, hb1⟩ := hP'.get2 (List.getElem?_eq_getElem h1)
     have l0 := hc' r0 (List.mem_of_getElem? er0)
     have l1 := hc' r1 (List.mem_of_getElem? er1)
     have x0 := hb' r0 (List.mem_of_getElem? er0)
     have x1 := hb' r1 (List.mem_of_getElem? er1)
     have d1 := Fr.draw_nn c 4 (show (0 : Int) < 3 by decide)
     have d2 := Fr.draw_lt c 4 (show (0 : Int) < 3 by decide)
     refine ⟨_, rfl, _, _, _, rfl, (by decide), _, _, rfl, rfl, ?_⟩
     refine ⟨_, rfl, l', vs', 0, _, rfl, rfl, SqL.of hL', fM h0, _, rfl, l', vs', 1, _, rfl, rfl, SqL.of hL', fM h1, b0, b1, (by rw [eb0, eb1]), ⟨_, SqL.of hb0⟩, ⟨_, SqL.of hb1⟩,
      rN (xs := r0.map V.int) (ys := r1.map V.int) (fun i zs H' => Same H2 H' /\ ∃ r : List Int, zs = r.map V.int /\ r.length = i /\ ∀ x ∈ r, -100 <= x /\ x <= 100) ⟨Same.refl _, [], rfl, rfl, fun _ h => nomatch h⟩ ?_ (by rw [List.length_map]; exact Nat.le_of_lt (aO (by omega))) ?_ ?_⟩
     ·rintro i zs H3 ⟨s3, r, rfl, rl, _⟩
      exact ⟨SqL.of (s3 _ _ hb0), SqL.of (s3 _ _ hb1), by rw [List.length_map, rl]; exact Nat.le_refl _⟩
     ·rintro i x y p' zs H3 hx hy hp' ⟨s3, r, rfl, rl, rb⟩
      obtain ⟨x', ex, rfl⟩ := List.mem_map.mp (List.mem_of_getElem? hx)
      obtain ⟨y', ey, rfl⟩ := List.mem_map.mp (List.mem_of_getElem? hy)
      have b1 := x0 x' ex
      have b2 := x1 y' ey
      refine ⟨p', _, rfl, SqT.of aq, rfl, _, _, rfl, _, _, rfl, rfl, ?_⟩
      refine zx ?_
      refine ⟨_, rfl, _, rfl, _, _, rfl, rfl, _, _, rfl, rfl, ⟨by decide, by decide⟩, _, rfl, _, _, rfl, rfl, ?_⟩
      refine ⟨s3.trans (ao hp'), r ++ [(x' + y') / 2 - (Fr.draw c 4 3 - 1)], by rw [List.map_append]; rfl, by rw [List.length_append, rl]; rfl, fun z hz => ?_⟩
      rcases List.mem_append.mp hz with q | q
      ·exact rb z q
      ·rw [List.mem_singleton.mp q]
       omega
     ·rintro zs H3 ⟨s3, r, rfl, rl, rb⟩ q hq
      rw [List.length_map, List.length_map, l0, l1, Nat.min_self] at rl
      have nql : q ≠ l' := fun e => by rw [e, s3 _ _ hL'] at hq; cases hq
      have hL3 : upd H3 q (.lst (r.map V.int)) l' = some (.lst vs') := by rw [aJ (Ne.symm nql)]; exact s3 _ _ hL'
      refine ⟨_, rfl, l', vs', 2, 2, rfl, rfl, hL3, ?_, ?_⟩
      ·unfold ixN
       rw [if_pos (by decide), if_pos (by omega)]
       rfl
      ·refine hR _ _ ⟨_, vs'.set 2 (.ref q), U'.set 2 r, rfl, ?_, aq, ?_, ?_, ?_, ?_⟩
       ·exact cM ((s2.trans s3).trans (ao hq)) hl'
       ·refine Paired.set2 ⟨q, rfl, nql, by rw [aJ nql, aq]⟩ 2 (hP'.imp2 fun _ _ z => ((z.mono s3).mono (ao hq)).at)
       ·rw [List.length_set, hU']
       ·intro r' hr'
        rcases List.mem_or_eq_of_mem_set hr' with z | z
        ·exact hc' r' z
        ·rw [z]; exact rl
       ·intro r' hr' x hx
        rcases List.mem_or_eq_of_mem_set hr' with z | z
        ·have := hb' r' z x hx
         omega
        ·rw [z] at hx; exact rb x hx
    ·rintro σ' H3 ⟨o7, vs3, U3, rfl, s3, hL3, hP3, hU3, hc3, hb3⟩
     exact ⟨_, rfl, k l' U3 H3 s3 ⟨vs3, hL3, hP3.imp2 fun _ _ z => z.row⟩ ⟨m1, m4, n1, n4, hU3, hc3, hb3⟩⟩
structure Gd (T : List (List Int)) (m n : Nat) : Prop where
 m1 : 1 <= m
 m4 : m <= 4
 n1 : 1 <= n
 n4 : n <= 4
 rows : T.length = m
 cols : ∀ r ∈ T, r.length = n
 num : ∀ r ∈ T, ∀ x ∈ r, -200 <= x /\ x <= 200
theorem iM {T : List (List Int)} {m n : Nat} (g : Good T m n) : Gd T m n := ⟨g.m1, g.m4, g.n1, g.n4, g.rows, g.cols, fun r hr x hx => by have := g.num r hr x hx; omega⟩
theorem Gd.row {T : List (List Int)} {m n : Nat} (g : Gd T m n) {i : Nat} (hi : i < m) : T.getD i [] ∈ T /\ (T.getD i []).length = n := by
 have h : i < T.length := by rw [g.rows]; exact hi
 have e : T.getD i [] = T[i] := by rw [List.getD_eq_getElem?_getD, List.getElem?_eq_getElem h]; rfl
 rw [e]
 exact ⟨List.getElem_mem h, g.cols _ (List.getElem_mem h)⟩
theorem Gd.sz {T : List (List Int)} {m n : Nat} (g : Gd T m n) {r : List Int} (hr : r ∈ T) : ∀ x ∈ r, Sz 9 x := fun x hx => sz9 (g.num r hr x hx)
def zr : Sp := fun vs H Q _ => ∃ a b : Int, vs = [.int a, .int b] /\ Q (.int (Int.gcd a b : Int)) H
def l_ : Sp := fun vs H Q _ => ∃ a b : Int, vs = [.int a, .int b] /\ 0 < b /\ Sz 4000 b /\ ∀ p, H p = none -> Q (.ref p) (upd H p (.tup [.int (Fr.mk a b).1, .int (Fr.mk a b).2]))
def uY (K : PySem.W.Frag) : Sp := fun vs H Q _ => ∃ (p q : Addr) (a b c d : Int), vs = [.ref p, .ref q] /\ SqT K H p [.int a, .int b] /\ SqT K H q [.int c, .int d] /\ 0 < b /\ 0 < d /\ Sz 1000 a /\ Sz 1000 b /\ Sz 1000 c /\ Sz 1000 d /\
 ∀ r, H r = none -> Q (.ref r) (upd H r (.tup [.int (Fr.mk (a * d + c * b) (b * d)).1, .int (Fr.mk (a * d + c * b) (b * d)).2]))
def zE (K : PySem.W.Frag) : Sp := fun vs H Q _ => ∃ (p q : Addr) (a b c d : Int), vs = [.ref p, .ref q] /\ SqT K H p [.int a, .int b] /\ SqT K H q [.int c, .int d] /\ 0 < b /\ 0 < d /\ Sz 1000 a /\ Sz 1000 b /\ Sz 1000 c /\ Sz 1000 d /\
 ∀ r, H r = none -> Q (.ref r) (upd H r (.tup [.int (Fr.mk (a * c) (b * d)).1, .int (Fr.mk (a * c) (b * d)).2]))
def dm (K : PySem.W.Frag) : Sp := fun vs H Q _ => ∃ (p q : Addr) (a b c d : Int), vs = [.ref p, .ref q] /\ SqT K H p [.int a, .int b] /\ SqT K H q [.int c, .int d] /\ Sz 1000 a /\ Sz 1000 b /\ Sz 1000 c /\ Sz 1000 d /\ Q (.bl (decide (a * d < c * b))) H
theorem up {k : Nat} {x : Int} (h : Sz k x) (hk : k <= 4000 := by decide) : Sz 4000 x := h.mono hk
theorem fZ {x y : Nat} : decide (V.int (x : Int) = V.int (y : Int)) = decide (x = y) := by
 refine decide_eq_decide.mpr ⟨fun h => ?_, fun h => by rw [h]⟩
 injection h with h
 omega
theorem fO (x y a b : Int) : eqD (.tup [.int x, .int y]) (.tup [.int a, .int b]) = decide ((x, y) = (a, b)) := by
 rw [Bool.eq_iff_iff]
 simp [eqD, dR]
abbrev fP : Stmt := top 2
theorem oA : FnScope ["a", "b", "left", "right", "rest"] ["a", "b"] (aH fP) := ⟨rfl, rfl, rfl, by decide +kernel, rfl, by decide +kernel, by decide +kernel⟩
theorem ou (F : FunM K mg "greatest_divisor" fP ["a", "b"]) (T : Blt mg) : Def P w K mg base "greatest_divisor" ["a", "b"] 1 zr := by
 have S := oA
 refine Def.of F S (fun vs H Q E h => ?_) (fun f cdv A outer s H vs Q E hr h => ?_)
 ·obtain ⟨a, b, rfl, _⟩ := h
  rfl
 ·obtain ⟨a, b, rfl, k⟩ := h
  refine ⟨_, (aB (aY (i := 2) S.nd rfl (Or.inl rfl) (aK q_ (by rfl) T.abs_ xj (aa (pv 0) ak aj) (he := aj)))
   (aB (aY (i := 3) S.nd rfl (Or.inl rfl) (aK q_ (by rfl) T.abs_ xj (aa (pv 1) ak aj) (he := aj)))
   (aB (yf PassesOwn.never (bh pZ (pv 3) aA (a_ _))
    (aB (aY (i := 4) S.nd rfl (Or.inl rfl) (aX eN (pv 2) (pv 3)))
   (aB (aY (i := 2) S.nd rfl (Or.inl rfl) (pv 3))
   (aC (aY (i := 3) S.nd rfl (Or.inl rfl) (pv 4))))))
   (aC (aM (pv 2)))))), ?_⟩
  refine ⟨_, rfl, _, rfl, _, rfl, _, rfl, ?_⟩
  refine ⟨fun m σ H' => ∃ (l r : Int) (o : Option V), σ = [some (.int a), some (.int b), some (.int l), some (.int r), o] /\ H' = H /\ 0 <= l /\ 0 <= r /\ Int.gcd l r = Int.gcd a b /\ r.toNat = m,
   ⟨_, _, _, _, rfl, rfl, by split <;> omega, by split <;> omega, ?_, rfl⟩, ?_⟩
  ·have e1 : (if a < 0 then -a else a) = (a.natAbs : Int) := by split <;> omega
   have e2 : (if b < 0 then -b else b) = (b.natAbs : Int) := by split <;> omega
   rw [e1, e2]
   simp [Int.gcd]
  ·rintro m σ H' ⟨l, r, o, rfl, rfl, hl, hr0, hg, hm⟩
   refine ⟨_, rfl, rfl, _, rfl, ?_⟩
   by_cases hz : r = 0
   ·subst hz
    refine ifN (by simp) ?_
    refine ⟨_, rfl, ?_⟩
    have e : (Int.gcd a b : Int) = l := by
     rw [<- hg, Int.gcd_zero_right]
     omega
    rw [e] at k
    exact k
   ·refine ifP (by simp [hz]) ?_
    have hp : 0 < r := by omega
    refine ⟨fun σ' H'' => ∃ o', σ' = [some (.int a), some (.int b), some (.int r), some (.int (l % r)), o'] /\ H'' = H', fun σ' H'' h => ?_, ?_⟩
    ·obtain ⟨o', rfl, rfl⟩ := h
     have h1 := Int.emod_nonneg l hz
     have h2 := Int.emod_lt_of_pos l hp
     exact ⟨_, by omega, r, l % r, o', rfl, rfl, hr0, h1, (Fr.gcd_step l r).trans hg, rfl⟩
    ·refine ⟨_, rfl, _, rfl, _, _, rfl, rfl, hp, _, rfl, _, rfl, _, rfl, rfl⟩
abbrev zN : Stmt := top 3
theorem Ig : FnScope ["a", "b", "divisor"] ["a", "b"] (aH zN) := ⟨rfl, rfl, rfl, by decide +kernel, rfl, by decide +kernel, by decide +kernel⟩
theorem Hq (F : FunM K mg "made" zN ["a", "b"]) (T : Blt mg) (cC : Def P w K mg base "greatest_divisor" ["a", "b"] 1 zr) : Def P w K mg base "made" ["a", "b"] 2 l_ := by
 have S := Ig
 refine Def.of F S (fun vs H Q E h => ?_) (fun f cdv A outer s H vs Q E hr h => ?_)
 ·obtain ⟨a, b, rfl, _⟩ := h
  rfl
 ·obtain ⟨a, b, rfl, hb, hb2, k⟩ := h
  have g1 := Fr.gcd_pos (a := a) hb
  have g2 := Fr.gcd_le (a := a) hb
  have g3 : Sz 8000 (Int.gcd a b : Int) := by
   have h8 := hb2.mono (show 4000 <= 8000 by decide)
   unfold Sz at h8 ⊢
   exact Nat.lt_of_le_of_lt (by omega) h8
  refine ⟨_, (aB (aY (i := 2) S.nd rfl (Or.inl rfl) (aD cC (hr.mono (by decide)) rfl (aa (pv 0) (aa (pv 1) ak aj) aj) (he := aj)))
   (aC (aM (bH (aa (aX mV (pv 0) (pv 2)) (aa (aX mV (pv 1) (pv 2)) ak bz) bz))))), ?_⟩
  refine ⟨_, rfl, _, rfl, _, _, rfl, ?_⟩
  exact ⟨_, rfl, _, rfl, _, _, rfl, rfl, oh g1 g3, _, rfl, _, rfl, _, _, rfl, rfl, oh g1 g3, (by show 2 <= sizeLine; decide), k⟩
abbrev xV : Stmt := top 5
theorem Il : FnScope ["one", "other"] ["one", "other"] (aH xV) := ⟨rfl, rfl, rfl, by decide +kernel, rfl, by decide +kernel, by decide +kernel⟩
theorem Hh (F : FunM K mg "plus" xV ["one", "other"]) (T : Blt mg) (ie : Def P w K mg base "made" ["a", "b"] 2 l_) : Def P w K mg base "plus" ["one", "other"] 3 (uY K) := by
 have S := Il
 refine Def.of F S (fun vs H Q E h => ?_) (fun f cdv A outer s H vs Q E hr h => ?_)
 ·obtain ⟨p, q, a, b, c, d, rfl, _⟩ := h
  rfl
 ·obtain ⟨p, q, a, b, c, d, rfl, h1, h2, hb, hd, za, zb, zc, zd, k⟩ := h
  have hbd0 : 0 < b * d := Int.mul_pos hb hd
  refine ⟨_, (aC (aM (aD ie (hr.mono (by decide)) rfl (aa (aX cU (aX cF (aQ (ixT K) (pv 0) aA (fun _ _ => rfl)) (aQ (ixT K) (pv 1) aA (fun _ _ => rfl))) (aX cF (aQ (ixT K) (pv 1) aA (fun _ _ => rfl)) (aQ (ixT K) (pv 0) aA (fun _ _ => rfl)))) (aa (aX cF (aQ (ixT K) (pv 0) aA (fun _ _ => rfl)) (aQ (ixT K) (pv 1) aA (fun _ _ => rfl))) ak bz) bz) (he := bz)))), ?_⟩
  refine ⟨_, rfl, _, _, _, _, rfl, rfl, h1, rfl, ?_⟩
  refine ⟨_, rfl, _, _, _, _, rfl, rfl, h2, rfl, _, _, rfl, rfl, ⟨up za, up zd⟩, ?_⟩
  refine ⟨_, rfl, _, _, _, _, rfl, rfl, h2, rfl, ?_⟩
  refine ⟨_, rfl, _, _, _, _, rfl, rfl, h1, rfl, _, _, rfl, rfl, ⟨up zc, up zb⟩, _, _, rfl, rfl, ?_⟩
  refine ⟨_, rfl, _, _, _, _, rfl, rfl, h1, rfl, ?_⟩
  refine ⟨_, rfl, _, _, _, _, rfl, rfl, h2, rfl, _, _, rfl, rfl, ⟨up zb, up zd⟩, ?_⟩
  exact ⟨_, _, rfl, hbd0, (zb.mul zd).mono (by decide), k⟩
abbrev vy : Stmt := top 6
theorem Gv : FnScope ["one", "other"] ["one", "other"] (aH vy) := ⟨rfl, rfl, rfl, by decide +kernel, rfl, by decide +kernel, by decide +kernel⟩
theorem Gx (F : FunM K mg "times" vy ["one", "other"]) (T : Blt mg) (ie : Def P w K mg base "made" ["a", "b"] 2 l_) : Def P w K mg base "times" ["one", "other"] 3 (zE K) := by
 have S := Gv
 refine Def.of F S (fun vs H Q E h => ?_) (fun f cdv A outer s H vs Q E hr h => ?_)
 ·obtain ⟨p, q, a, b, c, d, rfl, _⟩ := h
  rfl
 ·obtain ⟨p, q, a, b, c, d, rfl, h1, h2, hb, hd, za, zb, zc, zd, k⟩ := h
  have hbd0 : 0 < b * d := Int.mul_pos hb hd
  refine ⟨_, (aC (aM (aD ie (hr.mono (by decide)) rfl (aa (aX cF (aQ (ixT K) (pv 0) aA (fun _ _ => rfl)) (aQ (ixT K) (pv 1) aA (fun _ _ => rfl))) (aa (aX cF (aQ (ixT K) (pv 0) aA (fun _ _ => rfl)) (aQ (ixT K) (pv 1) aA (fun _ _ => rfl))) ak bz) bz) (he := bz)))), ?_⟩
  refine ⟨_, rfl, _, _, _, _, rfl, rfl, h1, rfl, ?_⟩
  refine ⟨_, rfl, _, _, _, _, rfl, rfl, h2, rfl, _, _, rfl, rfl, ⟨up za, up zc⟩, ?_⟩
  refine ⟨_, rfl, _, _, _, _, rfl, rfl, h1, rfl, ?_⟩
  refine ⟨_, rfl, _, _, _, _, rfl, rfl, h2, rfl, _, _, rfl, rfl, ⟨up zb, up zd⟩, ?_⟩
  exact ⟨_, _, rfl, hbd0, (zb.mul zd).mono (by decide), k⟩
abbrev uD : Stmt := top 7
theorem Fz : FnScope ["one", "other"] ["one", "other"] (aH uD) := ⟨rfl, rfl, rfl, by decide +kernel, rfl, by decide +kernel, by decide +kernel⟩
theorem FJ (F : FunM K mg "below" uD ["one", "other"]) (T : Blt mg) : Def P w K mg base "below" ["one", "other"] 1 (dm K) := by
 have S := Fz
 refine Def.of F S (fun vs H Q E h => ?_) (fun f cdv A outer s H vs Q E hr h => ?_)
 ·obtain ⟨p, q, a, b, c, d, rfl, _⟩ := h
  rfl
 ·obtain ⟨p, q, a, b, c, d, rfl, h1, h2, za, zb, zc, zd, k⟩ := h
  refine ⟨_, (aC (aM (dJ nG (aX cF (aQ (ixT K) (pv 0) aA (fun _ _ => rfl)) (aQ (ixT K) (pv 1) aA (fun _ _ => rfl))) (aX cF (aQ (ixT K) (pv 1) aA (fun _ _ => rfl)) (aQ (ixT K) (pv 0) aA (fun _ _ => rfl))) (a_ _)))), ?_⟩
  refine ⟨_, rfl, _, _, _, _, rfl, rfl, h1, rfl, ?_⟩
  refine ⟨_, rfl, _, _, _, _, rfl, rfl, h2, rfl, _, _, rfl, rfl, ⟨up za, up zd⟩, ?_⟩
  refine ⟨_, rfl, _, _, _, _, rfl, rfl, h2, rfl, ?_⟩
  exact ⟨_, rfl, _, _, _, _, rfl, rfl, h1, rfl, _, _, rfl, rfl, ⟨up zc, up zb⟩, _, _, rfl, rfl, k⟩
def vp : Sp := fun vs H Q _ => ∃ (p : Addr) (q : Int × Int), vs = [.ref p] /\ H p = some (.tup [.int q.1, .int q.2]) /\ Pq q /\ Q (.bl true) H
def xx : Sp := fun vs H Q _ => ∃ (p : Addr) (q : Int × Int), vs = [.ref p] /\ H p = some (.tup [.int q.1, .int q.2]) /\ Pq q /\ Sz 1000 q.1 /\ Sz 1000 q.2 /\ ∀ H', Same H H' -> Q (.bl (decide (0 <= q.1))) H'
def g8 : Sp := fun vs H Q _ => ∃ (a : Addr) (qs : List (Int × Int)) (n : Nat), vs = [.ref a, .int n] /\ IsFrs H a qs /\ GQ qs /\ ∀ H', Same H H' -> Q (.bl (bT qs n)) H'
abbrev ju : Stmt := top 4
theorem uM : FnScope ["thing"] ["thing"] (aH ju) := ⟨rfl, rfl, rfl, by decide +kernel, rfl, by decide +kernel, by decide +kernel⟩
theorem uH (F : FunM K mg "is_fraction" ju ["thing"]) (T : Blt mg) (eU : Def P w K mg base "is_whole" ["thing"] 1 rA) (cC : Def P w K mg base "greatest_divisor" ["a", "b"] 1 zr) : Def P w K mg base "is_fraction" ["thing"] 2 vp := by
 have S := uM
 refine Def.of F S (fun vs H Q E h => ?_) (fun f cdv A outer s H vs Q E hr h => ?_)
 ·obtain ⟨p, q, rfl, _⟩ := h
  rfl
 ·obtain ⟨p, q, rfl, hp, hq, k⟩ := h
  obtain ⟨x, y⟩ := q
  have hy : 0 < y := hq.pos
  have hg : Int.gcd x y = 1 := hq.cop
  refine ⟨_, (aB (bu (PW.pt (cR (bJ (bA (aK (jG K) (by rfl) T.isinstance_ bR (aa (pv 0) (aa (dU (v := .ty "tuple") rfl T.tuple_ rE rfl) ak aj) aj) (he := aj)))) (cH (bh pZ (aK (bU K) (by rfl) T.len_ bx (aa (pv 0) ak aj) (he := aj)) aA (a_ _)))))
    (aC (aM bQ)) aZ)
   (aB (bu (PW.pt (cR (bJ (bA (aD eU (hr.mono (by decide)) rfl (aa (aQ (ixT K) (pv 0) aA (fun _ _ => rfl)) ak aF) (he := aF)))) (cH (bJ (bA (aD eU (hr.mono (by decide)) rfl (aa (aQ (ixT K) (pv 0) aA (fun _ _ => rfl)) ak aF) (he := aF)))))))
    (aC (aM bQ)) aZ)
   (aC (aM (jo (dJ qg (aQ (ixT K) (pv 0) aA (fun _ _ => rfl)) aA (a_ _)) (gR (dJ eQ (aD cC (hr.mono (by decide)) rfl (aa (aQ (ixT K) (pv 0) aA (fun _ _ => rfl)) (aa (aQ (ixT K) (pv 0) aA (fun _ _ => rfl)) ak aF) aF) (he := aF)) aA (a_ _)))))))), ?_⟩
  refine ⟨_, rfl, _, _, _, _, rfl, TyOf.tup hp, rfl, _, rfl, ?_⟩
  refine bK ?_
  refine ⟨_, rfl, p, _, rfl, .inr (SqT.of hp), rfl, _, rfl, ?_⟩
  refine bK ?_
  refine ⟨_, rfl, _, _, _, _, rfl, rfl, SqT.of hp, rfl, _, rfl, _, rfl, ?_⟩
  refine bK ?_
  refine ⟨_, rfl, _, _, _, _, rfl, rfl, SqT.of hp, rfl, _, rfl, _, rfl, ?_⟩
  refine bK ?_
  refine ⟨_, rfl, _, _, _, _, rfl, rfl, SqT.of hp, rfl, _, _, rfl, rfl, _, rfl, ?_⟩
  refine ifP (decide_eq_true hy) ?_
  refine ⟨_, rfl, _, _, _, _, rfl, rfl, SqT.of hp, rfl, _, rfl, _, _, _, _, rfl, rfl, SqT.of hp, rfl, _, _, rfl, rfl, ?_⟩
  exact Az (by rw [hg]; rfl) k
abbrev m5 : Stmt := top 32
theorem zZ : FnScope ["thing"] ["thing"] (aH m5) := ⟨rfl, rfl, rfl, by decide +kernel, rfl, by decide +kernel, by decide +kernel⟩
theorem z_ (F : FunM K mg "is_share" m5 ["thing"]) (T : Blt mg) (d8 : Def P w K mg base "is_fraction" ["thing"] 2 vp) (b_ : Def P w K mg base "below" ["one", "other"] 1 (dm K)) : Def P w K mg base "is_share" ["thing"] 3 xx := by
 have S := zZ
 refine Def.of F S (fun vs H Q E h => ?_) (fun f cdv A outer s H vs Q E hr h => ?_)
 ·obtain ⟨p, q, rfl, _⟩ := h
  rfl
 ·obtain ⟨p, q, rfl, hp, hq, z1, z2, k⟩ := h
  have y0 := hq.pos
  refine ⟨_, (aC (aM (jo (aD d8 (hr.mono (by decide)) rfl (aa (pv 0) ak aj) (he := aj)) (gR (lW (aD b_ (hr.mono (by decide)) rfl (aa (pv 0) (aa (bH (aa aA (aa aA ak aG) aG)) ak cj) aj) (he := aj))))))), ?_⟩
  refine ⟨_, rfl, p, q, rfl, hp, hq, _, rfl, ?_⟩
  refine cX ?_
  refine ⟨_, rfl, (by show 2 <= sizeLine; decide), fun r hr' => ⟨p, r, _, _, _, _, rfl, SqT.of (ao hr' _ _ hp), SqT.of aq, z1, z2, (show Sz 1000 0 from by unfold Sz; exact Nat.pow_pos (by decide)), (show Sz 1000 1 from (show Sz 1 1 from by unfold Sz; decide).mono (by decide)), ?_⟩⟩
  refine ⟨_, rfl, ?_⟩
  have e : (!decide (q.1 * 1 < 0 * q.2)) = decide (0 <= q.1) := by
   rw [Int.mul_one, Int.zero_mul]
   by_cases h : q.1 < 0
   ·simp [h, show ¬ 0 <= q.1 by omega]
   ·simp [h, show 0 <= q.1 by omega]
  rw [e]
  exact k _ (ao hr')
theorem fU {α : Type} (f : α -> Bool) {R : V -> α -> Prop} : ∀ {vs ys : List V} {qs : List α}, Paired (fun x y => ∀ q, R x q -> y = V.bl (f q)) vs ys -> Paired R vs qs -> ys = (qs.map f).map V.bl
 | _, _, _, .nil, .nil => rfl
 | _, _, _, .cons h t, .cons q u => by rw [h _ q, fU f t u]; rfl
abbrev kI : Stmt := top 33
theorem wQ : FnScope ["thing", "count", "total", "share"] ["thing", "count"] (aH kI) := ⟨rfl, rfl, rfl, by decide +kernel, rfl, by decide +kernel, by decide +kernel⟩
theorem wN (F : FunM K mg "is_mixture" kI ["thing", "count"]) (T : Blt mg) (mZ : Def P w K mg base "is_share" ["thing"] 3 xx) (mz : Def P w K mg base "plus" ["one", "other"] 3 (uY K)) : Def P w K mg base "is_mixture" ["thing", "count"] 4 g8 := by
 have S := wQ
 refine Def.of F S (fun vs H Q E h => ?_) (fun f cdv A outer s H vs Q E hr h => ?_)
 ·obtain ⟨a, qs, n, rfl, _⟩ := h
  rfl
 ·obtain ⟨a, qs, n, rfl, hW, g, k⟩ := h
  obtain ⟨vs, ha, pr⟩ := id hW
  have hl : vs.length = qs.length := pr.length
  have n20 := g.len
  refine ⟨_, (aB (bu (PW.pt (cR (bJ (bA (aK (jG K) (by rfl) T.isinstance_ bR (aa (pv 0) (aa (dU (v := .ty "list") rfl T.list_ cD rfl) ak aj) aj) (he := aj)))) (cH (bh pZ (aK (bU K) (by rfl) T.len_ bx (aa (pv 0) ak aj) (he := aj)) (pv 1) (a_ _)))))
    (aC (aM bQ)) aZ)
   (aB (bu (bJ (bA (aK (pN K) (by rfl) T.all_ jt (aa (bj rfl (N' := ["share"]) (src := [none]) rfl (piL K (pv 0)) (fun _ _ _ _ _ => (aP (i := 0) (show (["share"] : List Str).Nodup from by decide +kernel) rfl (Or.inl rfl))) (fun _ _ _ _ _ => bf) (fun _ _ _ _ _ => (aD mZ (hr.mono (by decide)) rfl (aa (pv 0) ak aj) (he := aj)))) ak aU) (he := aU))))
    (aC (aM bQ)) aZ)
   (aB (aY (i := 2) S.nd rfl (Or.inl rfl) (bH (aa aA (aa aA ak aG) aG)))
   (aB (cJ PassesOwn.never rfl (piL K (pv 0)) (aP (i := 3) S.nd rfl (Or.inl rfl))
    (aC (aY (i := 2) S.nd rfl (Or.inl rfl) (aD mz (hr.mono (by decide)) rfl (aa (pv 2) (aa (pv 3) ak aj) aj) (he := aj)))))
   (aC (aM (dJ (Bx K hr.units) (pv 2) (bH (aa aA (aa aA ak aG) aG)) (a_ _)))))))), ?_⟩
  refine ⟨_, rfl, _, _, _, _, rfl, TyOf.lst ha, rfl, _, rfl, ?_⟩
  refine bK ?_
  refine ⟨_, rfl, a, _, rfl, .inl (SqL.of ha), _, rfl, rfl, _, rfl, ?_⟩
  by_cases hn : qs.length = n
  rotate_left
  ·refine ifP ?_ ?_
   ·rw [fZ, hl, decide_eq_false hn]; rfl
   ·have e : bT qs n = false := by unfold bT; rw [decide_eq_false hn]; rfl
    rw [e] at k
    exact k H (Same.refl _)
  refine ifN (by rw [fZ, hl, decide_eq_true hn]; decide) ?_
  refine ⟨_, rfl, a, rfl, ⟨_, SqL.of ha⟩, bw (xs := vs) (fun x y _ => ∀ q, IsFr H x q -> y = .bl (decide (0 <= q.1))) (fun _ _ _ _ _ h => h) (SqL.of ha) (by rw [hl]; exact Nat.le_of_lt (aO (by omega))) ?_ ?_⟩
  ·intro x hx H1 s1 Q' q
   obtain ⟨r, hr', hf⟩ := pr.mem2 hx
   obtain ⟨b, rfl, hb⟩ := id hf
   exact ⟨_, rfl, b, r, rfl, s1 _ _ hb, g.pr r hr', (g.s1 r hr').mono (by decide), (g.s2 r hr').mono (by decide), fun H2 s2 => q _ H2 s2 fun q' h' => by rw [hf.inj h']⟩
  ·intro ys H' s' p q hq
   have e := fU (fun q => decide (0 <= q.1)) p pr
   subst e
   refine ⟨q, _, rfl, SqL.of aq, ?_⟩
   rw [List.all_map]
   have s2 := s'.trans (ao (o := .lst ((qs.map fun q => decide (0 <= q.1)).map V.bl)) hq)
   generalize upd H' q (.lst ((qs.map fun q => decide (0 <= q.1)).map V.bl)) = H1 at s2 ⊢
   refine ⟨_, rfl, ?_⟩
   cases hall : qs.all (id ∘ fun q => decide (0 <= q.1)) with
   | false =>
    refine cX ?_
    have e : bT qs n = false := by
     unfold bT
     rw [show (qs.all fun q => decide (0 <= q.1)) = false from hall, Bool.and_false, Bool.false_and]
    rw [e] at k
    exact k H1 s2
   | true =>
    refine bK ?_
    have ha1 := s2 _ _ ha
    refine ⟨(by show 2 <= sizeLine; decide), fun t ht => ?_⟩
    refine ⟨_, rfl, a, rfl, ⟨_, SqL.of (ao ht _ _ ha1)⟩, dO (K := K) (a := a) (xs := vs) (fun i σ H' => ∃ t o, σ = [some (.ref a), some (.int n), some (.ref t), o] /\ H' t = some (.tup [.int (Fr.mk (acc ((ones qs).take i)).1 (acc ((ones qs).take i)).2).1, .int (Fr.mk (acc ((ones qs).take i)).1 (acc ((ones qs).take i)).2).2]) /\ Same H1 H')
     ⟨t, _, rfl, by rw [aq, List.take_zero]; rfl, ao ht⟩ ?_ ?_ ?_⟩
    ·rintro i σ H' _ ⟨_, _, _, _, s3⟩
     exact SqL.of (s3 _ _ ha1)
    ·rintro i x σ H' hi ⟨t', o, rfl, hT, s3⟩
     obtain ⟨y, hy, b, rfl, hb⟩ := pr.get2 hi
     have my := List.mem_of_getElem? hy
     have gt := (Br g).take i
     have lt : ((ones qs).take i).length <= 8 := by
      rw [List.length_take]
      unfold ones
      rw [List.length_map]
      omega
     have p0 := gO gt
     have e1 : (ones qs)[i]? = some (1, y) := by unfold ones; rw [List.getElem?_map, hy]; rfl
     have py := g.pr y my
     refine ⟨_, rfl, _, rfl, t', b, _, _, _, _, rfl, SqT.of hT, SqT.of (s3 _ _ (s2 _ _ hb)), Fr.mk_pos p0, py.pos, ((uo gt lt).fst p0).mono (by decide), ((oG gt lt).snd p0).mono (by decide), (g.s1 y my).mono (by decide), (g.s2 y my).mono (by decide), fun r hr' => ?_⟩
     refine ⟨r, _, rfl, ?_, s3.trans (ao hr')⟩
     rw [aq, rJ e1, Hv p0 py]
    ·rintro σ H' ⟨t', o, rfl, hT, s3⟩
     have el : (ones qs).take vs.length = ones qs := List.take_of_length_le (by unfold ones; rw [List.length_map, hl]; exact Nat.le_refl _)
     rw [el] at hT
     refine ⟨_, rfl, (by show 2 <= sizeLine; decide), fun r hr' => ?_⟩
     refine ⟨_, _, bV (ao hr' _ _ hT), bV aq, rfl, (by show 1 <= 40; decide), ?_⟩
     rw [fO]
     have e : bT qs n = decide (Fr.mk (acc (ones qs)).1 (acc (ones qs)).2 = (1, 1)) := by
      unfold bT
      rw [decide_eq_true hn, show (qs.all fun q => decide (0 <= q.1)) = true from hall]
      rfl
     rw [e] at k
     exact k _ ((s2.trans s3).trans (ao hr'))
def vP : Sp := fun vs H Q _ => ∃ a b : Int, vs = [.int a, .int b] /\ 0 <= a /\ 0 <= b /\ Q (.int (Int.gcd a b : Int)) H
abbrev jN : Stmt := top 62
theorem uQ : FnScope ["_law_one", "_law_other"] ["_law_one", "_law_other"] (aH jN) := ⟨rfl, rfl, rfl, by decide +kernel, rfl, by decide +kernel, by decide +kernel⟩
theorem uO (F : FunM K mg "_law_common" jN ["_law_one", "_law_other"]) (T : Blt mg) : Def P w K mg base "_law_common" ["_law_one", "_law_other"] 1 vP := by
 have S := uQ
 refine Def.of F S (fun vs H Q E h => ?_) (fun f cdv A outer s H vs Q E hr h => ?_)
 ·obtain ⟨a, b, rfl, _⟩ := h
  rfl
 ·obtain ⟨a, b, rfl, ha, hb, k⟩ := h
  refine ⟨_, (aB (yf PassesOwn.never (bh qg (pv 1) aA (a_ _))
    (aC (tQ (i := 0) (j := 1) rfl S.nd rfl rfl (by decide) rfl rfl (aa (pv 1) (aa (aX eN (pv 0) (pv 1)) ak bz) aj) rfl)))
   (aC (aM (pv 0)))), ?_⟩
  refine ⟨fun m σ H' => ∃ (l r : Int), σ = [some (.int l), some (.int r)] /\ H' = H /\ 0 <= l /\ 0 <= r /\ Int.gcd l r = Int.gcd a b /\ r.toNat = m, ⟨_, _, _, rfl, rfl, ha, hb, rfl, rfl⟩, ?_⟩
  rintro m σ H' ⟨l, r, rfl, rfl, hl, hr0, hg, hm⟩
  refine ⟨_, rfl, _, _, rfl, rfl, _, rfl, ?_⟩
  by_cases hp : 0 < r
  ·refine ifP (by simpa using hp) ?_
   refine ⟨fun σ' H'' => σ' = [some (.int r), some (.int (l % r))] /\ H'' = H', fun σ' H'' h => ?_, ?_⟩
   ·obtain ⟨rfl, rfl⟩ := h
    have h1 := Int.emod_nonneg l (show r ≠ 0 by omega)
    have h2 := Int.emod_lt_of_pos l hp
    exact ⟨_, by omega, r, l % r, rfl, rfl, hr0, h1, (Fr.gcd_step l r).trans hg, rfl⟩
   ·exact ⟨_, rfl, _, rfl, _, rfl, _, _, rfl, rfl, hp, _, _, rfl, rfl, rfl⟩
  ·refine ifN (by simpa using hp) ?_
   refine ⟨_, rfl, ?_⟩
   have hz : r = 0 := by omega
   subst hz
   have e : (Int.gcd a b : Int) = l := by
    rw [<- hg, Int.gcd_zero_right]
    omega
   rw [e] at k
   exact k
def tL : Sp := fun vs H Q _ => ∃ (a b : Addr) (r : List Int) (qs : List (Int × Int)), vs = [.ref a, .ref b] /\ IsFrs H a (r.map fun x => (x, 1)) /\ IsFrs H b qs /\ GQ qs /\ (∀ x ∈ r, Sz 9 x) /\ ∀ p H', New H H' p (.tup [.int (aW r qs).1, .int (aW r qs).2]) -> Q (.ref p) H'
theorem Gb {r : List Int} {i : Nat} {f : Int × Int} (h : (r.map fun x => (x, (1 : Int)))[i]? = some f) : ∃ u, r[i]? = some u /\ f = (u, 1) := by
 rw [List.getElem?_map] at h
 cases e : r[i]? with
 | none => rw [e] at h; cases h
 | some x => rw [e] at h; exact ⟨x, rfl, by cases h; rfl⟩
theorem sz1 : Sz 1000 1 := (show Sz 1 1 from by unfold Sz; decide).mono (by decide)
abbrev pF : Stmt := top 9
theorem BR : FnScope ["values", "mixture", "total", "value", "share"] ["values", "mixture"] (aH pF) := ⟨rfl, rfl, rfl, by decide +kernel, rfl, by decide +kernel, by decide +kernel⟩
theorem CJ (F : FunM K mg "weighed" pF ["values", "mixture"]) (T : Blt mg) (mz : Def P w K mg base "plus" ["one", "other"] 3 (uY K)) (uy : Def P w K mg base "times" ["one", "other"] 3 (zE K)) : Def P w K mg base "weighed" ["values", "mixture"] 4 tL := by
 have S := BR
 refine Def.of F S (fun vs H Q E h => ?_) (fun f cdv A outer s H vs Q E hr h => ?_)
 ·obtain ⟨a, b, r, qs, rfl, _⟩ := h
  rfl
 ·obtain ⟨a, b, r, qs, rfl, hU, hW, g, hb, k⟩ := h
  obtain ⟨xs, ha, pa⟩ := id hU
  obtain ⟨ys, hbb, pb⟩ := id hW
  have gz := je hb g
  have zl := tU r g
  refine ⟨_, (aB (aY (i := 2) S.nd rfl (Or.inl rfl) (bH (aa aA (aa aA ak aG) aG)))
   (aB (cJ PassesOwn.never rfl (pY K rfl T.zip_ (aa (pv 0) (aa (pv 1) ak aj) aj)) (pgT K (n := 2) (bC (aP (i := 3) S.nd rfl (Or.inl rfl)) (bC (aP (i := 4) S.nd rfl (Or.inl rfl)) dY)))
    (aC (aY (i := 2) S.nd rfl (Or.inl rfl) (aD mz (hr.mono (by decide)) rfl (aa (pv 2) (aa (aD uy (hr.mono (by decide)) rfl (aa (pv 3) (aa (pv 4) ak aj) aj) (he := aj)) ak aN) aj) (he := aj)))))
   (aC (aM (pv 2))))), ?_⟩
  refine ⟨(by show 2 <= sizeLine; decide), fun t ht => ?_⟩
  have s1 : Same H (upd H t (.tup [.int 0, .int 1])) := ao ht
  refine ⟨_, rfl, _, rfl, a, b, rfl, ⟨_, SqL.of (s1 _ _ ha)⟩, ⟨_, SqL.of (s1 _ _ hbb)⟩, uK (K := K) (a := a) (b := b) (xs := xs) (ys := ys) (fun i σ H' => ∃ t o1 o2, σ = [some (.ref a), some (.ref b), some (.ref t), o1, o2] /\ New H H' t (.tup [.int (Fr.mk (acc ((r.zip qs).take i)).1 (acc ((r.zip qs).take i)).2).1, .int (Fr.mk (acc ((r.zip qs).take i)).1 (acc ((r.zip qs).take i)).2).2]))
    ⟨t, _, _, rfl, ht, by rw [aq, List.take_zero]; rfl, s1⟩ ?_ ?_ ?_⟩
  ·rintro i σ H' ⟨_, _, _, _, nw⟩
   exact ⟨SqL.of (nw.same _ _ ha), SqL.of (nw.same _ _ hbb)⟩
  ·rintro i x y p σ H' hx hy hp ⟨t', o1, o2, rfl, nw⟩
   obtain ⟨f1, e1, c1, rfl, h1⟩ := pa.get2 hx
   obtain ⟨u, hu, rfl⟩ := Gb e1
   obtain ⟨f2, e2, c2, rfl, h2⟩ := pb.get2 hy
   have sp := nw.same.trans (ao (o := .tup [.ref c1, .ref c2]) hp)
   have mq := List.mem_of_getElem? e2
   have pq := g.pr _ mq
   have ez : (r.zip qs)[i]? = some (u, f2) := List.getElem?_zip_eq_some.mpr ⟨hu, e2⟩
   have gt := gz.take i
   have lt : ((r.zip qs).take i).length <= 8 := by rw [List.length_take]; omega
   have p0 := gO gt
   have szu := hb u (List.mem_of_getElem? hu)
   have d0 : 0 < 1 * f2.2 := by have := pq.pos; omega
   have sn : Sz 69 (u * f2.1) := szu.mul (g.s1 _ mq)
   have sd : Sz 61 (1 * f2.2) := (show Sz 1 1 from by unfold Sz; decide).mul (g.s2 _ mq)
   refine ⟨p, _, rfl, SqT.of aq, rfl, _, _, rfl, _, _, rfl, rfl, ?_⟩
   refine ⟨_, rfl, _, rfl, _, rfl, c1, c2, _, _, _, _, rfl, SqT.of (sp _ _ h1), SqT.of (sp _ _ h2), (by show (0 : Int) < 1; decide), pq.pos, szu.mono (by decide), sz1, (g.s1 _ mq).mono (by decide), (g.s2 _ mq).mono (by decide), fun r1 hr' => ?_⟩
   have nr := nw.post (ao (o := .tup [.ref c1, .ref c2]) hp)
   refine ⟨t', r1, _, _, _, _, rfl, SqT.of (ao hr' _ _ nr.is), SqT.of aq, Fr.mk_pos p0, Fr.mk_pos d0, ((uo gt lt).fst p0).mono (by decide), ((oG gt lt).snd p0).mono (by decide), (sn.fst d0).mono (by decide), (sd.snd d0).mono (by decide), fun r2 hr2 => ?_⟩
   have sq := sp.trans (ao (o := .tup [.int (Fr.mk (u * f2.1) (1 * f2.2)).1, .int (Fr.mk (u * f2.1) (1 * f2.2)).2]) hr')
   refine ⟨r2, _, _, rfl, ?_⟩
   rw [Jb p0 pq, rJ ez]
   exact New.of sq hr2
  ·rintro σ H' ⟨t', o1, o2, rfl, nw⟩
   have l1 : (r.zip qs).take (min xs.length ys.length) = r.zip qs := List.take_of_length_le (by rw [List.length_zip, pa.length, pb.length, List.length_map]; exact Nat.le_refl _)
   rw [l1] at nw
   exact ⟨_, rfl, k t' H' nw⟩
theorem mj {H : Hp} (f : Int -> Int × Int) : ∀ {r : List Int} {ys : List V}, Paired (fun x y => ∀ i, x = V.int i -> IsFr H y (f i)) (r.map V.int) ys -> Paired (IsFr H) ys (r.map f)
 | [], _, h => by cases h; exact .nil
 | i :: r, _, h => by
  cases h with
  | cons h t => exact .cons (h i rfl) (mj f t)
theorem Bs {H H' : Hp} (f : List Int -> Int × Int) : ∀ {vs ys : List V} {T : List (List Int)}, Paired (fun x y => ∀ r, IsRow H x r -> IsFr H' y (f r)) vs ys -> Paired (IsRow H) vs T -> Paired (IsFr H') ys (T.map f)
 | _, _, _, .nil, .nil => .nil
 | _, _, _, .cons h t, .cons q u => .cons (h _ q) (Bs f t u)
theorem n_ {a : Addr} {T : List (List Int)} {te : TE} {σc : St} {H : Hp} {Fin : List V -> Hp -> Prop} (f : List Int -> Int × Int) (hT : IsTab H a T) (hz : T.length <= 1000)
  (hs : ∀ r ∈ T, ∀ b, H b = some (.lst (r.map V.int)) -> ∀ H1, Same H H1 -> ∀ Q : VK, (∀ y H2, Same H1 H2 -> IsFr H2 y (f r) -> Q y H2) -> te (σc.set 0 (some (.ref b))) H1 Q)
  (hd : ∀ ys H', Same H H' -> Paired (IsFr H') ys (T.map f) -> Fin ys H') : eF (Itl K a) (fW 0) lE te σc H Fin := by
 obtain ⟨vs, ha, hp⟩ := hT
 refine bw (xs := vs) (fun x y H' => ∀ r, IsRow H x r -> IsFr H' y (f r)) (fun _ _ _ _ s h r q => (h r q).mono s) (SqL.of ha) (by rw [hp.length]; exact Nat.le_of_lt (aO hz)) ?_ ?_
 ·intro x hx H1 s1 Q q
  obtain ⟨r, hr, hrow⟩ := hp.mem2 hx
  obtain ⟨b, rfl, hb⟩ := id hrow
  exact hs r hr b hb H1 s1 Q fun y H2 s2 ho => q _ H2 s2 fun r' h' => by rw [<- hrow.inj h']; exact ho
 ·intro ys H' s' pr
  exact hd ys H' s' (Bs f pr hp)
def ul : Sp := fun vs H Q _ => ∃ (a b : Addr) (r : List Int) (qs : List (Int × Int)), vs = [.ref a, .ref b] /\ H a = some (.lst (r.map V.int)) /\ r.length <= 1000 /\ IsFrs H b qs /\ GQ qs /\ (∀ x ∈ r, Sz 9 x) /\ ∀ p H', New H H' p (.tup [.int (aW r qs).1, .int (aW r qs).2]) -> Q (.ref p) H'
abbrev m7 : Stmt := top 10
theorem zY : FnScope ["row", "mixture"] ["row", "mixture"] (aH m7) := ⟨rfl, rfl, rfl, by decide +kernel, rfl, by decide +kernel, by decide +kernel⟩
theorem Ai (F : FunM K mg "row_gets" m7 ["row", "mixture"]) (T : Blt mg) (pK : Def P w K mg base "weighed" ["values", "mixture"] 4 tL) : Def P w K mg base "row_gets" ["row", "mixture"] 5 ul := by
 have S := zY
 refine Def.of F S (fun vs H Q E h => ?_) (fun f cdv A outer s H vs Q E hr h => ?_)
 ·obtain ⟨a, b, r, qs, rfl, _⟩ := h
  rfl
 ·obtain ⟨a, b, r, qs, rfl, ha, hl, hW, g, hb, k⟩ := h
  refine ⟨_, (aC (aM (aD pK (hr.mono (by decide)) rfl (aa (bj rfl (N' := ["number"]) (src := [none]) rfl (piL K (pv 0)) (fun _ _ _ _ _ => (aP (i := 0) (show (["number"] : List Str).Nodup from by decide +kernel) rfl (Or.inl rfl))) (fun _ _ _ _ _ => bf) (fun _ _ _ _ _ => (bH (aa (pv 0) (aa aA ak aG) aj)))) (aa (pv 1) ak aj) aU) (he := aU)))), ?_⟩
  refine ⟨_, rfl, a, rfl, ⟨_, SqL.of ha⟩, bw (xs := r.map V.int) (fun x y H' => ∀ i, x = V.int i -> IsFr H' y (i, 1)) (fun _ _ _ _ s h i e => (h i e).mono s) (SqL.of ha) (by rw [List.length_map]; exact Nat.le_of_lt (aO hl)) ?_ ?_⟩
  ·intro x hx H1 s1 Q' q
   obtain ⟨i, hi, rfl⟩ := List.mem_map.mp hx
   refine ⟨_, rfl, (by show 2 <= sizeLine; decide), fun p hp => q _ _ (ao hp) fun j e => ?_⟩
   cases e
   exact ⟨p, rfl, aq⟩
  ·intro ys H' s' pr p hp
   have pf := mj (fun i => (i, 1)) pr
   exact ⟨_, rfl, p, b, r, qs, rfl, ⟨ys, aq, pf.imp2 fun _ _ z => z.mono (ao hp)⟩, (hW.mono s').mono (ao hp), g, hb, fun p' H2 nw => k p' H2 (nw.pre (s'.trans (ao hp)))⟩
def ji : Sp := fun vs H Q _ => ∃ (a c : Addr) (U : List (List Int)) (m n : Nat) (qs : List (Int × Int)), vs = [.ref a, .ref c] /\ IsTab H a U /\ Gd U m n /\ IsFrs H c qs /\ GQ qs /\ ∀ p H', Same H H' -> H p = none -> IsFrs H' p (U.map fun r => aW r qs) -> Q (.ref p) H'
abbrev pC : Stmt := top 11
theorem BP : FnScope ["rows", "mixture"] ["rows", "mixture"] (aH pC) := ⟨rfl, rfl, rfl, by decide +kernel, rfl, by decide +kernel, by decide +kernel⟩
theorem Ca (F : FunM K mg "all_get" pC ["rows", "mixture"]) (T : Blt mg) (nT : Def P w K mg base "row_gets" ["row", "mixture"] 5 ul) : Def P w K mg base "all_get" ["rows", "mixture"] 6 ji := by
 have S := BP
 refine Def.of F S (fun vs H Q E h => ?_) (fun f cdv A outer s H vs Q E hr h => ?_)
 ·obtain ⟨a, c, U, m, n, qs, rfl, _⟩ := h
  rfl
 ·obtain ⟨a, c, U, m, n, qs, rfl, hU, g, hC, gc, k⟩ := h
  have m4 := g.m4
  have n4 := g.n4
  obtain ⟨vs, ha, hp⟩ := id hU
  refine ⟨_, (aC (aM (bj rfl (N' := ["row", "mixture"]) (src := [none, some 1]) rfl (piL K (pv 0)) (fun _ _ _ _ _ => (aP (i := 0) (show (["row", "mixture"] : List Str).Nodup from by decide +kernel) rfl (Or.inl rfl))) (fun _ _ _ _ _ => bf) (fun _ _ _ _ _ => (aD nT (hr.mono (by decide)) rfl (aa (pv 0) (aa (pv 1) ak aj) aj) (he := aj)))))), ?_⟩
  refine ⟨_, rfl, a, rfl, ⟨_, SqL.of ha⟩, n_ (fun r => aW r qs) hU (by rw [g.rows]; omega) ?_ ?_⟩
  ·intro r hr' x hx H4 s4 Q' q
   exact ⟨_, rfl, _, rfl, x, c, r, qs, rfl, s4 _ _ hx, by rw [g.cols r hr']; omega, hC.mono s4, gc, g.sz hr', fun p H5 nw => q _ H5 nw.same ⟨p, rfl, nw.is⟩⟩
  ·intro ys H4 s4 pr p hp
   exact k p _ (s4.trans (ao hp)) (s4.free hp) ⟨ys, aq, pr.imp2 fun _ _ z => z.mono (ao hp)⟩
def cols (T : List (List Int)) (n : Nat) : List (List Int) := (List.range n).map fun j => T.map fun r => r.getD j 0
def Di : Sp := fun vs H Q _ => ∃ (a : Addr) (U : List (List Int)) (m n j : Nat), vs = [.ref a, .int j] /\ IsTab H a U /\ Gd U m n /\ j < n /\ ∀ p H', New H H' p (.lst ((U.map fun r => r.getD j 0).map V.int)) -> Q (.ref p) H'
def eZ : Sp := fun vs H Q _ => ∃ (a : Addr) (U : List (List Int)) (m n : Nat), vs = [.ref a] /\ IsTab H a U /\ Gd U m n /\ ∀ p H', Same H H' -> OwnTab H H' p (cols U n) -> Q (.ref p) H'
theorem n6 {U : List (List Int)} {n : Nat} {r : List Int} (h : r ∈ cols U n) : r.length = U.length := by
 unfold cols at h
 obtain ⟨j, _, rfl⟩ := List.mem_map.mp h
 rw [List.length_map]
theorem eX (U : List (List Int)) (n : Nat) : (cols U n).length = n := by
 unfold cols
 rw [List.length_map, List.length_range]
theorem map_getD {α : Type} (f : List Int -> α) (U : List (List Int)) (d : α) {i : Nat} (h : i < U.length) : (U.map f).getD i d = f (U.getD i []) := by
 rw [List.getD_eq_getElem?_getD, List.getElem?_map, List.getElem?_eq_getElem h, List.getD_eq_getElem?_getD, List.getElem?_eq_getElem h]
 rfl
abbrev lK : Stmt := top 38
theorem zy : FnScope ["table", "column"] ["table", "column"] (aH lK) := ⟨rfl, rfl, rfl, by decide +kernel, rfl, by decide +kernel, by decide +kernel⟩
theorem yS (F : FunM K mg "column_of" lK ["table", "column"]) (T : Blt mg) : Def P w K mg base "column_of" ["table", "column"] 1 Di := by
 have S := zy
 refine Def.of F S (fun vs H Q E h => ?_) (fun f cdv A outer s H vs Q E hr h => ?_)
 ·obtain ⟨a, U, m, n, j, rfl, _⟩ := h
  rfl
 ·obtain ⟨a, U, m, n, j, rfl, hU, g, hj, k⟩ := h
  have m4 := g.m4
  obtain ⟨vs, ha, hp⟩ := id hU
  refine ⟨_, (aC (aM (bj rfl (N' := ["row", "column"]) (src := [none, some 1]) rfl (piL K (pv 0)) (fun _ _ _ _ _ => (aP (i := 0) (show (["row", "column"] : List Str).Nodup from by decide +kernel) rfl (Or.inl rfl))) (fun _ _ _ _ _ => bf) (fun _ _ _ _ _ => (aQ (ixL K) (pv 0) (pv 1) (fun _ _ => rfl)))))), ?_⟩
  refine ⟨_, rfl, a, rfl, ⟨_, SqL.of ha⟩, vJ (fun r => r.getD j 0) hU (by rw [g.rows]; omega) ?_ ?_⟩
  ·intro r hr' b hb H1 s1 Q' q
   exact ⟨_, rfl, _, rfl, b, _, _, _, rfl, rfl, SqL.of (s1 _ _ hb), iV (by rw [g.cols r hr']; exact hj), q H1 (Same.refl _)⟩
  ·intro H' s' p hp'
   exact k p _ (New.of s' hp')
abbrev j9 : Stmt := top 39
theorem wL : FnScope ["table"] ["table"] (aH j9) := ⟨rfl, rfl, rfl, by decide +kernel, rfl, by decide +kernel, by decide +kernel⟩
theorem wO (F : FunM K mg "columns_of" j9 ["table"]) (T : Blt mg) (lF : Def P w K mg base "column_of" ["table", "column"] 1 Di) : Def P w K mg base "columns_of" ["table"] 2 eZ := by
 have S := wL
 refine Def.of F S (fun vs H Q E h => ?_) (fun f cdv A outer s H vs Q E hr h => ?_)
 ·obtain ⟨a, U, m, n, rfl, _⟩ := h
  rfl
 ·obtain ⟨a, U, m, n, rfl, hU, g, k⟩ := h
  have n4 := g.n4
  obtain ⟨vs, b0, ha, h0, at0, hb0⟩ := hU.row (i := 0) (by rw [g.rows]; exact g.m1)
  have hl : ((U.getD 0 []).map V.int).length = n := by rw [List.length_map, (g.row g.m1).2]
  refine ⟨_, (aC (aM (bj rfl (N' := ["column", "table"]) (src := [none, some 0]) rfl (cO rfl T.range_ (aa (aK (bU K) (by rfl) T.len_ bx (aa (aQ (ixL K) (pv 0) aA (fun _ _ => rfl)) ak aF) (he := aF)) ak aN)) (fun _ _ _ _ _ => (aP (i := 0) (show (["column", "table"] : List Str).Nodup from by decide +kernel) rfl (Or.inl rfl))) (fun _ _ _ _ _ => bf) (fun _ _ _ _ _ => (aD lF (hr.mono (by decide)) rfl (aa (pv 1) (aa (pv 0) ak aj) aj) (he := aj)))))), ?_⟩
  refine ⟨_, rfl, a, vs, 0, _, rfl, rfl, SqL.of ha, at0, b0, _, rfl, .inl (SqL.of hb0), _, rfl, by omega, by omega, dz (n := ((U.getD 0 []).map V.int).length) (fun (i : Nat) y H' => OwnRow H H' y (U.map fun (r : List Int) => r.getD i 0)) (fun _ _ _ _ s h => h.mono s) (Nat.le_of_lt (aO (by omega))) ?_ ?_⟩
  ·intro i hi H1 s1 Q' q
   exact ⟨_, rfl, _, rfl, a, U, m, n, i, rfl, hU.mono s1, g, by omega, fun p H2 nw => q _ H2 nw.same ⟨p, rfl, s1.free nw.new, nw.is⟩⟩
  ·intro ys H' s' pr p hp'
   rw [hl] at pr
   exact k p _ (s'.trans (ao hp')) (OwnTab.lay s' hp' (pP _ pr))
theorem dZ {U : List (List Int)} {m n : Nat} (g : Gd U m n) : Gd (cols U n) n m := by
 refine ⟨g.n1, g.n4, g.m1, g.m4, eX U n, fun r hr => by rw [n6 hr, g.rows], fun r hr x hx => ?_⟩
 unfold cols at hr
 obtain ⟨j, hj, rfl⟩ := List.mem_map.mp hr
 obtain ⟨r, hr', rfl⟩ := List.mem_map.mp hx
 have hj' : j < r.length := by rw [g.cols r hr']; exact List.mem_range.mp hj
 exact g.num r hr' (r.getD j 0) (by rw [List.getD_eq_getElem?_getD, List.getElem?_eq_getElem hj']; exact List.getElem_mem hj')
theorem v7 {U : List (List Int)} {r : List Int} (h : r ∈ U) : ∃ i, i < U.length /\ U.getD i [] = r := by
 obtain ⟨i, hi, e⟩ := List.mem_iff_getElem.mp h
 exact ⟨i, hi, by rw [List.getD_eq_getElem?_getD, List.getElem?_eq_getElem hi]; exact e⟩
def trn (U : List (List Int)) (n : Nat) : List (List Int) := (cols U n).map fun c => c.map fun x => -x
theorem Bu (U : List (List Int)) (n : Nat) : (trn U n).length = n := by
 unfold trn
 rw [List.length_map, eX]
theorem Hl {U : List (List Int)} {n i : Nat} (h : i < n) : (trn U n).getD i [] = U.map fun r => -(r.getD i 0) := by
 unfold trn cols
 rw [List.map_map]
 refine gQ ?_
 rw [List.getElem?_map, List.getElem?_eq_getElem (by simpa using h)]
 simp
theorem G_ {U : List (List Int)} {m n i j : Nat} (g : Gd U m n) (hi : i < n) (hj : j < m) : ((trn U n).getD i []).getD j 0 = -((U.getD j []).getD i 0) := by
 rw [Hl hi, map_getD _ U 0 (by rw [g.rows]; exact hj)]
theorem yq {U : List (List Int)} {m n : Nat} (g : Gd U m n) : Gd (trn U n) n m := by
 refine ⟨g.n1, g.n4, g.m1, g.m4, Bu U n, fun r hr => ?_, fun r hr x hx => ?_⟩
 ·obtain ⟨c, hc, rfl⟩ := List.mem_map.mp hr
  rw [List.length_map, n6 hc, g.rows]
 ·obtain ⟨c, hc, rfl⟩ := List.mem_map.mp hr
  obtain ⟨y, hy, rfl⟩ := List.mem_map.mp hx
  unfold cols at hc
  obtain ⟨j, hj, rfl⟩ := List.mem_map.mp hc
  obtain ⟨r, hr', rfl⟩ := List.mem_map.mp hy
  have hj' : j < r.length := by rw [g.cols r hr']; exact List.mem_range.mp hj
  have := g.num r hr' (r.getD j 0) (by rw [List.getD_eq_getElem?_getD, List.getElem?_eq_getElem hj']; exact List.getElem_mem hj')
  omega
def Bo : Sp := fun vs H Q _ => ∃ (a : Addr) (U : List (List Int)) (m n : Nat), vs = [.ref a] /\ IsTab H a U /\ Gd U m n /\ ∀ p H', Same H H' -> OwnTab H H' p (trn U n) -> Q (.ref p) H'
abbrev gj : Stmt := top 40
theorem pM : FnScope ["table", "found", "column"] ["table"] (aH gj) := ⟨rfl, rfl, rfl, by decide +kernel, rfl, by decide +kernel, by decide +kernel⟩
theorem pA (F : FunM K mg "from_other_side" gj ["table"]) (T : Blt mg) (bL : Def P w K mg base "columns_of" ["table"] 2 eZ) : Def P w K mg base "from_other_side" ["table"] 3 Bo := by
 have S := pM
 refine Def.of F S (fun vs H Q E h => ?_) (fun f cdv A outer s H vs Q E hr h => ?_)
 ·obtain ⟨a, U, m, n, rfl, _⟩ := h
  rfl
 ·obtain ⟨a, U, m, n, rfl, hU, g, k⟩ := h
  have m4 := g.m4
  have n4 := g.n4
  refine ⟨_, (aB (aY (i := 1) S.nd rfl (Or.inl rfl) (cz ak))
   (aB (cJ PassesOwn.never rfl (piL K (aD bL (hr.mono (by decide)) rfl (aa (pv 0) ak aj) (he := aj))) (aP (i := 2) S.nd rfl (Or.inl rfl))
    (aC (cN (ik PySem.F.plainAttrs_list PySem.F.slot_list_append PySem.F.type_list_append dh (pv 1) (aa (bj rfl (N' := ["number"]) (src := [none]) rfl (piL K (pv 2)) (fun _ _ _ _ _ => (aP (i := 0) (show (["number"] : List Str).Nodup from by decide +kernel) rfl (Or.inl rfl))) (fun _ _ _ _ _ => bf) (fun _ _ _ _ _ => (xf tD (pv 0)))) ak aU)))))
   (aC (aM (pv 1))))), ?_⟩
  have s1 : Same H H := Same.refl _
  refine ⟨Nat.zero_le _, fun l hl => ?_⟩
  have hl1 : H l = none := hl
  have sl := ao (o := .lst []) hl
  have hll : upd H l (.lst []) l = some (.lst []) := aq
  generalize upd H l (.lst []) = H2 at sl hll ⊢
  refine ⟨_, rfl, a, U, m, n, rfl, hU.mono (s1.trans sl), g, fun p H3 s3 own => ?_⟩
  obtain ⟨ws, hpn, hp, hw⟩ := own
  have npl : p ≠ l := fun e => by rw [e, hll] at hpn; cases hpn
  have wl : ws.length = n := by rw [hw.length, eX]
  have hL3 := s3 _ _ hll
  refine ⟨p, rfl, ⟨_, SqL.of hp⟩, dO (K := K) (a := p) (xs := ws) (fun i σ H' => ∃ o2 xs, σ = [some (.ref a), some (.ref l), o2] /\ Same H H' /\ SameX l H3 H' /\ H' l = some (.lst xs) /\ Paired (RowX H l H') xs ((trn U n).take i))
   ⟨_, [], rfl, sl.trans s3, SameX.refl, hL3, by simpa using Paired.nil⟩ ?_ ?_ ?_⟩
  ·rintro i σ H4 _ ⟨_, _, _, _, sx, _⟩
   exact SqL.of (sx _ _ npl hp)
  ·rintro i y σ H4 hi ⟨o2, xs, rfl, s4, sx, hL, hP⟩
   obtain ⟨c, ec, b, rfl, hbn, hb⟩ := hw.get2 hi
   have nbl : b ≠ l := fun e => by rw [e, hll] at hbn; cases hbn
   have hb4 := sx _ _ nbl hb
   have cl : c.length = m := by rw [n6 (List.mem_of_getElem? ec), g.rows]
   have hin : i < n := by rw [<- wl]; exact (List.getElem?_eq_some_iff.mp hi).1
   refine ⟨_, rfl, .inl ⟨rfl, _, SqL.of hL⟩, _, rfl, b, rfl, ⟨_, SqL.of hb4⟩, wA (fun x => -x) (SqL.of hb4) (by omega) ?_ ?_⟩
   ·intro x hx H5 s5 Q' q
    exact ⟨_, rfl, _, rfl, q H5 (Same.refl _)⟩
   ·intro H5 s5 q hq
    have hL5 := s5 _ _ hL
    have nql : q ≠ l := fun e => by rw [e, hL5] at hq; cases hq
    have xl : xs.length <= 4 := by rw [hP.length, List.length_take]; omega
    refine ⟨l, xs, .ref q, rfl, rfl, ao hq _ _ hL5, aO (by omega), ?_⟩
    refine ⟨_, _, rfl, cM ((s4.trans s5).trans (ao hq)) hl1, ((sx.then s5).then (ao hq)).at, aq, ?_⟩
    have et : (trn U n)[i]? = some (c.map fun x => -x) := by
     unfold trn
     rw [List.getElem?_map, ec]
     rfl
    rw [List.take_add_one, et]
    refine (hP.imp2 fun _ _ z => ((z.mono s5).mono (ao hq)).at).app2 (.cons ⟨q, rfl, nql, ((s1.trans s4).trans s5).free hq, ?_⟩ .nil)
    rw [aJ nql, aq]
  ·rintro σ H4 ⟨o2, xs, rfl, s4, sx, hL, hP⟩
   rw [wl, List.take_of_length_le (by rw [Bu]; exact Nat.le_refl _)] at hP
   exact ⟨_, rfl, k l H4 (s1.trans s4) ⟨xs, s1.free hl1, hL, hP.imp2 fun _ _ z => z.own⟩⟩
structure Sqr (M : List (List Int)) (t : Nat) : Prop where
 rows : M.length = t
 cols : ∀ r ∈ M, r.length = t
 num : ∀ r ∈ M, ∀ x ∈ r, Sz 9 x
theorem Gz {s : Nat} {f : Nat -> Int} : ∀ n, (∀ j, j < n -> Sz s (f j)) -> Sz (s + n) (Gm.sm n f)
 | 0, _ => by
  unfold Sz
  exact Nat.pow_pos (by decide)
 | n + 1, h => ((Gz n fun j hj => h j (by omega)).add ((h n (by omega)).mono (by omega)) : Sz (s + n + 1) _)
theorem GK (c : Nat) : Sz 1 (Gm.sg c) := by
 unfold Gm.sg Sz
 split <;> decide
theorem vG {M : List (List Int)} {t : Nat} (g : Sqr M (t + 1)) {c : Nat} (hc : c < t + 1) : Sqr ((M.drop 1).map fun r => Gm.cut r c) t := by
 refine ⟨by rw [List.length_map, List.length_drop, g.rows]; omega, fun r hr => ?_, fun r hr x hx => ?_⟩
 ·obtain ⟨r0, h0, rfl⟩ := List.mem_map.mp hr
  have := g.cols r0 (List.mem_of_mem_drop h0)
  unfold Gm.cut
  rw [List.length_append, List.length_take, List.length_drop, this]
  omega
 ·obtain ⟨r0, h0, rfl⟩ := List.mem_map.mp hr
  unfold Gm.cut at hx
  rcases List.mem_append.mp hx with h | h
  ·exact g.num r0 (List.mem_of_mem_drop h0) x (List.mem_of_mem_take h)
  ·exact g.num r0 (List.mem_of_mem_drop h0) x (List.mem_of_mem_drop h)
theorem pX {r : List Int} (h : ∀ x ∈ r, Sz 9 x) (j : Nat) : Sz 9 (r.getD j 0) := by
 rw [List.getD_eq_getElem?_getD]
 cases e : r[j]? with
 | none => show Sz 9 0; unfold Sz; decide
 | some x => exact h x (List.mem_of_getElem? e)
theorem kO : ∀ (t : Nat) (M : List (List Int)), t <= 4 -> Sqr M t -> Sz (14 * t + 2) (Gm.detN t M)
 | 0, M, _, _ => by
  show Sz 2 1
  unfold Sz; decide
 | t + 1, M, ht, g => by
  have h : ∀ c, c < t + 1 -> Sz (14 * t + 12) (Gm.sg c * (M.getD 0 []).getD c 0 * Gm.detN t ((M.drop 1).map fun r => Gm.cut r c)) := fun c hc => by
   have h0 : 0 < M.length := by rw [g.rows]; omega
   have hr : M.getD 0 [] ∈ M := by rw [List.getD_eq_getElem?_getD, List.getElem?_eq_getElem h0]; exact List.getElem_mem h0
   have := ((GK c).mul (pX (g.num _ hr) c)).mul (kO t _ (by omega) (vG g hc))
   exact this.mono (by omega)
  exact (Gz (t + 1) h).mono (by omega)
def t8 (k : Nat) : Sp := fun vs H Q _ => ∃ (a : Addr) (M : List (List Int)) (t : Nat), t < k /\ vs = [.ref a] /\ IsTab H a M /\ Sqr M t /\ ∀ H', Same H H' -> Q (.int (Gm.detN t M)) H'
theorem Ie (c : Nat) : Gm.sg (c + 1) = - Gm.sg c := by
 unfold Gm.sg
 by_cases h : c % 2 = 0
 ·rw [if_neg (by omega), if_pos h]
 ·rw [if_pos (by omega), if_neg h]; rfl
theorem Bp {r : List Int} {c : Nat} (h : c < r.length) : cP (r.map V.int) none (some (c : Int)) ++ cP (r.map V.int) (some ((c : Int) + 1)) none = (Gm.cut r c).map V.int := by
 rw [qP (by omega) (by rw [List.length_map]; omega), iy (by omega) (by rw [List.length_map]; omega)]
 unfold Gm.cut
 rw [List.map_append, List.map_take, List.map_drop, Int.toNat_natCast, show ((c : Int) + 1).toNat = c + 1 by omega]
theorem EY {x : Str} {st : Stmt} {ps : List Str} (F : FunM K mg x st ps) : Def P w K mg base x ps 0 (fun _ _ _ _ => False) := by
 obtain ⟨f, fd, F1, hm, hb⟩ := F.ex
 exact ⟨f, fd, ⟨fun _ _ _ _ h => h.elim, fun _ _ _ _ _ _ _ _ _ _ _ _ _ h => h.elim⟩, hm, F1.kp, hb⟩
abbrev gA : Stmt := top 13
theorem uG : FnScope ["square", "total", "sign", "column", "rest"] ["square"] (aH gA) := ⟨rfl, rfl, rfl, by decide +kernel, rfl, by decide +kernel, by decide +kernel⟩
theorem j7 (F : FunM K mg "determinant" gA ["square"]) (T : Blt mg) (j k : Nat) (hk : k <= 4) (dW : Def P w K mg base "determinant" ["square"] j (t8 k)) : Def P w K mg base "determinant" ["square"] (j + 1) (t8 (k + 1)) := by
 have S := uG
 refine Def.of F S (fun vs H Q E h => ?_) (fun f cdv A outer s H vs Q E hr h => ?_)
 ·obtain ⟨a, M, t, _, rfl, _⟩ := h
  rfl
 ·obtain ⟨a, M, t, ht, rfl, hM, g, kk⟩ := h
  obtain ⟨vs, ha, hp⟩ := id hM
  have vl : vs.length = t := by rw [hp.length, g.rows]
  refine ⟨_, (aB (bu (bh eQ (aK (bU K) (by rfl) T.len_ bx (aa (pv 0) ak aj) (he := aj)) aA (a_ _))
    (aC (aM aA)) aZ)
   (aB (aY (i := 1) S.nd rfl (Or.inl rfl) aA)
   (aB (aY (i := 2) S.nd rfl (Or.inl rfl) aA)
   (aB (cJ PassesOwn.never rfl (cO rfl T.range_ (aa (aK (bU K) (by rfl) T.len_ bx (aa (pv 0) ak aj) (he := aj)) ak aN)) (aP (i := 3) S.nd rfl (Or.inr rfl))
    (aB (jV (i := 4) rfl S.nd rfl rfl (N' := ["row", "column"]) (src := [none, some 3]) rfl (piL K (eV (slL K) (pv 0) (fY aA) gh)) (fun _ _ _ _ _ => (aP (i := 0) (show (["row", "column"] : List Str).Nodup from by decide +kernel) rfl (Or.inl rfl))) (fun _ _ _ _ _ => bf) (fun _ _ _ _ _ => (aX jj (eV (slL K) (pv 0) gh (fY (pv 1))) (eV (slL K) (pv 0) (fY (aX cU (pv 1) aA)) gh))))
   (aB (aY (i := 1) S.nd rfl (Or.inl rfl) (aX cU (pv 1) (aX cF (aX cF (pv 2) (aQ (ixL K) (aQ (ixL K) (pv 0) aA (fun _ _ => rfl)) (pv 3) (fun _ _ => rfl))) (aD dW (hr.mono (by omega)) rfl (aa (pv 4) ak aj) (he := aj)))))
   (aC (aY (i := 2) S.nd rfl (Or.inl rfl) (xf tD (pv 2)))))))
   (aC (aM (pv 1))))))), ?_⟩
  refine ⟨_, rfl, a, vs, rfl, .inl (SqL.of ha), rfl, _, rfl, ?_⟩
  cases t with
  | zero =>
   refine ifP (by rw [vl]; rfl) ?_
   exact kk H (Same.refl _)
  | succ t =>
   refine ifN (by rw [vl]; simp; omega) ?_
   refine ⟨_, rfl, a, vs, rfl, .inl (SqL.of ha), _, rfl, by omega, by omega, jq (n := vs.length) (fun i σ H' => ∃ o3 o4, σ = [some (.ref a), some (.int (Gm.sm i fun c => Gm.sg c * (M.getD 0 []).getD c 0 * Gm.detN t ((M.drop 1).map fun r => Gm.cut r c))), some (.int (Gm.sg i)), o3, o4] /\ Same H H')
    ⟨_, _, rfl, Same.refl _⟩ ?_ ?_⟩
   ·rintro i σ H1 hi ⟨o3, o4, rfl, s1⟩
    rw [vl] at hi
    have ei : (0 : Int) + (i : Int) = (i : Int) := by omega
    rw [ei]
    have hp1 := hp.imp2 fun _ _ z => z.mono s1
    refine ⟨_, rfl, _, rfl, a, vs, rfl, SqL.of (s1 _ _ ha), fun q hq => ?_⟩
    have ed : cP vs (some 1) none = vs.drop 1 := iy (k := 1) (by decide) (by rw [vl]; omega)
    rw [ed]
    have hR : IsTab (upd H1 q (.lst (vs.drop 1))) q (M.drop 1) := IsTab.drop1 hq hp1
    have s2 : Same H1 (upd H1 q (.lst (vs.drop 1))) := ao hq
    generalize upd H1 q (.lst (vs.drop 1)) = H2 at hR s2 ⊢
    obtain ⟨ws, hqw, _⟩ := id hR
    refine ⟨q, rfl, ⟨_, SqL.of hqw⟩, BW (fun r => Gm.cut r i) hR (by rw [List.length_drop, g.rows]; omega) ?_ ?_⟩
    ·intro r hr' b hb H3 s3 Q' q'
     have rl : i < r.length := by rw [g.cols r (List.mem_of_mem_drop hr')]; exact hi
     refine ⟨_, rfl, _, rfl, _, rfl, b, _, rfl, SqL.of (s3 _ _ hb), fun q1 hq1 => ?_⟩
     refine ⟨_, rfl, _, rfl, _, _, rfl, rfl, _, rfl, b, _, rfl, SqL.of (ao hq1 _ _ (s3 _ _ hb)), fun q2 hq2 => ?_⟩
     have g1 := ao (o := .lst (cP (r.map V.int) (some ((i : Int) + 1)) none)) hq2 _ _ (aq (H := H3) (a := q1) (o := .lst (cP (r.map V.int) none (some (i : Int)))))
     refine ⟨q1, q2, _, _, rfl, rfl, g1, aq, ?_, fun q3 hq3 => ?_⟩
     ·rw [<- List.length_append, Bp rl, List.length_map]
      unfold Gm.cut
      rw [List.length_append, List.length_take, List.length_drop]
      have := g.cols r (List.mem_of_mem_drop hr')
      exact Nat.le_of_lt (aO (by omega))
     ·rw [Bp rl]
      have s5 := (ao (o := .lst (cP (r.map V.int) none (some (i : Int)))) hq1).trans (ao (o := .lst (cP (r.map V.int) (some ((i : Int) + 1)) none)) hq2)
      exact q' _ _ (s5.trans (ao hq3)) ⟨q3, rfl, (s3.trans s5).free hq3, aq⟩
    ·intro ys H3 s3 pr p3 hp3
     have hN := (OwnTab.lay s3 hp3 pr).tab
     have s4 : Same H2 (upd H3 p3 (.lst ys)) := s3.trans (ao hp3)
     generalize upd H3 p3 (.lst ys) = H4 at hN s4 ⊢
     have s14 := (s1.trans s2).trans s4
     have h0M : 0 < M.length := by rw [g.rows]; omega
     obtain ⟨vs', b0, ha0, h0, at0, hb0⟩ := (hM.mono s14).row (i := 0) h0M
     have hr0 : M.getD 0 [] ∈ M := by rw [List.getD_eq_getElem?_getD, List.getElem?_eq_getElem h0M]; exact List.getElem_mem h0M
     have c0 : i < (M.getD 0 []).length := by rw [g.cols _ hr0]; exact hi
     have z1 := (GK i)
     have z2 := pX (g.num _ hr0) i
     have gm := vG g hi
     have z3 := kO t _ (by omega) gm
     have z4 := z1.mul z2
     refine ⟨_, rfl, _, rfl, _, rfl, a, _, 0, _, rfl, rfl, SqL.of ha0, at0, _, rfl, b0, _, _, _, rfl, rfl, SqL.of hb0, iV c0, _, _, rfl, rfl, ⟨up z1, z2.mono (by decide)⟩, ?_⟩
     refine ⟨_, rfl, p3, _, t, by omega, rfl, hN, gm, fun H5 s5 => ?_⟩
     refine ⟨_, _, rfl, rfl, ⟨z4.mono (by decide), z3.mono (by omega)⟩, _, _, rfl, rfl, ?_⟩
     refine ⟨_, rfl, _, rfl, some (.int (i : Int)), some (.ref p3), ?_, s14.trans s5⟩
     rw [Ie]
     rfl
   ·rintro σ H1 ⟨o3, o4, rfl, s1⟩
    rw [vl]
    exact ⟨_, rfl, kk H1 s1⟩
def Bt : Sp := t8 5
theorem uJ (F : FunM K mg "determinant" gA ["square"]) (T : Blt mg) : Def P w K mg base "determinant" ["square"] 5 Bt := by
 have d0 : Def P w K mg base "determinant" ["square"] 0 (t8 0) := by
  obtain ⟨f, fd, F1, hm, hk, hb⟩ := (EY (P := P) (w := w) (base := base) F).ex
  exact ⟨f, fd, F1.imp fun _ _ _ _ ⟨_, _, _, h, _⟩ => absurd h (Nat.not_lt_zero _), hm, hk, hb⟩
 exact j7 F T 4 4 (by decide) (j7 F T 3 3 (by decide) (j7 F T 2 2 (by decide) (j7 F T 1 1 (by decide) (j7 F T 0 0 (by decide) d0))))
def yp : Sp := fun vs H Q _ => ∃ (a b : Addr) (M : List (List Int)) (t c : Nat) (xs : List Int), vs = [.ref a, .int c, .ref b] /\ IsTab H a M /\ Sqr M t /\ t <= 4 /\ c < t /\ H b = some (.lst (xs.map V.int)) /\ xs.length = t /\ ∀ p H', Same H H' -> OwnTab H H' p (Gm.withC M c xs) -> Q (.ref p) H'
theorem Hi {r : List Int} {c : Nat} {x : Int} (h : c < r.length) : (Gm.putC r c x).length = r.length := by
 unfold Gm.putC
 rw [List.length_append, List.length_append, List.length_take, List.length_drop, List.length_singleton]
 omega
abbrev jA : Stmt := top 14
theorem uN : FnScope ["square", "column", "numbers"] ["square", "column", "numbers"] (aH jA) := ⟨rfl, rfl, rfl, by decide +kernel, rfl, by decide +kernel, by decide +kernel⟩
theorem vf (F : FunM K mg "with_column" jA ["square", "column", "numbers"]) (T : Blt mg) : Def P w K mg base "with_column" ["square", "column", "numbers"] 1 yp := by
 have S := uN
 refine Def.of F S (fun vs H Q E h => ?_) (fun f cdv A outer s H vs Q E hr h => ?_)
 ·obtain ⟨a, b, M, t, c, xs, rfl, _⟩ := h
  rfl
 ·obtain ⟨a, b, M, t, c, xs, rfl, hM, g, t4, hc, hb, xl, kk⟩ := h
  obtain ⟨vs, ha, hp⟩ := id hM
  have vl : vs.length = t := by rw [hp.length, g.rows]
  refine ⟨_, (aC (aM (bj rfl (N' := ["row", "number", "column"]) (src := [none, none, some 1]) rfl (pY K rfl T.zip_ (aa (pv 0) (aa (pv 2) ak aj) aj)) (fun _ _ _ _ _ => (pgT K (n := 2) (bC (aP (i := 0) (show (["row", "number", "column"] : List Str).Nodup from by decide +kernel) rfl (Or.inl rfl)) (bC (aP (i := 1) (show (["row", "number", "column"] : List Str).Nodup from by decide +kernel) rfl (Or.inl rfl)) dY)))) (fun _ _ _ _ _ => bf) (fun _ _ _ _ _ => (aX jj (aX jj (eV (slL K) (pv 0) gh (fY (pv 2))) (cz (aa (pv 1) ak aj))) (eV (slL K) (pv 0) (fY (aX cU (pv 2) aA)) gh)))))), ?_⟩
  refine ⟨_, rfl, _, rfl, a, b, rfl, ⟨_, SqL.of ha⟩, ⟨_, SqL.of hb⟩, rN (xs := vs) (ys := xs.map V.int) (fun i zs H' => Same H H' /\ Paired (OwnRow H H') zs ((Gm.withC M c xs).take i)) ⟨Same.refl _, by simpa using Paired.nil⟩ ?_ (by rw [vl]; exact Nat.le_of_lt (aO (by omega))) ?_ ?_⟩
  ·rintro i zs H' ⟨s1, pr⟩
   refine ⟨SqL.of (s1 _ _ ha), SqL.of (s1 _ _ hb), ?_⟩
   rw [pr.length, List.length_take]
   omega
  ·rintro i x y p' zs H' hx hy hp' ⟨s1, pr⟩
   obtain ⟨r, er, b1, rfl, hb1⟩ := hp.get2 hx
   rw [List.getElem?_map] at hy
   obtain ⟨y', ey, rfl⟩ : ∃ y', xs[i]? = some y' /\ y = V.int y' := by
    cases e : xs[i]? with
    | none => rw [e] at hy; cases hy
    | some z => rw [e] at hy; exact ⟨z, rfl, by cases hy; rfl⟩
   have rl : c < r.length := by rw [g.cols r (List.mem_of_getElem? er)]; exact hc
   have s2 := s1.trans (ao (o := .tup [.ref b1, .int y']) hp')
   refine ⟨p', _, rfl, SqT.of aq, rfl, _, _, rfl, _, _, rfl, rfl, ?_⟩
   refine zx ?_
   have t2 : Same H' (upd H' p' (.tup [.ref b1, .int y'])) := ao hp'
   generalize upd H' p' (.tup [.ref b1, .int y']) = H2 at s2 t2 ⊢
   have k1 : cP (r.map V.int) none (some (c : Int)) = (r.take c).map V.int := by
    rw [qP (by omega) (by rw [List.length_map]; omega), List.map_take, Int.toNat_natCast]
   have k2 : cP (r.map V.int) (some ((c : Int) + 1)) none = (r.drop (c + 1)).map V.int := by
    rw [iy (by omega) (by rw [List.length_map]; omega), List.map_drop, show ((c : Int) + 1).toNat = c + 1 by omega]
   have rt := g.cols r (List.mem_of_getElem? er)
   refine ⟨_, rfl, _, rfl, _, rfl, b1, _, rfl, SqL.of (s2 _ _ hb1), fun q1 hq1 => ?_⟩
   rw [k1]
   have s3 := s2.trans (ao (o := .lst ((r.take c).map V.int)) hq1)
   have t3 := t2.trans (ao (o := .lst ((r.take c).map V.int)) hq1)
   have e1 : upd H2 q1 (.lst ((r.take c).map V.int)) q1 = some (.lst ((r.take c).map V.int)) := aq
   generalize upd H2 q1 (.lst ((r.take c).map V.int)) = H3 at s3 t3 e1 ⊢
   refine ⟨_, rfl, (by show 1 <= sizeLine; decide), fun q2 hq2 => ?_⟩
   have s4 := s3.trans (ao (o := .lst [.int y']) hq2)
   have t4 := t3.trans (ao (o := .lst [.int y']) hq2)
   have e2 : upd H3 q2 (.lst [.int y']) q2 = some (.lst [.int y']) := aq
   have e1' := ao (o := .lst [.int y']) hq2 _ _ e1
   generalize upd H3 q2 (.lst [.int y']) = H4 at s4 t4 e2 e1' ⊢
   refine ⟨q1, q2, _, _, rfl, rfl, e1', e2, (by rw [List.length_map, List.length_take, List.length_singleton]; exact Nat.le_of_lt (aO (by omega))), fun q3 hq3 => ?_⟩
   have s5 := s4.trans (ao (o := .lst ((r.take c).map V.int ++ [.int y'])) hq3)
   have t5 := t4.trans (ao (o := .lst ((r.take c).map V.int ++ [.int y'])) hq3)
   have e3 : upd H4 q3 (.lst ((r.take c).map V.int ++ [.int y'])) q3 = some (.lst ((r.take c).map V.int ++ [.int y'])) := aq
   generalize upd H4 q3 (.lst ((r.take c).map V.int ++ [.int y'])) = H5 at s5 t5 e3 ⊢
   refine ⟨_, rfl, _, rfl, _, _, rfl, rfl, _, rfl, b1, _, rfl, SqL.of (s5 _ _ hb1), fun q4 hq4 => ?_⟩
   rw [k2]
   have s6 := s5.trans (ao (o := .lst ((r.drop (c + 1)).map V.int)) hq4)
   have t6 := t5.trans (ao (o := .lst ((r.drop (c + 1)).map V.int)) hq4)
   have e3' := ao (o := .lst ((r.drop (c + 1)).map V.int)) hq4 _ _ e3
   refine ⟨q3, q4, _, _, rfl, rfl, e3', aq, (by rw [List.length_append, List.length_map, List.length_map, List.length_take, List.length_drop, List.length_singleton]; exact Nat.le_of_lt (aO (by omega))), fun q5 hq5 => ?_⟩
   have er' : (r.take c).map V.int ++ [V.int y'] ++ (r.drop (c + 1)).map V.int = (Gm.putC r c y').map V.int := by
    unfold Gm.putC
    rw [List.map_append, List.map_append]
    rfl
   rw [er']
   have s7 := s6.trans (ao (o := .lst ((Gm.putC r c y').map V.int)) hq5)
   refine ⟨s7, ?_⟩
   have et : (Gm.withC M c xs)[i]? = some (Gm.putC r c y') := by
    unfold Gm.withC
    rw [List.getElem?_zipWith, er, ey]
   rw [List.take_add_one, et]
   have t7 := t6.trans (ao (o := .lst ((Gm.putC r c y').map V.int)) hq5)
   exact (pr.imp2 fun _ _ z => z.mono t7).app2 (.cons ⟨q5, rfl, s6.free hq5, aq⟩ .nil)
  ·rintro zs H' ⟨s1, pr⟩ q hq
   rw [List.take_of_length_le (by unfold Gm.withC; rw [List.length_zipWith, List.length_map, vl, g.rows]; omega)] at pr
   exact kk q _ (s1.trans (ao hq)) (OwnTab.lay s1 hq pr)
theorem jr {M : List (List Int)} {t c : Nat} {xs : List Int} (g : Sqr M t) (hc : c < t) (xl : xs.length = t) (hx : ∀ x ∈ xs, Sz 9 x) : Sqr (Gm.withC M c xs) t := by
 unfold Gm.withC
 refine ⟨by rw [List.length_zipWith, g.rows, xl, Nat.min_self], fun r hr => ?_, fun r hr x hx' => ?_⟩
 ·obtain ⟨i, hi, rfl⟩ := List.mem_iff_getElem.mp hr
  rw [List.getElem_zipWith]
  have hm : M[i]'(by rw [List.length_zipWith] at hi; omega) ∈ M := List.getElem_mem _
  rw [Hi (by rw [g.cols _ hm]; exact hc), g.cols _ hm]
 ·obtain ⟨i, hi, rfl⟩ := List.mem_iff_getElem.mp hr
  rw [List.getElem_zipWith] at hx'
  have hm : M[i]'(by rw [List.length_zipWith] at hi; omega) ∈ M := List.getElem_mem _
  unfold Gm.putC at hx'
  rcases List.mem_append.mp hx' with h | h
  ·rcases List.mem_append.mp h with h | h
   ·exact g.num _ hm x (List.mem_of_mem_take h)
   ·rw [List.mem_singleton.mp h]
    exact hx _ (List.getElem_mem _)
  ·exact g.num _ hm x (List.mem_of_mem_drop h)
def qJ (M : List (List Int)) (t : Nat) (xs : List Int) : List (Int × Int) := mks ((List.range t).map fun c => Gm.sgn (Gm.detN t M) * Gm.detN t (Gm.withC M c xs)) (Gm.sgn (Gm.detN t M) * Gm.detN t M)
def qy : Sp := fun vs H Q _ => ∃ (a b : Addr) (M : List (List Int)) (t : Nat) (xs : List Int), vs = [.ref a, .ref b] /\ IsTab H a M /\ Sqr M t /\ t <= 4 /\ H b = some (.lst (xs.map V.int)) /\ xs.length = t /\ (∀ x ∈ xs, Sz 9 x) /\
 (Gm.detN t M = 0 -> ∀ H', Same H H' -> Q .non H') /\ (Gm.detN t M ≠ 0 -> ∀ p H', Same H H' -> H p = none -> IsFrs H' p (qJ M t xs) -> Q (.ref p) H')
abbrev nY : Stmt := top 15
theorem Ab : FnScope ["square", "numbers", "whole", "sign", "parts"] ["square", "numbers"] (aH nY) := ⟨rfl, rfl, rfl, by decide +kernel, rfl, by decide +kernel, by decide +kernel⟩
theorem Ae (F : FunM K mg "solution" nY ["square", "numbers"]) (T : Blt mg) (dW : Def P w K mg base "determinant" ["square"] 5 Bt) (jL : Def P w K mg base "with_column" ["square", "column", "numbers"] 1 yp) (ie : Def P w K mg base "made" ["a", "b"] 2 l_) : Def P w K mg base "solution" ["square", "numbers"] 6 qy := by
 have S := Ab
 refine Def.of F S (fun vs H Q E h => ?_) (fun f cdv A outer s H vs Q E hr h => ?_)
 ·obtain ⟨a, b, M, t, xs, rfl, _⟩ := h
  rfl
 ·obtain ⟨a, b, M, t, xs, rfl, hM, g, t4, hb, xl, hx, kn, ks⟩ := h
  obtain ⟨vs, ha, hp⟩ := id hM
  have vl : vs.length = t := by rw [hp.length, g.rows]
  refine ⟨_, (aB (aY (i := 2) S.nd rfl (Or.inr rfl) (aD dW (hr.mono (by decide)) rfl (aa (pv 0) ak aj) (he := aj)))
   (aB (bu (bh eQ (pv 2) aA (a_ _))
    (aC (aM pG)) aZ)
   (aB (aY (i := 3) S.nd rfl (Or.inr rfl) (Fy (bh qg (pv 2) aA (a_ _)) aA (xf tD aA)))
   (aB (jV (i := 4) rfl S.nd rfl rfl (N' := ["column", "square", "numbers"]) (src := [none, some 0, some 1]) rfl (cO rfl T.range_ (aa (aK (bU K) (by rfl) T.len_ bx (aa (pv 0) ak aj) (he := aj)) ak aN)) (fun _ _ _ _ _ => (aP (i := 0) (show (["column", "square", "numbers"] : List Str).Nodup from by decide +kernel) rfl (Or.inl rfl))) (fun _ _ _ _ _ => bf) (fun _ _ _ _ _ => (aD dW (hr.mono (by decide)) rfl (aa (aD jL (hr.mono (by decide)) rfl (aa (pv 1) (aa (pv 0) (aa (pv 2) ak aj) aj) aj) (he := aj)) ak aN) (he := aN))))
   (aC (aM (bj rfl (N' := ["part", "sign", "whole"]) (src := [none, some 3, some 2]) rfl (piL K (pv 4)) (fun _ _ _ _ _ => (aP (i := 0) (show (["part", "sign", "whole"] : List Str).Nodup from by decide +kernel) rfl (Or.inl rfl))) (fun _ _ _ _ _ => bf) (fun _ _ _ _ _ => (aD ie (hr.mono (by decide)) rfl (aa (aX cF (pv 1) (pv 0)) (aa (aX cF (pv 1) (pv 2)) ak bz) bz) (he := bz)))))))))), ?_⟩
  refine ⟨_, rfl, a, M, t, by omega, rfl, hM, g, fun H1 s1 => ?_⟩
  refine ⟨_, rfl, rfl, _, rfl, ?_⟩
  by_cases hz : Gm.detN t M = 0
  ·refine ifP (decide_eq_true (by rw [hz])) ?_
   exact kn hz H1 s1
  refine ifN (by simpa using hz) ?_
  have zw := kO t M t4 g
  have w0 := Gm.sgn_pos hz
  have zs : Sz 1 (Gm.sgn (Gm.detN t M)) := by unfold Gm.sgn Sz; split <;> decide
  have zS := zs.mul zw
  refine ⟨_, rfl, _, _, rfl, rfl, _, rfl, ?_⟩
  by_cases hc : 0 < Gm.detN t M
  ·have hs : Gm.sgn (Gm.detN t M) = 1 := if_pos hc
   have w0' := w0
   have zs' := zs
   have zS' := zS
   rw [hs] at w0' zs' zS'
   refine ifP (decide_eq_true hc) ?_
   refine ⟨_, rfl, a, vs, rfl, .inl (SqL.of (s1 _ _ ha)), _, rfl, by omega, by omega, dz (n := vs.length) (fun (c : Nat) y _ => y = V.int (Gm.detN t (Gm.withC M c xs))) (fun _ _ _ _ _ h => h) (Nat.le_of_lt (aO (by omega))) ?_ ?_⟩
   ·intro c hc H2 s2 Q' q
    rw [vl] at hc
    have s12 := s1.trans s2
    refine ⟨_, rfl, _, rfl, _, rfl, a, b, M, t, c, xs, rfl, hM.mono s12, g, t4, hc, s12 _ _ hb, xl, fun p H3 s3 own => ?_⟩
    exact ⟨p, _, t, by omega, rfl, own.tab, jr g hc xl hx, fun H4 s4 => q _ H4 (s3.trans s4) rfl⟩
   ·intro ys H2 s2 pr p hp2
    have e := nF (fun c => Gm.detN t (Gm.withC M c xs)) pr
    subst e
    rw [vl]
    have q2 : upd H2 p (.lst (((List.range t).map fun c => Gm.detN t (Gm.withC M c xs)).map V.int)) p = some (.lst (((List.range t).map fun c => Gm.detN t (Gm.withC M c xs)).map V.int)) := aq
    have s3 : Same H (upd H2 p (.lst (((List.range t).map fun c => Gm.detN t (Gm.withC M c xs)).map V.int))) := (s1.trans s2).trans (ao hp2)
    generalize upd H2 p (.lst (((List.range t).map fun c => Gm.detN t (Gm.withC M c xs)).map V.int)) = H3 at q2 s3 ⊢
    refine ⟨_, rfl, p, rfl, ⟨_, SqL.of q2⟩, bw (xs := ((List.range t).map fun c => Gm.detN t (Gm.withC M c xs)).map V.int) (fun x y H' => ∀ i, x = V.int i -> IsFr H' y (Fr.mk (Gm.sgn (Gm.detN t M) * i) (Gm.sgn (Gm.detN t M) * Gm.detN t M))) (fun _ _ _ _ s h i e => (h i e).mono s) (SqL.of q2) (by rw [List.length_map, List.length_map, List.length_range]; exact Nat.le_of_lt (aO (by omega))) ?_ ?_⟩
    ·intro x hx' H4 s4 Q' q
     obtain ⟨d, hd, rfl⟩ := List.mem_map.mp hx'
     obtain ⟨c, hc, rfl⟩ := List.mem_map.mp hd
     have zd := kO t _ t4 (jr g (List.mem_range.mp hc) xl hx)
     refine ⟨_, rfl, _, rfl, _, _, rfl, rfl, ⟨up zs', zd.mono (by omega)⟩, _, rfl, _, rfl, _, _, rfl, rfl, ⟨up zs', zw.mono (by omega)⟩, _, _, rfl, w0', zS'.mono (by omega), fun r hr' => ?_⟩
     refine q _ _ (ao hr') fun i e => ?_
     cases e
     exact ⟨r, rfl, by rw [hs]; exact aq⟩
    ·intro zsl H4 s4 pr2 r hr'
     have pf := mj (fun i => Fr.mk (Gm.sgn (Gm.detN t M) * i) (Gm.sgn (Gm.detN t M) * Gm.detN t M)) pr2
     refine ks hz r _ ((s3.trans s4).trans (ao hr')) ((s3.trans s4).free hr') ⟨zsl, aq, ?_⟩
     have e : qJ M t xs = ((List.range t).map fun c => Gm.detN t (Gm.withC M c xs)).map fun i => Fr.mk (Gm.sgn (Gm.detN t M) * i) (Gm.sgn (Gm.detN t M) * Gm.detN t M) := by
      unfold qJ mks
      rw [List.map_map, List.map_map]
      rfl
     rw [e]
     exact pf.imp2 fun _ _ z => z.mono (ao hr')
  ·have hs : Gm.sgn (Gm.detN t M) = -1 := if_neg hc
   have w0' := w0
   have zs' := zs
   have zS' := zS
   rw [hs] at w0' zs' zS'
   refine ifN (by simpa using hc) ?_
   refine ⟨_, rfl, ?_⟩
   refine ⟨_, rfl, a, vs, rfl, .inl (SqL.of (s1 _ _ ha)), _, rfl, by omega, by omega, dz (n := vs.length) (fun (c : Nat) y _ => y = V.int (Gm.detN t (Gm.withC M c xs))) (fun _ _ _ _ _ h => h) (Nat.le_of_lt (aO (by omega))) ?_ ?_⟩
   ·intro c hc H2 s2 Q' q
    rw [vl] at hc
    have s12 := s1.trans s2
    refine ⟨_, rfl, _, rfl, _, rfl, a, b, M, t, c, xs, rfl, hM.mono s12, g, t4, hc, s12 _ _ hb, xl, fun p H3 s3 own => ?_⟩
    exact ⟨p, _, t, by omega, rfl, own.tab, jr g hc xl hx, fun H4 s4 => q _ H4 (s3.trans s4) rfl⟩
   ·intro ys H2 s2 pr p hp2
    have e := nF (fun c => Gm.detN t (Gm.withC M c xs)) pr
    subst e
    rw [vl]
    have q2 : upd H2 p (.lst (((List.range t).map fun c => Gm.detN t (Gm.withC M c xs)).map V.int)) p = some (.lst (((List.range t).map fun c => Gm.detN t (Gm.withC M c xs)).map V.int)) := aq
    have s3 : Same H (upd H2 p (.lst (((List.range t).map fun c => Gm.detN t (Gm.withC M c xs)).map V.int))) := (s1.trans s2).trans (ao hp2)
    generalize upd H2 p (.lst (((List.range t).map fun c => Gm.detN t (Gm.withC M c xs)).map V.int)) = H3 at q2 s3 ⊢
    refine ⟨_, rfl, p, rfl, ⟨_, SqL.of q2⟩, bw (xs := ((List.range t).map fun c => Gm.detN t (Gm.withC M c xs)).map V.int) (fun x y H' => ∀ i, x = V.int i -> IsFr H' y (Fr.mk (Gm.sgn (Gm.detN t M) * i) (Gm.sgn (Gm.detN t M) * Gm.detN t M))) (fun _ _ _ _ s h i e => (h i e).mono s) (SqL.of q2) (by rw [List.length_map, List.length_map, List.length_range]; exact Nat.le_of_lt (aO (by omega))) ?_ ?_⟩
    ·intro x hx' H4 s4 Q' q
     obtain ⟨d, hd, rfl⟩ := List.mem_map.mp hx'
     obtain ⟨c, hc, rfl⟩ := List.mem_map.mp hd
     have zd := kO t _ t4 (jr g (List.mem_range.mp hc) xl hx)
     refine ⟨_, rfl, _, rfl, _, _, rfl, rfl, ⟨up zs', zd.mono (by omega)⟩, _, rfl, _, rfl, _, _, rfl, rfl, ⟨up zs', zw.mono (by omega)⟩, _, _, rfl, w0', zS'.mono (by omega), fun r hr' => ?_⟩
     refine q _ _ (ao hr') fun i e => ?_
     cases e
     exact ⟨r, rfl, by rw [hs]; exact aq⟩
    ·intro zsl H4 s4 pr2 r hr'
     have pf := mj (fun i => Fr.mk (Gm.sgn (Gm.detN t M) * i) (Gm.sgn (Gm.detN t M) * Gm.detN t M)) pr2
     refine ks hz r _ ((s3.trans s4).trans (ao hr')) ((s3.trans s4).free hr') ⟨zsl, aq, ?_⟩
     have e : qJ M t xs = ((List.range t).map fun c => Gm.detN t (Gm.withC M c xs)).map fun i => Fr.mk (Gm.sgn (Gm.detN t M) * i) (Gm.sgn (Gm.detN t M) * Gm.detN t M) := by
      unfold qJ mks
      rw [List.map_map, List.map_map]
      rfl
     rw [e]
     exact pf.imp2 fun _ _ z => z.mono (ao hr')
def IsNats (H : Hp) (v : V) (l : List Nat) : Prop := ∃ b, v = .ref b /\ H b = some (.lst (l.map fun (i : Nat) => V.int i))
theorem IsNats.mono {H H' : Hp} {v : V} {l : List Nat} (s : Same H H') (h : IsNats H v l) : IsNats H' v l := let ⟨b, e, q⟩ := h; ⟨b, e, s _ _ q⟩
def OwnNats (H H' : Hp) (v : V) (l : List Nat) : Prop := ∃ b, v = .ref b /\ H b = none /\ H' b = some (.lst (l.map fun (i : Nat) => V.int i))
theorem OwnNats.mono {H H1 H2 : Hp} {v : V} {l : List Nat} (s : Same H1 H2) (h : OwnNats H H1 v l) : OwnNats H H2 v l := let ⟨b, e, n, q⟩ := h; ⟨b, e, n, s _ _ q⟩
theorem OwnNats.nats {H H' : Hp} {v : V} {l : List Nat} (h : OwnNats H H' v l) : IsNats H' v l := let ⟨b, e, _, q⟩ := h; ⟨b, e, q⟩
def tG : Sp := fun vs H Q _ => ∃ n : Nat, vs = [.int n] /\ n <= 4 /\ ∀ p xs H', Same H H' -> H p = none -> H' p = some (.lst xs) -> Paired (OwnNats H H') xs (Gm.chM n) -> Q (.ref p) H'
theorem jX : ∀ n, (Gm.chM n).length = 2 ^ n
 | 0 => rfl
 | n + 1 => by
  show (Gm.chM n ++ (Gm.chM n).map fun c => c ++ [n]).length = _
  rw [List.length_append, List.length_map, jX n, Nat.pow_succ]; omega
theorem km {n : Nat} (h : n <= 4) : 2 ^ n <= 16 := Nat.pow_le_pow_right (n := 2) (by decide) h
theorem Dd {n : Nat} {c : List Nat} (h : c ∈ Gm.chM n) : c.length <= n := by
 have := (Gm.mem_chM.mpr h).length_le
 rwa [List.length_range] at this
theorem xn {H H1 H' : Hp} (f : List Nat -> List Nat) : ∀ {vs ys : List V} {L : List (List Nat)}, Paired (fun x y => ∀ l, OwnNats H H1 x l -> OwnNats H H' y (f l)) vs ys -> Paired (OwnNats H H1) vs L -> Paired (OwnNats H H') ys (L.map f)
 | _, _, _, .nil, .nil => .nil
 | _, _, _, .cons h t, .cons q u => .cons (h _ q) (xn f t u)
theorem Ii {l r : List Nat} (h : (l.map fun (i : Nat) => V.int i) = r.map fun (i : Nat) => V.int i) : l = r := by
 have inj : ∀ (a b : List Nat), (a.map fun (i : Nat) => V.int i) = (b.map fun (i : Nat) => V.int i) -> a = b := by
  intro a
  induction a with
  | nil => intro b h; cases b with
   | nil => rfl
   | cons _ _ => simp at h
  | cons x a ih => intro b h; cases b with
   | nil => simp at h
   | cons y b =>
    simp only [List.map_cons, List.cons.injEq, V.int.injEq] at h
    rw [ih b h.2, show x = y by omega]
 exact inj l r h
theorem IsNats.inj {H : Hp} {v : V} {l r : List Nat} (h : IsNats H v l) (q : IsNats H v r) : l = r := by
 obtain ⟨a, rfl, e⟩ := h
 obtain ⟨b, eb, f⟩ := q
 cases eb
 rw [e] at f
 injection f with f
 injection f with f
 exact Ii f
abbrev oJ : Stmt := top 16
theorem Cj : FnScope ["count", "found", "place"] ["count"] (aH oJ) := ⟨rfl, rfl, rfl, by decide +kernel, rfl, by decide +kernel, by decide +kernel⟩
theorem Cz (F : FunM K mg "choices" oJ ["count"]) (T : Blt mg) : Def P w K mg base "choices" ["count"] 1 tG := by
 have S := Cj
 refine Def.of F S (fun vs H Q E h => ?_) (fun f cdv A outer s H vs Q E hr h => ?_)
 ·obtain ⟨n, rfl, _⟩ := h
  rfl
 ·obtain ⟨n, rfl, n4, k⟩ := h
  refine ⟨_, (aB (aY (i := 1) S.nd rfl (Or.inl rfl) (cz (aa (cz ak) ak HF)))
   (aB (cJ PassesOwn.never rfl (cO rfl T.range_ (aa (pv 0) ak aj)) (aP (i := 2) S.nd rfl (Or.inr rfl))
    (aC (aY (i := 1) S.nd rfl (Or.inl rfl) (aX jj (pv 1) (bj rfl (N' := ["chosen", "place"]) (src := [none, some 2]) rfl (piL K (pv 1)) (fun _ _ _ _ _ => (aP (i := 0) (show (["chosen", "place"] : List Str).Nodup from by decide +kernel) rfl (Or.inl rfl))) (fun _ _ _ _ _ => bf) (fun _ _ _ _ _ => (aX jj (pv 0) (cz (aa (pv 1) ak aj)))))))))
   (aC (aM (pv 1))))), ?_⟩
  refine ⟨Nat.zero_le _, fun l0 hl0 => ?_⟩
  refine ⟨(by show 1 <= sizeLine; decide), fun l1 hl1 => ?_⟩
  have s1 := (ao (o := .lst []) hl0).trans (ao (o := .lst [.ref l0]) hl1)
  have e0 : Paired (OwnNats H (upd (upd H l0 (.lst [])) l1 (.lst [.ref l0]))) [.ref l0] (Gm.chM 0) := .cons ⟨l0, rfl, hl0, ao hl1 _ _ aq⟩ .nil
  have e1 : upd (upd H l0 (.lst [])) l1 (.lst [.ref l0]) l1 = some (.lst [.ref l0]) := aq
  have hn1 : H l1 = none := (ao (o := .lst []) hl0).free hl1
  generalize upd (upd H l0 (.lst [])) l1 (.lst [.ref l0]) = H1 at s1 e0 e1 ⊢
  refine ⟨_, rfl, _, rfl, by omega, by omega, jq (n := n) (fun i σ H' => ∃ l o xs, σ = [some (.int n), some (.ref l), o] /\ Same H H' /\ H l = none /\ H' l = some (.lst xs) /\ Paired (OwnNats H H') xs (Gm.chM i)) ⟨l1, _, _, rfl, s1, hn1, e1, e0⟩ ?_ ?_⟩
  ·rintro i σ H2 hi ⟨l, o, xs, rfl, s2, hln, hl, pr⟩
   have ei : (0 : Int) + (i : Int) = (i : Int) := by omega
   rw [ei]
   have xl : xs.length <= 16 := by rw [pr.length, jX]; exact km (by omega)
   refine ⟨_, rfl, _, rfl, l, rfl, ⟨_, SqL.of hl⟩, bw (xs := xs) (fun x y H' => ∀ c, OwnNats H H2 x c -> OwnNats H H' y (c ++ [i])) (fun _ _ _ _ s h c q => (h c q).mono s) (SqL.of hl) (Nat.le_of_lt (aO (by omega))) ?_ ?_⟩
   ·intro x hx H3 s3 Q' q
    obtain ⟨c, hc, hn⟩ := pr.mem2 hx
    obtain ⟨b, rfl, hbn, hb⟩ := id hn
    refine ⟨_, rfl, _, rfl, (by show 1 <= sizeLine; decide), fun q2 hq2 => ?_⟩
    have cl := Dd hc
    refine ⟨b, q2, _, _, rfl, rfl, ao hq2 _ _ (s3 _ _ hb), aq, (by rw [List.length_map, List.length_singleton]; exact Nat.le_of_lt (aO (by omega))), fun q3 hq3 => ?_⟩
    refine q _ _ ((ao hq2).trans (ao hq3)) fun c' h' => ?_
    rw [<- hn.nats.inj h'.nats]
    exact ⟨q3, rfl, ((s2.trans s3).trans (ao hq2)).free hq3, by rw [aq, List.map_append]; rfl⟩
   ·intro ys H3 s3 prc p hp
    have pn := xn (fun c => c ++ [i]) prc pr
    have s4 : Same H2 (upd H3 p (.lst ys)) := s3.trans (ao hp)
    have pn' := pn.imp2 fun _ _ z => z.mono (ao (o := .lst ys) hp)
    have ep : upd H3 p (.lst ys) p = some (.lst ys) := aq
    generalize upd H3 p (.lst ys) = H4 at s4 pn' ep ⊢
    refine ⟨l, p, xs, ys, rfl, rfl, s4 _ _ hl, ep, (by rw [pn'.length, List.length_map, <- pr.length]; exact Nat.le_of_lt (aO (by omega))), fun q hq => ?_⟩
    refine ⟨q, _, _, rfl, (s2.trans s4).trans (ao hq), (s2.trans s4).free hq, aq, ?_⟩
    exact ((pr.imp2 fun _ _ z => (z.mono s4).mono (ao hq))).app2 (pn'.imp2 fun _ _ z => z.mono (ao hq))
  ·rintro σ H2 ⟨l, o, xs, rfl, s2, hln, hl, pr⟩
   exact ⟨_, rfl, k l xs H2 s2 hln hl pr⟩
def iQ (qs : List (Int × Int)) (C : List Nat) (n : Nat) : List (Int × Int) := (qs.zip C).foldl (fun w x => w.set x.2 x.1) (List.replicate n (0, 1))
theorem lD (n : Nat) : ∀ (l : List ((Int × Int) × Nat)) (w : List (Int × Int)), (l.foldl (fun w x => w.set x.2 x.1) w).length = w.length
 | [], w => rfl
 | x :: l, w => by
  rw [List.foldl_cons, lD n l, List.length_set]
theorem Ft {α : Type} (w : List α) (c j : Nat) (x d : α) : (w.set c x).getD j d = if c = j /\ c < w.length then x else w.getD j d := by
 rw [List.getD_eq_getElem?_getD, List.getElem?_set, List.getD_eq_getElem?_getD]
 by_cases h : c = j
 ·subst h
  rw [if_pos rfl]
  by_cases q : c < w.length
  ·rw [if_pos q, if_pos ⟨rfl, q⟩]; rfl
  ·rw [if_neg q, if_neg fun z => q z.2, List.getElem?_eq_none (by omega)]
 ·rw [if_neg h, if_neg fun z => h z.1]
theorem t_ (S : Int) (hS : 0 < S) (j : Nat) : ∀ (C : List Nat) (sh : List Int) (w : List (Int × Int)), C.Nodup -> sh.length = C.length -> (∀ c ∈ C, c < w.length) ->
  (((mks sh S).zip C).foldl (fun w x => w.set x.2 x.1) w).getD j (0, 1) = if j ∈ C then Fr.mk (Gm.yOf C sh j) S else w.getD j (0, 1)
 | [], sh, w, _, _, _ => by
  have : sh = [] \/ sh ≠ [] := Classical.em _
  simp
 | c :: C, [], w, _, h, _ => by simp at h
 | c :: C, p :: ps, w, hn, hl, hlt => by
  have hn' := List.nodup_cons.mp hn
  show (((mks ps S).zip C).foldl (fun w x => w.set x.2 x.1) (w.set c (Fr.mk p S))).getD j (0, 1) = _
  rw [t_ S hS j C ps _ hn'.2 (by simpa using hl) (fun x hx => by rw [List.length_set]; exact hlt x (by simp [hx])), Gm.yOf_cons, Ft]
  by_cases h1 : j ∈ C
  ·have hne : j ≠ c := fun e => hn'.1 (by rw [<- e]; exact h1)
   rw [if_pos h1, if_pos (by simp [h1]), if_neg hne, Int.zero_add]
  ·rw [if_neg h1]
   by_cases h2 : j = c
   ·subst h2
    rw [if_pos ⟨rfl, hlt j (by simp)⟩, if_pos (by simp), if_pos rfl, Gm.yOf_out h1, Int.add_zero]
   ·rw [if_neg fun z => h2 z.1.symm, if_neg (by simp [h1, h2])]
def wsM (U : List (List Int)) (n : Nat) (R C : List Nat) : List Int := (List.range n).map (Gm.yOf C (Gm.shM U R C))
theorem mF (U : List (List Int)) (n : Nat) (R C : List Nat) : (wsM U n R C).length = n := by unfold wsM; rw [List.length_map, List.length_range]
theorem Ex {n : Nat} {C : List Nat} {sh : List Int} {S : Int} (hS : 0 < S) (hn : C.Nodup) (hl : sh.length = C.length) (hlt : ∀ c ∈ C, c < n) : iQ (mks sh S) C n = mks ((List.range n).map (Gm.yOf C sh)) S := by
 have l1 : (iQ (mks sh S) C n).length = n := by unfold iQ; rw [lD n, List.length_replicate]
 have l2 : (mks ((List.range n).map (Gm.yOf C sh)) S).length = n := by rw [fj, List.length_map, List.length_range]
 apply List.ext_getElem (by rw [l1, l2])
 intro j h1 h2
 rw [l1] at h1
 have e := t_ S hS j C sh (List.replicate n (0, 1)) hn hl (fun c hc => by rw [List.length_replicate]; exact hlt c hc)
 have e1 : (iQ (mks sh S) C n).getD j (0, 1) = (iQ (mks sh S) C n)[j]'(by rw [l1]; exact h1) := by
  rw [List.getD_eq_getElem?_getD, List.getElem?_eq_getElem (by rw [l1]; exact h1)]; rfl
 rw [<- e1]
 unfold iQ
 rw [e]
 have e3 : (mks ((List.range n).map (Gm.yOf C sh)) S)[j]'h2 = Fr.mk (Gm.yOf C sh j) S := by simp [mks]
 rw [e3]
 by_cases h : j ∈ C
 ·rw [if_pos h]
 ·rw [if_neg h, Gm.yOf_out h, Fr.mk_zero hS]
  rw [List.getD_eq_getElem?_getD, List.getElem?_replicate, if_pos h1]
  rfl
theorem m_ {α : Type} (x : α) : ∀ n, (List.replicate n [x]).flatten = List.replicate n x
 | 0 => rfl
 | n + 1 => by
  rw [List.replicate_succ, List.flatten_cons, m_ x n, List.replicate_succ]; rfl
theorem uf {α β : Type} {F : α -> β -> Prop} {x : α} {y : β} (h : F x y) : ∀ n, Paired F (List.replicate n x) (List.replicate n y)
 | 0 => .nil
 | n + 1 => .cons h (uf h n)
def vX : Sp := fun vs H Q _ => ∃ (a b : Addr) (qs : List (Int × Int)) (C : List Nat) (n : Nat), vs = [.ref a, .ref b, .int n] /\ IsFrs H a qs /\ IsNats H (.ref b) C /\ qs.length = C.length /\ (∀ c ∈ C, c < n) /\ n <= 4 /\ ∀ p H', Same H H' -> H p = none -> IsFrs H' p (iQ qs C n) -> Q (.ref p) H'
abbrev rz : Stmt := top 17
theorem Er : FnScope ["shares", "places", "count", "mixture", "share", "place"] ["shares", "places", "count"] (aH rz) := ⟨rfl, rfl, rfl, by decide +kernel, rfl, by decide +kernel, by decide +kernel⟩
theorem En (F : FunM K mg "spread" rz ["shares", "places", "count"]) (T : Blt mg) : Def P w K mg base "spread" ["shares", "places", "count"] 1 vX := by
 have S := Er
 refine Def.of F S (fun vs H Q E h => ?_) (fun f cdv A outer s H vs Q E hr h => ?_)
 ·obtain ⟨a, b, qs, C, n, rfl, _⟩ := h
  rfl
 ·obtain ⟨a, b, qs, C, n, rfl, hA, hB, hl, hlt, n4, k⟩ := h
  obtain ⟨xs, ha, pa⟩ := id hA
  obtain ⟨b', eb, hb⟩ := id hB
  cases eb
  refine ⟨_, (aB (aY (i := 3) S.nd rfl (Or.inl rfl) (aX yO (cz (aa (bH (aa aA (aa aA ak aG) aG)) ak cj)) (pv 2)))
   (aB (cJ PassesOwn.never rfl (pY K rfl T.zip_ (aa (pv 0) (aa (pv 1) ak aj) aj)) (pgT K (n := 2) (bC (aP (i := 4) S.nd rfl (Or.inl rfl)) (bC (aP (i := 5) S.nd rfl (Or.inl rfl)) dY)))
    (aC (tX (pv 4) (zB (pv 3) (pv 5) set_list))))
   (aC (aM (pv 3))))), ?_⟩
  refine ⟨(by show 2 <= sizeLine; decide), fun t ht => ⟨(by show 1 <= sizeLine; decide), fun l hl' => ?_⟩⟩
  refine ⟨_, rfl, l, (n : Int), _, rfl, rfl, aq, by omega, by omega, (by rw [List.length_singleton, Int.toNat_natCast]; exact Nat.le_of_lt (aO (by omega))), fun p hp => ?_⟩
  rw [Int.toNat_natCast, m_]
  have s1 := (ao (o := .tup [.int 0, .int 1]) ht).trans (ao (o := .lst [.ref t]) hl')
  have hpn : H p = none := s1.free hp
  have ft : IsFr (upd (upd H t (.tup [.int 0, .int 1])) l (.lst [.ref t])) (.ref t) (0, 1) := ⟨t, rfl, ao hl' _ _ aq⟩
  generalize upd (upd H t (.tup [.int 0, .int 1])) l (.lst [.ref t]) = H1 at s1 ft hp ⊢
  have s2 := s1.trans (ao (o := .lst (List.replicate n (.ref t))) hp)
  have ft2 := ft.mono (ao (o := .lst (List.replicate n (.ref t))) hp)
  have ep : upd H1 p (.lst (List.replicate n (.ref t))) p = some (.lst (List.replicate n (.ref t))) := aq
  generalize upd H1 p (.lst (List.replicate n (.ref t))) = H2 at s2 ft2 ep ⊢
  refine ⟨_, rfl, _, rfl, a, b, rfl, ⟨_, SqL.of (s2 _ _ ha)⟩, ⟨_, SqL.of (s2 _ _ hb)⟩, uK (K := K) (a := a) (b := b) (xs := xs) (ys := C.map fun (i : Nat) => V.int i) (fun i σ H' => ∃ o4 o5 zs, σ = [some (.ref a), some (.ref b), some (.int n), some (.ref p), o4, o5] /\ Same H H' /\ H' p = some (.lst zs) /\ Paired (IsFr H') zs (((qs.zip C).take i).foldl (fun w x => w.set x.2 x.1) (List.replicate n (0, 1))))
    ⟨_, _, _, rfl, s2, ep, by rw [List.take_zero]; exact uf ft2 n⟩ ?_ ?_ ?_⟩
  ·rintro i σ H' ⟨_, _, _, _, s3, _⟩
   exact ⟨SqL.of (s3 _ _ ha), SqL.of (s3 _ _ hb)⟩
  ·rintro i x y q σ H' hx hy hq ⟨o4, o5, zs, rfl, s3, hz, pz⟩
   obtain ⟨f1, e1, c1, rfl, h1⟩ := pa.get2 hx
   rw [List.getElem?_map] at hy
   obtain ⟨c, ec, rfl⟩ : ∃ c, C[i]? = some c /\ y = V.int (c : Nat) := by
    cases e : C[i]? with
    | none => rw [e] at hy; cases hy
    | some z => rw [e] at hy; exact ⟨z, rfl, by cases hy; rfl⟩
   have ez : (qs.zip C)[i]? = some (f1, c) := List.getElem?_zip_eq_some.mpr ⟨e1, ec⟩
   have hc := hlt c (List.mem_of_getElem? ec)
   have zl : zs.length = n := by rw [pz.length, lD n, List.length_replicate]
   have sq := ao (o := .tup [.ref c1, .int (c : Nat)]) hq
   refine ⟨q, _, rfl, SqT.of aq, rfl, _, _, rfl, _, _, rfl, rfl, ?_⟩
   refine ⟨_, rfl, _, rfl, _, rfl, p, zs, (c : Int), c, rfl, rfl, sq _ _ hz, ?_, ?_⟩
   ·unfold ixN
    rw [if_pos (by omega), if_pos (by omega), Int.toNat_natCast]
   ·refine ⟨_, _, _, rfl, cM (s3.trans sq) hpn, aq, ?_⟩
    rw [List.take_add_one, ez, List.foldl_append]
    refine Paired.set2 ?_ c (pz.imp2 fun _ _ z => (z.mono sq).at (sq _ _ hz))
    exact IsFr.at (sq _ _ hz) ⟨c1, rfl, sq _ _ (s3 _ _ h1)⟩
  ·rintro σ H' ⟨o4, o5, zs, rfl, s3, hz, pz⟩
   have l1 : (qs.zip C).take (min xs.length (C.map fun (i : Nat) => V.int i).length) = qs.zip C := List.take_of_length_le (by rw [List.length_zip, pa.length, List.length_map]; exact Nat.le_refl _)
   rw [l1] at pz
   exact ⟨_, rfl, k p H' s3 hpn ⟨zs, hz, pz⟩⟩
theorem DG (l : List Nat) : (l.map fun (i : Nat) => V.int i) = (l.map fun (i : Nat) => (i : Int)).map V.int := by rw [List.map_map]; rfl
theorem Dr {l : List Nat} {t : Nat} (h : t < l.length) : atI (l.map fun (i : Nat) => V.int i) (t : Int) = some (.int (l.getD t 0 : Nat)) := by
 have e : (l.map fun (i : Nat) => V.int i)[t]? = some (V.int (l.getD t 0 : Nat)) := by
  rw [List.getElem?_map, List.getElem?_eq_getElem h, List.getD_eq_getElem?_getD, List.getElem?_eq_getElem h]; rfl
 exact gP e
theorem mK {U : List (List Int)} {m n : Nat} {R C : List Nat} (g : Gd U m n) (g2 : Gm.Good2 m n R C) : Sqr (Gm.eqsM U R C) C.length := by
 unfold Gm.eqsM
 have l := g2.len
 have p := g2.pos
 refine ⟨by rw [List.length_cons, List.length_map, List.length_drop]; omega, fun r hr => ?_, fun r hr x hx => ?_⟩
 ·rcases List.mem_cons.mp hr with rfl | hr
  ·rw [List.length_replicate]
  ·obtain ⟨i, _, rfl⟩ := List.mem_map.mp hr
   rw [List.length_map]
 ·rcases List.mem_cons.mp hr with rfl | hr
  ·rw [(List.mem_replicate.mp hx).2]
   show (1 : Int).natAbs < 2 ^ 9
   decide
  ·obtain ⟨i, hi, rfl⟩ := List.mem_map.mp hr
   obtain ⟨j, hj, rfl⟩ := List.mem_map.mp hx
   have b : ∀ i j, i < m -> j < n -> -200 <= Gm.cell U i j /\ Gm.cell U i j <= 200 := fun i j hi hj => by
    have h1 := g.row hi
    refine g.num _ h1.1 _ ?_
    show (U.getD i []).getD j 0 ∈ U.getD i []
    rw [List.getD_eq_getElem?_getD (l := U.getD i []), List.getElem?_eq_getElem (by rw [h1.2]; exact hj)]
    exact List.getElem_mem _
   have hi' := List.mem_range.mp (g2.rs.subset (List.mem_of_mem_drop hi))
   have b1 := b i j hi' (g2.lt j hj)
   have b2 := b (R.headD 0) j g2.r0m (g2.lt j hj)
   show (Gm.cell U i j - Gm.cell U (R.headD 0) j).natAbs < 512
   omega
theorem Jz (U : List (List Int)) (R C : List Nat) : qJ (Gm.eqsM U R C) C.length (Gm.numsM C.length) = mks (Gm.shM U R C) (Gm.smM U R C) := by
 unfold qJ Gm.shM Gm.smM Gm.partsM
 rw [List.map_map]
 rfl
def yo : Sp := fun vs H Q _ => ∃ (a b c : Addr) (U : List (List Int)) (m n : Nat) (R C : List Nat), vs = [.ref a, .ref b, .ref c] /\ IsTab H a U /\ Gd U m n /\ IsNats H (.ref b) R /\ IsNats H (.ref c) C /\ Gm.Good2 m n R C /\
 (Gm.wholeM U R C = 0 -> ∀ H', Same H H' -> Q .non H') /\ (Gm.wholeM U R C ≠ 0 -> ∀ p H', Same H H' -> H p = none -> IsFrs H' p (mks (Gm.shM U R C) (Gm.smM U R C)) -> Q (.ref p) H')
abbrev u_ : Stmt := top 18
theorem FP : FnScope ["table", "rows", "columns", "first", "equations", "row"] ["table", "rows", "columns"] (aH u_) := ⟨rfl, rfl, rfl, by decide +kernel, rfl, by decide +kernel, by decide +kernel⟩
theorem Fx (F : FunM K mg "level" u_ ["table", "rows", "columns"]) (T : Blt mg) (nJ : Def P w K mg base "solution" ["square", "numbers"] 6 qy) : Def P w K mg base "level" ["table", "rows", "columns"] 7 yo := by
 have S := FP
 refine Def.of F S (fun vs H Q E h => ?_) (fun f cdv A outer s H vs Q E hr h => ?_)
 ·obtain ⟨a, b, c, U, m, n, R, C, rfl, _⟩ := h
  rfl
 ·obtain ⟨a, b, c, U, m, n, R, C, rfl, hU, g, hB, hC, g2, kn, ks⟩ := h
  obtain ⟨b', eb, hb⟩ := id hB
  cases eb
  obtain ⟨c', ec, hc⟩ := id hC
  cases ec
  have c4 := g2.c4 g.n4
  have cp := g2.pos
  have rl := g2.len
  have r0 : R.getD 0 0 = R.headD 0 := by cases R <;> rfl
  have h0m := g2.r0m
  obtain ⟨vs, f0, ha, h0, at0, hf0⟩ := hU.row (i := R.headD 0) (by rw [g.rows]; exact h0m)
  have rt : atI (R.map fun (i : Nat) => V.int i) (0 : Int) = some (.int (R.headD 0 : Nat)) := by
   have := Dr (l := R) (t := 0) (by omega)
   rw [r0] at this
   exact this
  refine ⟨_, (aB (aY (i := 3) S.nd rfl (Or.inr rfl) (aQ (ixL K) (pv 0) (aQ (ixL K) (pv 1) aA (fun _ _ => rfl)) (fun _ _ => rfl)))
   (aB (aY (i := 4) S.nd rfl (Or.inl rfl) (cz (aa (aX yO (cz (aa aA ak aG)) (aK (bU K) (by rfl) T.len_ bx (aa (pv 2) ak aj) (he := aj))) ak bz)))
   (aB (cJ PassesOwn.never rfl (piL K (eV (slL K) (pv 1) (fY aA) gh)) (aP (i := 5) S.nd rfl (Or.inr rfl))
    (aC (cN (ik PySem.F.plainAttrs_list PySem.F.slot_list_append PySem.F.type_list_append dh (pv 4) (aa (bj rfl (N' := ["column", "table", "row", "first"]) (src := [none, some 0, some 5, some 3]) rfl (piL K (pv 2)) (fun _ _ _ _ _ => (aP (i := 0) (show (["column", "table", "row", "first"] : List Str).Nodup from by decide +kernel) rfl (Or.inl rfl))) (fun _ _ _ _ _ => bf) (fun _ _ _ _ _ => (aX mD (aQ (ixL K) (aQ (ixL K) (pv 1) (pv 2) (fun _ _ => rfl)) (pv 0) (fun _ _ => rfl)) (aQ (ixL K) (pv 3) (pv 0) (fun _ _ => rfl))))) ak aU)))))
   (aC (aM (aD nJ (hr.mono (by decide)) rfl (aa (pv 4) (aa (aX jj (cz (aa aA ak aG)) (aX yO (cz (aa aA ak aG)) (aX mD (aK (bU K) (by rfl) T.len_ bx (aa (pv 1) ak aj) (he := aj)) aA))) ak bz) aj) (he := aj))))))), ?_⟩
  refine ⟨_, rfl, _, rfl, b, _, 0, _, rfl, rfl, SqL.of hb, rt, a, vs, _, _, rfl, rfl, SqL.of ha, at0, ?_⟩
  refine ⟨(by show 1 <= sizeLine; decide), fun l0 hl0 => ?_⟩
  have s0 : Same H (upd H l0 (.lst [.int 1])) := ao hl0
  refine ⟨_, rfl, c, _, rfl, .inl (SqL.of (s0 _ _ hc)), l0, _, _, rfl, rfl, aq, by omega, by rw [List.length_map]; omega, (by rw [List.length_singleton, List.length_map]; exact Nat.le_of_lt (aO (by omega))), fun l1 hl1 => ?_⟩
  have e1 : (List.replicate ((C.map fun (i : Nat) => V.int i).length : Int).toNat [V.int 1]).flatten = (List.replicate C.length (1 : Int)).map V.int := by
   rw [Int.toNat_natCast, m_, List.length_map, List.map_replicate]
  rw [e1]
  have s1 := s0.trans (ao (o := .lst ((List.replicate C.length (1 : Int)).map V.int)) hl1)
  have l1n : H l1 = none := s0.free hl1
  have q1 : upd (upd H l0 (.lst [.int 1])) l1 (.lst ((List.replicate C.length (1 : Int)).map V.int)) l1 = some (.lst ((List.replicate C.length (1 : Int)).map V.int)) := aq
  generalize upd (upd H l0 (.lst [.int 1])) l1 (.lst ((List.replicate C.length (1 : Int)).map V.int)) = H1 at s1 q1 ⊢
  refine ⟨(by show 1 <= sizeLine; decide), fun e he => ?_⟩
  have he1 : H1 e = none := he
  have hen : H e = none := s1.free he
  have n1e : l1 ≠ e := aV q1 he
  have s2 := s1.trans (ao (o := .lst [.ref l1]) he)
  have q2 : upd H1 e (.lst [.ref l1]) e = some (.lst [.ref l1]) := aq
  have q1' := ao (o := .lst [.ref l1]) he _ _ q1
  generalize upd H1 e (.lst [.ref l1]) = H2 at s2 q2 q1' ⊢
  refine ⟨_, rfl, _, rfl, b, _, rfl, SqL.of (s2 _ _ hb), fun q hq => ?_⟩
  have ed : cP (R.map fun (i : Nat) => V.int i) (some 1) none = (R.drop 1).map fun (i : Nat) => V.int i := by
   rw [iy (k := 1) (by decide) (by rw [List.length_map]; omega)]
   exact List.map_drop.symm
  rw [ed]
  have s3 := s2.trans (ao (o := .lst ((R.drop 1).map fun (i : Nat) => V.int i)) hq)
  have q3 := ao (o := .lst ((R.drop 1).map fun (i : Nat) => V.int i)) hq _ _ q2
  have q1'' := ao (o := .lst ((R.drop 1).map fun (i : Nat) => V.int i)) hq _ _ q1'
  have qq : upd H2 q (.lst ((R.drop 1).map fun (i : Nat) => V.int i)) q = some (.lst ((R.drop 1).map fun (i : Nat) => V.int i)) := aq
  have nqe : q ≠ e := fun z => by rw [z, q2] at hq; cases hq
  generalize upd H2 q (.lst ((R.drop 1).map fun (i : Nat) => V.int i)) = H3 at s3 q3 q1'' qq ⊢
  refine ⟨q, rfl, ⟨_, SqL.of qq⟩, dO (K := K) (a := q) (xs := (R.drop 1).map fun (i : Nat) => V.int i) (fun i σ H' => ∃ o5 zs, σ = [some (.ref a), some (.ref b), some (.ref c), some (.ref f0), some (.ref e), o5] /\ Same H H' /\ SameX e H3 H' /\ H' e = some (.lst zs) /\ Paired (RowX H e H') zs ((Gm.eqsM U R C).take (i + 1)))
   ⟨_, _, rfl, s3, SameX.refl, q3, .cons ⟨l1, rfl, n1e, l1n, q1''⟩ .nil⟩ ?_ ?_ ?_⟩
  ·rintro i σ H4 _ ⟨_, _, _, _, sx, _⟩
   exact SqL.of (sx _ _ nqe qq)
  ·rintro i y σ H4 hi ⟨o5, zs, rfl, s4, sx, hz, pz⟩
   rw [List.getElem?_map] at hi
   obtain ⟨ρ, eρ, rfl⟩ : ∃ ρ, (R.drop 1)[i]? = some ρ /\ y = V.int (ρ : Nat) := by
    cases e : (R.drop 1)[i]? with
    | none => rw [e] at hi; cases hi
    | some z => rw [e] at hi; exact ⟨z, rfl, by cases hi; rfl⟩
   have hρ : ρ < m := List.mem_range.mp (g2.rs.subset (List.mem_of_mem_drop (List.mem_of_getElem? eρ)))
   have hc4 := s4 _ _ hc
   rw [DG] at hc4
   refine ⟨_, rfl, .inl ⟨rfl, _, SqL.of hz⟩, _, rfl, c, rfl, ⟨_, SqL.of hc4⟩, wA (fun x => Gm.cell U ρ x.toNat - Gm.cell U (R.headD 0) x.toNat) (SqL.of hc4) (by rw [List.length_map]; omega) ?_ ?_⟩
   ·intro x hx H5 s5 Q' q'
    obtain ⟨j, hj, rfl⟩ := List.mem_map.mp hx
    have hjn := g2.lt j hj
    have s45 := s4.trans s5
    obtain ⟨vs5, b5, ha5, h5, at5, hb5⟩ := (hU.mono s45).row (i := ρ) (by rw [g.rows]; exact hρ)
    refine ⟨_, rfl, _, rfl, a, _, _, _, rfl, rfl, SqL.of ha5, at5, _, rfl, b5, _, _, _, rfl, rfl, SqL.of hb5, iV (by rw [(g.row hρ).2]; exact hjn), ?_⟩
    refine ⟨_, rfl, _, rfl, f0, _, _, _, rfl, rfl, SqL.of (s45 _ _ hf0), iV (by rw [(g.row h0m).2]; exact hjn), _, _, rfl, rfl, ?_⟩
    have := q' H5 (Same.refl _)
    rw [Int.toNat_natCast] at this
    exact this
   ·intro H5 s5 p hp
    have hz5 := s5 _ _ hz
    have npe : p ≠ e := fun z => by rw [z, hz5] at hp; cases hp
    have zl : zs.length <= 4 := by
     have er : (Gm.eqsM U R C).length = C.length := (mK g g2).rows
     rw [pz.length, List.length_take, er]
     omega
    refine ⟨e, zs, .ref p, rfl, rfl, ao hp _ _ hz5, aO (by omega), ?_⟩
    refine ⟨_, _, rfl, cM ((s4.trans s5).trans (ao hp)) hen, ((sx.then s5).then (ao hp)).at, aq, ?_⟩
    have et : (Gm.eqsM U R C)[i + 1]? = some (C.map fun j => Gm.cell U ρ j - Gm.cell U (R.headD 0) j) := by
     unfold Gm.eqsM
     rw [List.getElem?_cons_succ, List.getElem?_map, eρ]
     rfl
    rw [List.take_add_one, et]
    refine (pz.imp2 fun _ _ z => ((z.mono s5).mono (ao hp)).at).app2 (.cons ⟨p, rfl, npe, (s4.trans s5).free hp, ?_⟩ .nil)
    rw [aJ npe, aq]
    have el : (C.map fun (i : Nat) => (i : Int)).map (fun x => Gm.cell U ρ x.toNat - Gm.cell U (R.headD 0) x.toNat) = C.map fun j => Gm.cell U ρ j - Gm.cell U (R.headD 0) j := by
     rw [List.map_map]
     exact List.map_congr_left fun j _ => by simp only [Function.comp, Int.toNat_natCast]
    rw [el]
  ·rintro σ H4 ⟨o5, zs, rfl, s4, sx, hz, pz⟩
   have er : (Gm.eqsM U R C).length = C.length := (mK g g2).rows
   rw [List.length_map, List.length_drop, List.take_of_length_le (by rw [er]; omega)] at pz
   have hE : IsTab H4 e (Gm.eqsM U R C) := ⟨zs, hz, pz.imp2 fun _ _ z => z.own.row⟩
   refine ⟨_, rfl, (by show 1 <= sizeLine; decide), fun k1 hk1 => ?_⟩
   refine ⟨(by show 1 <= sizeLine; decide), fun k2 hk2 => ?_⟩
   have t1 := ao (o := .lst [.int 1]) hk1
   have t2 := ao (o := .lst [.int 0]) hk2
   refine ⟨_, rfl, b, _, rfl, .inl (SqL.of (t2 _ _ (t1 _ _ (s4 _ _ hb)))), _, _, rfl, rfl, k2, _, _, rfl, rfl, aq, by omega, by rw [List.length_map]; omega, ?_, fun k3 hk3 => ?_⟩
   ·rw [List.length_singleton, List.length_map]
    exact Nat.le_of_lt (aO (by omega))
   have e2 : (List.replicate (((R.map fun (i : Nat) => V.int i).length : Int) - 1).toNat [V.int 0]).flatten = (List.replicate (C.length - 1) (0 : Int)).map V.int := by
    rw [m_, List.length_map, List.map_replicate, show ((R.length : Int) - 1).toNat = C.length - 1 by omega]
   rw [e2]
   have t3 := ao (o := .lst ((List.replicate (C.length - 1) (0 : Int)).map V.int)) hk3
   have w1 := t3 _ _ (t2 _ _ (aq (H := H4) (a := k1) (o := .lst [.int 1])))
   refine ⟨k1, k3, _, _, rfl, rfl, w1, aq, ?_, fun k4 hk4 => ?_⟩
   ·rw [List.length_singleton, List.length_map, List.length_replicate]
    exact Nat.le_of_lt (aO (by omega))
   have e3 : [V.int 1] ++ (List.replicate (C.length - 1) (0 : Int)).map V.int = (Gm.numsM C.length).map V.int := rfl
   rw [e3]
   have t4 := (t1.trans t2).trans (t3.trans (ao (o := .lst ((Gm.numsM C.length).map V.int)) hk4))
   have sT := s4.trans t4
   refine ⟨e, k4, Gm.eqsM U R C, C.length, Gm.numsM C.length, rfl, hE.mono t4, mK g g2, c4, aq, ?_, ?_, fun hz' H5 s5 => kn hz' H5 (sT.trans s5), fun hz' p H5 s5 hpn hf => ks hz' p H5 (sT.trans s5) (sT.free hpn) (by rw [<- Jz]; exact hf)⟩
   ·unfold Gm.numsM
    rw [List.length_cons, List.length_replicate]; omega
   ·intro x hx
    unfold Gm.numsM at hx
    rcases List.mem_cons.mp hx with rfl | hx
    ·show (1 : Int).natAbs < 2 ^ 9
     decide
    ·rw [(List.mem_replicate.mp hx).2]
     show (0 : Int).natAbs < 2 ^ 9
     decide
abbrev du := List (Int × Int) × (Int × Int)
def bW (U : List (List Int)) (n : Nat) (R C : List Nat) : du := (mks (wsM U n R C) (Gm.smM U R C), Fr.mk (Gm.gain U n (Gm.yOf C (Gm.shM U R C)) (R.headD 0)) (Gm.smM U R C))
def IsCor (l : Addr) (H : Hp) (v : V) (q : du) : Prop := ∃ t k u, v = .ref t /\ H t = some (.tup [.ref k, .ref u]) /\ k ≠ l /\ IsFrs H k q.1 /\ H u = some (.tup [.int q.2.1, .int q.2.2])
theorem IsCor.mono {l : Addr} {H H' : Hp} {v : V} {q : du} (s : Same H H') (h : IsCor l H v q) : IsCor l H' v q := let ⟨t, k, u, e, a, b, c, d⟩ := h; ⟨t, k, u, e, s _ _ a, b, c.mono s, s _ _ d⟩
theorem IsCor.at {l : Addr} {H : Hp} {v : V} {q : du} {xs : List V} {o : HO} (hl : H l = some (.lst xs)) (h : IsCor l H v q) : IsCor l (upd H l o) v q := by
 obtain ⟨t, k, u, e, a, b, ⟨vs, c1, c2⟩, d⟩ := h
 exact ⟨t, k, u, e, by rw [aJ (fB a hl (by intro z; cases z))]; exact a, b, ⟨vs, by rw [aJ b]; exact c1, c2.imp2 fun _ _ z => z.at hl⟩, by rw [aJ (fB d hl (by intro z; cases z))]; exact d⟩
theorem Dz : ∀ (n : Nat) (r : List Int) (y : Nat -> Int), r.length = n -> Fr.dot r ((List.range n).map y) = Gm.sm n fun j => r.getD j 0 * y j := by
 have go : ∀ (n : Nat) (r : List Int) (y : Nat -> Int), r.length = n -> Fr.dot r ((List.range n).map y) = Gm.sm n fun j => r.getD j 0 * y j := by
  intro n
  induction n with
  | zero =>
   intro r y h
   have := List.eq_nil_of_length_eq_zero h
   subst this
   rfl
  | succ n ih =>
   intro r y h
   have hne : r ≠ [] := fun e => by rw [e] at h; simp at h
   have e : r = r.dropLast ++ [r.getLast hne] := (List.dropLast_concat_getLast hne).symm
   have dl : r.dropLast.length = n := by rw [List.length_dropLast]; omega
   rw [List.range_succ, List.map_append]
   show Fr.dot r ((List.range n).map y ++ [y n]) = Gm.sm n (fun j => r.getD j 0 * y j) + r.getD n 0 * y n
   have e2 : Gm.sm n (fun j => r.getD j 0 * y j) = Gm.sm n fun j => r.dropLast.getD j 0 * y j := Gm.sm_congr fun j hj => by
    congr 1
    conv => lhs; rw [e]
    rw [List.getD_eq_getElem?_getD, List.getElem?_append_left (by omega), List.getD_eq_getElem?_getD]
   have e3 : r.getD n 0 = r.getLast hne := by
    conv => lhs; rw [e]
    rw [List.getD_eq_getElem?_getD, List.getElem?_append_right (by omega), dl]
    simp
   rw [e2, e3, <- ih r.dropLast y dl]
   conv => lhs; rw [e]
   exact Fr.dot_snoc _ _ _ _ (by rw [dl, List.length_map, List.length_range])
 exact go
theorem gJ {U : List (List Int)} {m n : Nat} (g : Gd U m n) {i : Nat} (hi : i < m) (y : Nat -> Int) : Fr.dot (U.getD i []) ((List.range n).map y) = Gm.gain U n y i := Dz n _ y (g.row hi).2
theorem rF {a c S : Int} (h : 0 < S) : decide ((Fr.mk a S).1 * (Fr.mk c S).2 < (Fr.mk c S).1 * (Fr.mk a S).2) = decide (a < c) := by
 rw [Fr.mk_lt h h]
 exact decide_eq_decide.mpr ⟨fun q => Int.lt_of_mul_lt_mul_right q (by omega), fun q => Int.mul_lt_mul_of_pos_right q h⟩
theorem zp {U : List (List Int)} {m n : Nat} {R C : List Nat} (g : Gd U m n) (g2 : Gm.Good2 m n R C) : Sz 60 (Gm.smM U R C) := by
 have c4 := g2.c4 g.n4
 have zs : Sz 1 (Gm.sgn (Gm.wholeM U R C)) := by unfold Gm.sgn Sz; split <;> decide
 exact (zs.mul (kO C.length _ c4 (mK g g2))).mono (by omega)
theorem Ey : ∀ {l : List Int}, (∀ x ∈ l, 0 <= x) -> ∀ x ∈ l, x <= l.sum
 | [], _, x, h => nomatch h
 | y :: l, h, x, hx => by
  have h1 := h y (by simp)
  have h2 : 0 <= l.sum := by
   exact le_sum_nn (l := l) fun z hz => h z (List.mem_cons_of_mem _ hz)
  rw [List.sum_cons]
  rcases List.mem_cons.mp hx with rfl | hx
  ·omega
  ·have := Ey (fun z hz => h z (by simp [hz])) x hx
   omega
where le_sum_nn : ∀ {l : List Int}, (∀ x ∈ l, 0 <= x) -> 0 <= l.sum
 | [], _ => by simp
 | y :: l, h => by
  have h1 := h y (by simp)
  have h2 := le_sum_nn fun z hz => h z (List.mem_cons_of_mem _ hz)
  rw [List.sum_cons]
  omega
theorem Es (y : Nat -> Int) : ∀ n, ((List.range n).map y).sum = Gm.sm n y
 | 0 => rfl
 | n + 1 => by
  rw [List.range_succ, List.map_append, List.sum_append, Es y n]
  show _ = Gm.sm n y + y n
  simp
theorem j6 {U : List (List Int)} {m n : Nat} {R C : List Nat} (g : Gd U m n) (g2 : Gm.Good2 m n R C) (hw : Gm.wholeM U R C ≠ 0) (hp : ∀ q ∈ Gm.shM U R C, 0 < q) :
  (∀ x ∈ wsM U n R C, 0 <= x) /\ (wsM U n R C).sum = Gm.smM U R C /\ GQ (mks (wsM U n R C) (Gm.smM U R C)) := by
 have hS := Gm.sgn_pos hw
 have h1 : ∀ x ∈ wsM U n R C, 0 <= x := fun x hx => by
  unfold wsM at hx
  obtain ⟨j, _, rfl⟩ := List.mem_map.mp hx
  exact Gm.yOf_nn fun q hq => Int.le_of_lt (hp q hq)
 have h2 : (wsM U n R C).sum = Gm.smM U R C := by
  unfold wsM
  rw [Es, Gm.yOf_sum g2.lt (Gm.shM_len U R C), Gm.shM_sum U g2 g.n4]
 have zb := zp g g2
 have n4 := g.n4
 refine ⟨h1, h2, Ei hS (fun x hx => ?_) zb (by rw [mF]; omega)⟩
 have a1 := h1 x hx
 have a2 := Ey h1 x hx
 rw [h2] at a2
 unfold Sz at zb ⊢
 exact Nat.lt_of_le_of_lt (by omega) zb
def vU : Sp := fun vs H Q _ => ∃ (a b c : Addr) (U : List (List Int)) (m n : Nat) (R C : List Nat), vs = [.ref a, .ref b, .ref c] /\ IsTab H a U /\ Gd U m n /\ IsNats H (.ref b) R /\ IsNats H (.ref c) C /\ Gm.Good2 m n R C /\
 (¬ Gm.Corner U m n R C -> ∀ H', Same H H' -> Q .non H') /\ (Gm.Corner U m n R C -> ∀ p H', Same H H' -> (∀ l, H l ≠ none -> IsCor l H' (.ref p) (bW U n R C)) -> Q (.ref p) H')
theorem wC {H : Hp} (f : Int × Int -> Bool) : ∀ {vs ys : List V} {qs : List (Int × Int)}, Paired (fun x y => ∀ q, IsFr H x q -> y = V.bl (f q)) vs ys -> Paired (IsFr H) vs qs -> ys = (qs.map f).map V.bl := fU f
theorem rZ {x S : Int} (h : 0 < S) : 0 < (Fr.mk x S).1 ↔ 0 < x := by
 have h1 := Fr.mk_ratio (a := x) h
 have h2 := Fr.mk_pos (a := x) h
 constructor
 ·intro q
  have := Int.mul_pos q h
  rw [h1] at this
  exact Classical.byContradiction fun c => by
   have := Int.mul_nonpos_of_nonpos_of_nonneg (show x <= 0 by omega) (Int.le_of_lt h2)
   omega
 ·intro q
  have := Int.mul_pos q h2
  rw [<- h1] at this
  exact Classical.byContradiction fun c => by
   have := Int.mul_nonpos_of_nonpos_of_nonneg (show (Fr.mk x S).1 <= 0 by omega) (Int.le_of_lt h)
   omega
theorem sz0 : Sz 1000 0 := by unfold Sz; exact Nat.pow_pos (by decide)
abbrev qL : Stmt := top 19
theorem CW : FnScope ["table", "rows", "columns", "shares", "mixture", "gains", "number"] ["table", "rows", "columns"] (aH qL) := ⟨rfl, rfl, rfl, by decide +kernel, rfl, by decide +kernel, by decide +kernel⟩
theorem Dm (F : FunM K mg "corner" qL ["table", "rows", "columns"]) (T : Blt mg) (vm : Def P w K mg base "level" ["table", "rows", "columns"] 7 yo) (b_ : Def P w K mg base "below" ["one", "other"] 1 (dm K)) (rH : Def P w K mg base "spread" ["shares", "places", "count"] 1 vX) (cG : Def P w K mg base "all_get" ["rows", "mixture"] 6 ji) : Def P w K mg base "corner" ["table", "rows", "columns"] 8 vU := by
 have S := CW
 refine Def.of F S (fun vs H Q E h => ?_) (fun f cdv A outer s H vs Q E hr h => ?_)
 ·obtain ⟨a, b, c, U, m, n, R, C, rfl, _⟩ := h
  rfl
 ·obtain ⟨a, b, c, U, m, n, R, C, rfl, hU, g, hB, hC, g2, kn, ks⟩ := h
  have m4 := g.m4
  have n4 := g.n4
  have c4 := g2.c4 g.n4
  refine ⟨_, (aB (aY (i := 3) S.nd rfl (Or.inl rfl) (aD vm (hr.mono (by decide)) rfl (aa (pv 0) (aa (pv 1) (aa (pv 2) ak aj) aj) aj) (he := aj)))
   (aB (bu (PW.pt (cR (bh Jh (pv 3) pG (a_ _)) (cH (bJ (bA (aK (pN K) (by rfl) T.all_ jt (aa (bj rfl (N' := ["share"]) (src := [none]) rfl (piL K (pv 3)) (fun _ _ _ _ _ => (aP (i := 0) (show (["share"] : List Str).Nodup from by decide +kernel) rfl (Or.inl rfl))) (fun _ _ _ _ _ => bf) (fun _ _ _ _ _ => (aD b_ (hr.mono (by decide)) rfl (aa (bH (aa aA (aa aA ak aG) aG)) (aa (pv 0) ak aj) cj) (he := cj)))) ak aU) (he := aU)))))))
    (aC (aM pG)) aZ)
   (aB (aY (i := 4) S.nd rfl (Or.inl rfl) (aD rH (hr.mono (by decide)) rfl (aa (pv 3) (aa (pv 2) (aa (aK (bU K) (by rfl) T.len_ bx (aa (aQ (ixL K) (pv 0) aA (fun _ _ => rfl)) ak aF) (he := aF)) ak aN) aj) aj) (he := aj)))
   (aB (aY (i := 5) S.nd rfl (Or.inl rfl) (aD cG (hr.mono (by decide)) rfl (aa (pv 0) (aa (pv 4) ak aj) aj) (he := aj)))
   (aB (aY (i := 6) S.nd rfl (Or.inr rfl) (aQ (ixL K) (pv 5) (aQ (ixL K) (pv 1) aA (fun _ _ => rfl)) (fun _ _ => rfl)))
   (aB (bu (bA (aK (pB K) (by rfl) T.any_ jh (aa (bj rfl (N' := ["gain", "number"]) (src := [none, some 6]) rfl (piL K (pv 5)) (fun _ _ _ _ _ => (aP (i := 0) (show (["gain", "number"] : List Str).Nodup from by decide +kernel) rfl (Or.inl rfl))) (fun _ _ _ _ _ => bf) (fun _ _ _ _ _ => (aD b_ (hr.mono (by decide)) rfl (aa (pv 1) (aa (pv 0) ak aj) aj) (he := aj)))) ak aU) (he := aU)))
    (aC (aM pG)) aZ)
   (aC (aM (bH (aa (pv 4) (aa (pv 6) ak aj) aj)))))))))), ?_⟩
  refine ⟨_, rfl, _, rfl, _, rfl, a, b, c, U, m, n, R, C, rfl, hU, g, hB, hC, g2, fun hw H1 s1 => ?_, fun hw p H1 s1 hpn hF => ?_⟩
  ·refine ⟨_, rfl, rfl, _, rfl, ?_⟩
   refine cX ?_
   exact kn (fun k => k.ne hw) H1 s1
  have hS : 0 < Gm.smM U R C := Gm.sgn_pos hw
  obtain ⟨vs, hvs, pr⟩ := id hF
  have shl := Gm.shM_len U R C
  have vl : vs.length = C.length := by rw [pr.length, fj, shl]
  refine ⟨_, rfl, rfl, _, rfl, ?_⟩
  refine ifN (by simp) ?_
  have zb := zp g g2
  have zq : ∀ q ∈ mks (Gm.shM U R C) (Gm.smM U R C), Sz 60 q.1 /\ Sz 60 q.2 := fun q hq => by
   obtain ⟨x, hx, rfl⟩ := List.mem_map.mp hq
   refine ⟨Sz.fst hS ?_, zb.snd hS⟩
   unfold Gm.shM at hx
   obtain ⟨y, hy, rfl⟩ := List.mem_map.mp hx
   unfold Gm.partsM at hy
   obtain ⟨t, ht, rfl⟩ := List.mem_map.mp hy
   have zs : Sz 1 (Gm.sgn (Gm.wholeM U R C)) := by unfold Gm.sgn Sz; split <;> decide
   refine (zs.mul (kO C.length _ c4 (jr (mK g g2) (List.mem_range.mp ht) ?_ ?_))).mono (by omega)
   ·unfold Gm.numsM
    rw [List.length_cons, List.length_replicate]
    have := g2.pos
    omega
   ·intro x hx
    unfold Gm.numsM at hx
    rcases List.mem_cons.mp hx with rfl | hx
    ·show (1 : Int).natAbs < 2 ^ 9
     decide
    ·rw [(List.mem_replicate.mp hx).2]
     show (0 : Int).natAbs < 2 ^ 9
     decide
  refine ⟨_, rfl, p, rfl, ⟨_, SqL.of hvs⟩, bw (xs := vs) (fun x y _ => ∀ q, IsFr H1 x q -> y = .bl (decide (0 < q.1))) (fun _ _ _ _ _ h => h) (SqL.of hvs) (by rw [vl]; exact Nat.le_of_lt (aO (by omega))) ?_ ?_⟩
  ·intro x hx H2 s2 Q' q
   obtain ⟨r, hr', hf⟩ := pr.mem2 hx
   obtain ⟨d, rfl, hd⟩ := id hf
   refine ⟨(by show 2 <= sizeLine; decide), fun t ht => ⟨_, rfl, t, d, _, _, _, _, rfl, SqT.of aq, SqT.of (ao ht _ _ (s2 _ _ hd)), sz0, sz1, (zq r hr').1.mono (by decide), (zq r hr').2.mono (by decide), ?_⟩⟩
   refine q _ _ (ao ht) fun q' h' => ?_
   rw [hf.inj h']
   congr 1
   rw [Int.zero_mul, Int.mul_one]
  intro ys H2 s2 prb qb hqb
  have eb := wC (fun q => decide (0 < q.1)) prb pr
  subst eb
  refine ⟨qb, _, rfl, SqL.of aq, ?_⟩
  rw [List.all_map]
  have s12 : Same H1 (upd H2 qb (.lst (((mks (Gm.shM U R C) (Gm.smM U R C)).map fun q => decide (0 < q.1)).map V.bl))) := s2.trans (ao hqb)
  generalize upd H2 qb (.lst (((mks (Gm.shM U R C) (Gm.smM U R C)).map fun q => decide (0 < q.1)).map V.bl)) = H3 at s12 ⊢
  have s13 := s1.trans s12
  have eall : (mks (Gm.shM U R C) (Gm.smM U R C)).all (id ∘ fun q => decide (0 < q.1)) = true ↔ ∀ q ∈ Gm.shM U R C, 0 < q := by
   rw [List.all_eq_true]
   constructor
   ·intro h q hq
    exact (rZ hS).mp (of_decide_eq_true (h _ (List.mem_map.mpr ⟨q, hq, rfl⟩)))
   ·intro h q hq
    obtain ⟨x, hx, rfl⟩ := List.mem_map.mp hq
    exact decide_eq_true ((rZ hS).mpr (h x hx))
  refine ⟨_, rfl, ?_⟩
  by_cases hpos : ∀ q ∈ Gm.shM U R C, 0 < q
  rotate_left
  ·have hf : (mks (Gm.shM U R C) (Gm.smM U R C)).all (id ∘ fun q => decide (0 < q.1)) = false := by
    cases e : (mks (Gm.shM U R C) (Gm.smM U R C)).all (id ∘ fun q => decide (0 < q.1)) with
    | false => rfl
    | true => exact absurd (eall.mp e) hpos
   rw [hf]
   refine cX ?_
   exact kn (fun k => hpos k.pos) H3 s13
  rw [eall.mpr hpos]
  refine bK ?_
  obtain ⟨w1, w2, w3⟩ := j6 g g2 hw hpos
  have hU3 := hU.mono s13
  obtain ⟨vs3, b0, ha3, h03, at03, hb03⟩ := hU3.row (i := 0) (by rw [g.rows]; exact g.m1)
  have hl0 : ((U.getD 0 []).map V.int).length = n := by rw [List.length_map, (g.row g.m1).2]
  refine ⟨_, rfl, _, rfl, _, rfl, a, vs3, 0, _, rfl, rfl, SqL.of ha3, at03, b0, _, rfl, .inl (SqL.of hb03), p, c, _, C, n, (by rw [hl0]; rfl), hF.mono s12, hC.mono s13, by rw [fj, shl], g2.lt, n4, fun mx H4 s4 hmx hM => ?_⟩
  rw [Ex hS g2.nd shl g2.lt] at hM
  have s14 := s13.trans s4
  refine ⟨_, rfl, _, rfl, a, mx, U, m, n, _, rfl, hU.mono s14, g, hM, w3, fun gn H5 s5 hgn hG => ?_⟩
  have s15 := s14.trans s5
  have eg : (U.map fun r => aW r (mks (wsM U n R C) (Gm.smM U R C))) = mks (U.map fun r => Fr.dot r (wsM U n R C)) (Gm.smM U R C) := by
   unfold mks
   rw [List.map_map]
   exact List.map_congr_left fun r hr' => nP hS (g.sz hr') w3
  rw [show (mks ((List.range n).map (Gm.yOf C (Gm.shM U R C))) (Gm.smM U R C)) = mks (wsM U n R C) (Gm.smM U R C) from rfl, eg] at hG
  obtain ⟨gv, hgv, prg⟩ := id hG
  have gl : gv.length = m := by rw [prg.length, fj, List.length_map, g.rows]
  obtain ⟨b', eb', hb⟩ := id hB
  cases eb'
  have h0m := g2.r0m
  have r0 : R.getD 0 0 = R.headD 0 := by cases R <;> rfl
  have rl := g2.len
  have cp := g2.pos
  have rt : atI (R.map fun (i : Nat) => V.int i) (0 : Int) = some (.int (R.headD 0 : Nat)) := by
   have := Dr (l := R) (t := 0) (by omega)
   rw [r0] at this
   exact this
  obtain ⟨q0, eq0, nu, enu, hnu⟩ := prg.get2 (List.getElem?_eq_getElem (show R.headD 0 < gv.length by rw [gl]; exact h0m))
  obtain ⟨x0, ex0, rfl⟩ := Hk eq0
  have ex0' : x0 = Gm.gain U n (Gm.yOf C (Gm.shM U R C)) (R.headD 0) := by
   rw [<- gJ g h0m]
   rw [List.getElem?_map, List.getElem?_eq_getElem (show R.headD 0 < U.length by rw [g.rows]; exact h0m)] at ex0
   have e2 : U.getD (R.headD 0) [] = U[R.headD 0]'(by rw [g.rows]; exact h0m) := by
    rw [List.getD_eq_getElem?_getD, List.getElem?_eq_getElem]; rfl
   rw [e2]
   exact (Option.some.inj ex0).symm
  refine ⟨_, rfl, _, rfl, b, _, 0, _, rfl, rfl, SqL.of (s15 _ _ hb), rt, gn, gv, _, _, rfl, rfl, SqL.of hgv, (by rw [fM (show R.headD 0 < gv.length by rw [gl]; exact h0m), enu]), ?_⟩
  have zg : ∀ q ∈ mks (U.map fun r => Fr.dot r (wsM U n R C)) (Gm.smM U R C), Sz 1000 q.1 /\ Sz 1000 q.2 := fun q hq => by
   rw [<- eg] at hq
   obtain ⟨r, hr', rfl⟩ := List.mem_map.mp hq
   exact ⟨(dD (g.sz hr') w3).mono (by decide), (dF (g.sz hr') w3).mono (by decide)⟩
  have z0 := zg _ (List.mem_of_getElem? eq0)
  refine ⟨_, rfl, gn, rfl, ⟨_, SqL.of hgv⟩, bw (xs := gv) (fun x y _ => ∀ q, IsFr H5 x q -> y = .bl (decide ((Fr.mk x0 (Gm.smM U R C)).1 * q.2 < q.1 * (Fr.mk x0 (Gm.smM U R C)).2))) (fun _ _ _ _ _ h => h) (SqL.of hgv) (by rw [gl]; exact Nat.le_of_lt (aO (by omega))) ?_ ?_⟩
  ·intro x hx H6 s6 Q' q
   obtain ⟨r, hr', hf⟩ := prg.mem2 hx
   obtain ⟨d, rfl, hd⟩ := id hf
   refine ⟨_, rfl, _, rfl, nu, d, _, _, _, _, rfl, SqT.of (s6 _ _ hnu), SqT.of (s6 _ _ hd), z0.1, z0.2, (zg r hr').1, (zg r hr').2, q _ H6 (Same.refl _) fun q' h' => by rw [hf.inj h']⟩
  intro ys2 H6 s6 prc qc hqc
  have ec := wC (fun q => decide ((Fr.mk x0 (Gm.smM U R C)).1 * q.2 < q.1 * (Fr.mk x0 (Gm.smM U R C)).2)) prc prg
  subst ec
  refine ⟨qc, _, rfl, SqL.of aq, ?_⟩
  rw [List.any_map]
  have eany : (mks (U.map fun r => Fr.dot r (wsM U n R C)) (Gm.smM U R C)).any (id ∘ fun q => decide ((Fr.mk x0 (Gm.smM U R C)).1 * q.2 < q.1 * (Fr.mk x0 (Gm.smM U R C)).2)) = true ↔ ∃ i, i < m /\ x0 < Gm.gain U n (Gm.yOf C (Gm.shM U R C)) i := by
   rw [List.any_eq_true]
   constructor
   ·rintro ⟨q, hq, h⟩
    obtain ⟨d, hd, rfl⟩ := List.mem_map.mp hq
    obtain ⟨r, hr', rfl⟩ := List.mem_map.mp hd
    obtain ⟨i, hi, rfl⟩ := List.mem_iff_getElem.mp hr'
    refine ⟨i, by rw [<- g.rows]; exact hi, ?_⟩
    have h' : decide ((Fr.mk x0 (Gm.smM U R C)).1 * (Fr.mk (Fr.dot U[i] (wsM U n R C)) (Gm.smM U R C)).2 < (Fr.mk (Fr.dot U[i] (wsM U n R C)) (Gm.smM U R C)).1 * (Fr.mk x0 (Gm.smM U R C)).2) = true := h
    rw [rF hS] at h'
    have e2 : U.getD i [] = U[i] := by rw [List.getD_eq_getElem?_getD, List.getElem?_eq_getElem hi]; rfl
    rw [<- gJ g (by rw [<- g.rows]; exact hi), e2]
    exact of_decide_eq_true h'
   ·rintro ⟨i, hi, h⟩
    have hi' : i < U.length := by rw [g.rows]; exact hi
    have e2 : U.getD i [] = U[i] := by rw [List.getD_eq_getElem?_getD, List.getElem?_eq_getElem hi']; rfl
    refine ⟨Fr.mk (Fr.dot U[i] (wsM U n R C)) (Gm.smM U R C), List.mem_map.mpr ⟨_, List.mem_map.mpr ⟨U[i], List.getElem_mem hi', rfl⟩, rfl⟩, ?_⟩
    show decide ((Fr.mk x0 (Gm.smM U R C)).1 * (Fr.mk (Fr.dot U[i] (wsM U n R C)) (Gm.smM U R C)).2 < (Fr.mk (Fr.dot U[i] (wsM U n R C)) (Gm.smM U R C)).1 * (Fr.mk x0 (Gm.smM U R C)).2) = true
    rw [rF hS]
    rw [<- gJ g hi, e2] at h
    exact decide_eq_true h
  have s6' : Same H5 (upd H6 qc (.lst (((mks (U.map fun r => Fr.dot r (wsM U n R C)) (Gm.smM U R C)).map fun q => decide ((Fr.mk x0 (Gm.smM U R C)).1 * q.2 < q.1 * (Fr.mk x0 (Gm.smM U R C)).2)).map V.bl))) := s6.trans (ao hqc)
  generalize upd H6 qc (.lst (((mks (U.map fun r => Fr.dot r (wsM U n R C)) (Gm.smM U R C)).map fun q => decide ((Fr.mk x0 (Gm.smM U R C)).1 * q.2 < q.1 * (Fr.mk x0 (Gm.smM U R C)).2)).map V.bl)) = H7 at s6' ⊢
  have s17 := s15.trans s6'
  refine ⟨_, rfl, ?_⟩
  by_cases hk : ∃ i, i < m /\ x0 < Gm.gain U n (Gm.yOf C (Gm.shM U R C)) i
  ·rw [eany.mpr hk]
   refine cX ?_
   obtain ⟨i, hi, hlt⟩ := hk
   refine kn (fun k => ?_) H7 s17
   have := k.le i hi
   rw [<- ex0'] at this
   omega
  ·have hf : (mks (U.map fun r => Fr.dot r (wsM U n R C)) (Gm.smM U R C)).any (id ∘ fun q => decide ((Fr.mk x0 (Gm.smM U R C)).1 * q.2 < q.1 * (Fr.mk x0 (Gm.smM U R C)).2)) = false := by
    cases e : (mks (U.map fun r => Fr.dot r (wsM U n R C)) (Gm.smM U R C)).any (id ∘ fun q => decide ((Fr.mk x0 (Gm.smM U R C)).1 * q.2 < q.1 * (Fr.mk x0 (Gm.smM U R C)).2)) with
    | false => rfl
    | true => exact absurd (eany.mp e) hk
   rw [hf]
   refine bK ?_
   have hcor : Gm.Corner U m n R C := ⟨hw, hpos, fun i hi => Classical.byContradiction fun c => hk ⟨i, hi, by rw [ex0']; omega⟩⟩
   refine ⟨_, rfl, _, rfl, (by show 2 <= sizeLine; decide), fun tp htp => ?_⟩
   have sE := s17.trans (ao (o := .tup [.ref mx, .ref nu]) htp)
   refine ks hcor tp _ sE fun l hl => ⟨tp, mx, nu, rfl, aq, fun e => ?_, ((hM.mono s5).mono s6').mono (ao htp), ?_⟩
   ·rw [e] at hmx
    exact hl (s13.free hmx)
   ·rw [ao htp _ _ (s6' _ _ hnu), ex0']
    rfl
def frD (q : Int × Int) : D := .tup [.int q.1, .int q.2]
def eO (q : du) : D := .tup [.lst (q.1.map frD), frD q.2]
theorem Dp {H : Hp} {p : Addr} {q : Int × Int} (h : H p = some (.tup [.int q.1, .int q.2])) : Rep K H (frD q) (.ref p) := bV h
theorem rK {H : Hp} : ∀ {vs : List V} {qs : List (Int × Int)}, Paired (IsFr H) vs qs -> Reps K H (qs.map frD) vs
 | _, _, .nil => by simp [Reps]
 | _, _, .cons h t => by
  rw [List.map_cons]
  unfold Reps
  obtain ⟨b, rfl, q⟩ := h
  exact ⟨_, _, rfl, Dp q, rK t⟩
theorem Aw {l : Addr} {H : Hp} {v : V} {q : du} (h : IsCor l H v q) : Rep K H (eO q) v := by
 obtain ⟨t, k, u, rfl, a, _, ⟨vs, c1, c2⟩, d⟩ := h
 unfold eO Rep
 refine ⟨t, _, rfl, SqT.of a, ?_⟩
 unfold Reps
 refine ⟨_, _, rfl, ?_, ?_⟩
 ·unfold Rep
  exact ⟨k, vs, rfl, SqL.of c1, rK c2⟩
 ·unfold Reps
  exact ⟨_, _, rfl, Dp d, by simp [Reps]⟩
theorem vM {l : Addr} {H : Hp} : ∀ {vs : List V} {qs : List du}, Paired (IsCor l H) vs qs -> Reps K H (qs.map eO) vs
 | _, _, .nil => by simp [Reps]
 | _, _, .cons h t => by
  rw [List.map_cons]
  unfold Reps
  exact ⟨_, _, rfl, Aw h, vM t⟩
theorem mQ : ∀ ps qs : List (Int × Int), cT (ps.map frD) (qs.map frD) = true
 | [], t => by unfold cT; cases t <;> rfl
 | _ :: _, [] => by simp [cT]
 | x :: r, y :: t => by
  rw [List.map_cons, List.map_cons]
  unfold cT
  rw [mQ r t, Bool.and_true]
  rfl
theorem yw (p q : du) : di (eO p) (eO q) = true := by
 show (cT (p.1.map frD) (q.1.map frD) && (di (frD p.2) (frD q.2) && true)) = true
 rw [mQ]
 rfl
theorem pD : ∀ ps : List (Int × Int), fX (ps.map frD) <= 1
 | [] => by decide
 | x :: r => by
  rw [List.map_cons]
  unfold fX
  have := pD r
  have e : dN (frD x) = 1 := rfl
  omega
theorem Ij (q : du) : dN (eO q) <= 40 := by
 unfold eO
 rw [pO]
 have h1 := pD q.1
 show max (dN (.lst (q.1.map frD))) (max (dN (frD q.2)) 0) + 1 <= 40
 rw [lV]
 have e : dN (frD q.2) = 1 := rfl
 omega
theorem Bg {p q : Int × Int} (h : frD p = frD q) : p = q := by
 unfold frD at h
 simp at h
 exact Prod.ext h.1 h.2
theorem Fv {p q : du} (h : eO p = eO q) : p = q := by
 have e := h
 unfold eO at e
 injection e with e
 injection e with e1 e2
 injection e1 with e1
 injection e2 with e2
 refine Prod.ext ?_ (Bg e2)
 have inj : ∀ (a b : List (Int × Int)), a.map frD = b.map frD -> a = b := by
  intro a
  induction a with
  | nil => intro b h; cases b with
   | nil => rfl
   | cons _ _ => simp at h
  | cons x a ih => intro b h; cases b with
   | nil => simp at h
   | cons y b =>
    rw [List.map_cons, List.map_cons] at h
    injection h with h1 h2
    rw [Bg h1, ih b h2]
 exact inj _ _ e1
theorem zL (p : du) (ps : List du) : (ps.map eO).any (fun e => eqD e (eO p)) = true ↔ p ∈ ps := by
 rw [List.any_eq_true]
 constructor
 ·rintro ⟨d, hd, he⟩
  obtain ⟨q, hq, rfl⟩ := List.mem_map.mp hd
  rw [<- Fv (ym he)]
  exact hq
 ·intro h
  exact ⟨eO p, List.mem_map_of_mem h, eH _⟩
structure Cors (U : List (List Int)) (m n : Nat) (Ls : List du) : Prop where
 of : ∀ q ∈ Ls, ∃ R C, Gm.Good2 m n R C /\ Gm.Corner U m n R C /\ q = bW U n R C
 all : ∀ R C, Gm.Good2 m n R C -> Gm.Corner U m n R C -> bW U n R C ∈ Ls
def u9 : Sp := fun vs H Q _ => ∃ (a : Addr) (U : List (List Int)) (m n : Nat), vs = [.ref a] /\ IsTab H a U /\ Gd U m n /\ ∀ l zs Ls H', Same H H' -> H' l = some (.lst zs) -> Paired (IsCor l H') zs Ls -> Cors U m n Ls -> zs.length <= 1000 -> Q (.ref l) H'
abbrev j_ : Stmt := top 20
theorem wU : FnScope ["table", "found", "columns", "rows", "place"] ["table"] (aH j_) := ⟨rfl, rfl, rfl, by decide +kernel, rfl, by decide +kernel, by decide +kernel⟩
theorem wW (F : FunM K mg "corners_of" j_ ["table"]) (T : Blt mg) (kZ : Def P w K mg base "choices" ["count"] 1 tG) (qY : Def P w K mg base "corner" ["table", "rows", "columns"] 8 vU) : Def P w K mg base "corners_of" ["table"] 9 u9 := by
 have S := wU
 refine Def.of F S (fun vs H Q E h => ?_) (fun f cdv A outer s H vs Q E hr h => ?_)
 ·obtain ⟨a, U, m, n, rfl, _⟩ := h
  rfl
 ·obtain ⟨a, U, m, n, rfl, hU, g, k⟩ := h
  have m4 := g.m4
  have n4 := g.n4
  refine ⟨_, (aB (aY (i := 1) S.nd rfl (Or.inl rfl) (cz ak))
   (aB (cJ PassesOwn.never rfl (piL K (aD kZ (hr.mono (by decide)) rfl (aa (aK (bU K) (by rfl) T.len_ bx (aa (aQ (ixL K) (pv 0) aA (fun _ _ => rfl)) ak aF) (he := aF)) ak aN) (he := aN))) (aP (i := 2) S.nd rfl (Or.inl rfl))
    (aC (cJ PassesOwn.never rfl (piL K (aD kZ (hr.mono (by decide)) rfl (aa (aK (bU K) (by rfl) T.len_ bx (aa (pv 0) ak aj) (he := aj)) ak aN) (he := aN))) (aP (i := 3) S.nd rfl (Or.inl rfl))
    (aC (bu (qZ nG eQ aA (aK (bU K) (by rfl) T.len_ bx (aa (pv 3) ak aj) (he := aj)) (aK (bU K) (by rfl) T.len_ bx (aa (pv 2) ak aj) (he := aj)))
    (aB (aY (i := 4) S.nd rfl (Or.inl rfl) (aD qY (hr.mono (by decide)) rfl (aa (pv 0) (aa (pv 3) (aa (pv 2) ak aj) aj) aj) (he := aj)))
   (aC (bu (PW.pt (oU (bh Hs (pv 4) pG (a_ _)) (mG (bh (JS K hr.units) (pv 4) (pv 1) rfl))))
    (aC (cN (ik PySem.F.plainAttrs_list PySem.F.slot_list_append PySem.F.type_list_append dh (pv 1) (aa (pv 4) ak aj)))) aZ))) aZ)))))
   (aC (aM (pv 1))))), ?_⟩
  refine ⟨Nat.zero_le _, fun l hl => ?_⟩
  have hl0 : H l = none := hl
  have s0 := ao (o := .lst []) hl
  have q0 : upd H l (.lst []) l = some (.lst []) := aq
  generalize upd H l (.lst []) = H0 at s0 q0 ⊢
  have hU0 := hU.mono s0
  obtain ⟨vs0, b0, ha0, h00, at00, hb00⟩ := hU0.row (i := 0) (by rw [g.rows]; exact g.m1)
  have hln : ((U.getD 0 []).map V.int).length = n := by rw [List.length_map, (g.row g.m1).2]
  have hlm : vs0.length = m := by
   obtain ⟨vs', ha', hp⟩ := id hU0
   rw [ha0] at ha'
   cases ha'
   rw [hp.length, g.rows]
  refine ⟨_, rfl, a, vs0, 0, _, rfl, rfl, SqL.of ha0, at00, b0, _, rfl, .inl (SqL.of hb00), n, (by rw [hln]; rfl), n4, fun pc xc H1 s1 hpn hpc prc => ?_⟩
  have s01 := s0.trans s1
  have q1 := s1 _ _ q0
  have npl : pc ≠ l := fun e => by rw [e, q0] at hpn; cases hpn
  refine ⟨pc, rfl, ⟨_, SqL.of hpc⟩, dO (K := K) (a := pc) (xs := xc) (fun i σ H' => ∃ o2 o3 o4 zs Ls, σ = [some (.ref a), some (.ref l), o2, o3, o4] /\ Same H H' /\ SameX l H1 H' /\ H' l = some (.lst zs) /\ Paired (IsCor l H') zs Ls /\ zs.length <= 16 * i /\
    (∀ q ∈ Ls, ∃ R C, Gm.Good2 m n R C /\ Gm.Corner U m n R C /\ q = bW U n R C) /\ ∀ C ∈ (Gm.chM n).take i, ∀ R ∈ Gm.chM m, Gm.Good2 m n R C -> Gm.Corner U m n R C -> bW U n R C ∈ Ls)
   ⟨_, _, _, [], [], rfl, s01, SameX.refl, q1, .nil, Nat.zero_le _, (fun q h => nomatch h), fun C h => by simp at h⟩ ?_ ?_ ?_⟩
  ·rintro i σ H2 _ ⟨_, _, _, _, _, _, _, sx, _⟩
   exact SqL.of (sx _ _ npl hpc)
  ·rintro i x σ H2 hi ⟨o2, o3, o4, zs, Ls, rfl, s2, sx, hz, pz, zl, hof, hall⟩
   obtain ⟨C, hC, bc, rfl, bcn, hbc⟩ := prc.get2 hi
   have nbl : bc ≠ l := fun e => by rw [e, q0] at bcn; cases bcn
   have hbc2 := sx _ _ nbl hbc
   have il : i < 16 := by
    have h1 := (List.getElem?_eq_some_iff.mp hi).1
    rw [prc.length, jX] at h1
    have := km n4
    omega
   obtain ⟨vs2, ha2, hp2⟩ := hU.mono s2
   have hlm : vs2.length = m := by rw [hp2.length, g.rows]
   refine ⟨_, rfl, a, vs2, rfl, .inl (SqL.of ha2), m, (by rw [hlm]; rfl), m4, fun pr xr H3 s3 hprn hpr prr => ?_⟩
   have s23 := s2.trans s3
   have nrl : pr ≠ l := fun e => by rw [e, hz] at hprn; cases hprn
   refine ⟨pr, rfl, ⟨_, SqL.of hpr⟩, dO (K := K) (a := pr) (xs := xr) (fun r σ H' => ∃ o3 o4 zs Ls, σ = [some (.ref a), some (.ref l), some (.ref bc), o3, o4] /\ Same H H' /\ SameX l H3 H' /\ H' l = some (.lst zs) /\ Paired (IsCor l H') zs Ls /\ zs.length <= 16 * i + r /\
     (∀ q ∈ Ls, ∃ R C, Gm.Good2 m n R C /\ Gm.Corner U m n R C /\ q = bW U n R C) /\ (∀ C ∈ (Gm.chM n).take i, ∀ R ∈ Gm.chM m, Gm.Good2 m n R C -> Gm.Corner U m n R C -> bW U n R C ∈ Ls) /\
     ∀ R ∈ (Gm.chM m).take r, Gm.Good2 m n R C -> Gm.Corner U m n R C -> bW U n R C ∈ Ls)
    ⟨_, _, zs, Ls, rfl, s23, SameX.refl, s3 _ _ hz, pz.imp2 fun _ _ z => z.mono s3, zl, hof, hall, fun R h => by simp at h⟩ ?_ ?_ ?_⟩
   ·rintro r σ H4 _ ⟨_, _, _, _, _, _, sx4, _⟩
    exact SqL.of (sx4 _ _ nrl hpr)
   ·rintro r y σ H4 hy ⟨o3', o4', zs4, Ls4, rfl, s4, sx4, hz4, pz4, zl4, hof4, hall4, hthis⟩
    obtain ⟨R, hR, br, rfl, brn, hbr⟩ := prr.get2 hy
    have nbrl : br ≠ l := fun e => by rw [e, hz] at brn; cases brn
    have hbr4 := sx4 _ _ nbrl hbr
    have hbc4 := sx4 _ _ nbl (s3 _ _ hbc2)
    have rl16 : r < 16 := by
     have h1 := (List.getElem?_eq_some_iff.mp hy).1
     rw [prr.length, jX] at h1
     have := km m4
     omega
    have eR : (Gm.chM m).take (r + 1) = (Gm.chM m).take r ++ [R] := by rw [List.take_add_one, hR]; rfl
    have hRm := List.mem_of_getElem? hR
    have hCm := List.mem_of_getElem? hC
    have skip : ∀ H5, Same H H5 -> SameX l H3 H5 -> H5 l = some (.lst zs4) -> Paired (IsCor l H5) zs4 Ls4 -> (Gm.Good2 m n R C -> Gm.Corner U m n R C -> bW U n R C ∈ Ls4) -> ∀ o4'', ∃ o3 o4 zs Ls, ([some (.ref a), some (.ref l), some (.ref bc), some (.ref br), o4''] : St) = [some (.ref a), some (.ref l), some (.ref bc), o3, o4] /\ Same H H5 /\ SameX l H3 H5 /\ H5 l = some (.lst zs) /\ Paired (IsCor l H5) zs Ls /\ zs.length <= 16 * i + (r + 1) /\
     (∀ q ∈ Ls, ∃ R C, Gm.Good2 m n R C /\ Gm.Corner U m n R C /\ q = bW U n R C) /\ (∀ C ∈ (Gm.chM n).take i, ∀ R ∈ Gm.chM m, Gm.Good2 m n R C -> Gm.Corner U m n R C -> bW U n R C ∈ Ls) /\
     ∀ R ∈ (Gm.chM m).take (r + 1), Gm.Good2 m n R C -> Gm.Corner U m n R C -> bW U n R C ∈ Ls := by
     intro H5 a1 a2 a3 a4 a5 o4''
     refine ⟨_, _, zs4, Ls4, rfl, a1, a2, a3, a4, by omega, hof4, hall4, fun R' h' => ?_⟩
     rw [eR] at h'
     rcases List.mem_append.mp h' with h' | h'
     ·exact hthis R' h'
     ·rw [List.mem_singleton.mp h']
      exact a5
    refine ⟨_, rfl, br, _, rfl, .inl (SqL.of hbr4), _, _, rfl, rfl, _, rfl, ?_⟩
    by_cases h0 : 0 < R.length
    rotate_left
    ·refine ifN (by simpa using h0) ?_
     refine ⟨_, rfl, ?_⟩
     refine bK ?_
     exact skip H4 s4 sx4 hz4 pz4 (fun g2 => absurd (by rw [g2.len]; exact g2.pos) h0) _
    refine ifP (by simpa using h0) ?_
    refine ⟨_, rfl, bc, _, rfl, .inl (SqL.of hbc4), rfl, _, rfl, ?_⟩
    by_cases h1 : R.length = C.length
    rotate_left
    ·refine ifN (by rw [fZ, List.length_map, List.length_map]; simpa using h1) ?_
     exact skip H4 s4 sx4 hz4 pz4 (fun g2 => absurd g2.len h1) _
    refine ifP (by rw [fZ, List.length_map, List.length_map]; exact decide_eq_true h1) ?_
    have g2 : Gm.Good2 m n R C := ⟨Gm.mem_chM.mpr hRm, Gm.mem_chM.mpr hCm, h1, by omega⟩
    refine ⟨_, rfl, _, rfl, _, rfl, a, br, bc, U, m, n, R, C, rfl, hU.mono s4, g, ⟨br, rfl, hbr4⟩, ⟨bc, rfl, hbc4⟩, g2, fun hnc H5 s5 => ?_, fun hco p H5 s5 hcor => ?_⟩
    ·refine ⟨_, rfl, rfl, _, rfl, ?_⟩
     refine ifN (by simp) ?_
     exact skip H5 (s4.trans s5) (sx4.then s5) (s5 _ _ hz4) (pz4.imp2 fun _ _ z => z.mono s5) (fun _ h => absurd h hnc) _
    ·have hc := hcor l (by rw [hz4]; simp)
     have pz5 := pz4.imp2 fun _ _ z => z.mono s5
     have hz5 := s5 _ _ hz4
     refine ⟨_, rfl, rfl, _, rfl, ?_⟩
     refine ifP (by simp) ?_
     refine ⟨_, rfl, _, rfl, l, eO (bW U n R C), Ls4.map eO, zs4, rfl, Aw hc, SqL.of hz5, vM pz5, ?_, _, rfl, ?_⟩
     ·intro d hd
      obtain ⟨q, _, rfl⟩ := List.mem_map.mp hd
      refine ⟨yw _ _, Ij _, fun d' hd' => ?_⟩
      obtain ⟨q', _, rfl⟩ := List.mem_map.mp hd'
      exact yw _ _
     by_cases hin : bW U n R C ∈ Ls4
     ·refine ifN (by simp [(zL (bW U n R C) Ls4).mpr hin]) ?_
      exact skip H5 (s4.trans s5) (sx4.then s5) hz5 pz5 (fun _ _ => hin) _
     ·have hf : ((Ls4.map eO).any fun e => eqD e (eO (bW U n R C))) = false := by
       cases e : (Ls4.map eO).any fun e => eqD e (eO (bW U n R C)) with
       | false => rfl
       | true => exact absurd ((zL _ _).mp e) hin
      refine ifP (by simp [hf]) ?_
      refine ⟨_, rfl, .inl ⟨rfl, _, SqL.of hz5⟩, _, rfl, l, zs4, .ref p, rfl, rfl, hz5, aO (by omega), ?_⟩
      refine ⟨_, _, zs4 ++ [.ref p], Ls4 ++ [bW U n R C], rfl, cM (s4.trans s5) hl0, (sx4.then s5).at, aq, ?_, ?_, ?_, ?_, ?_⟩
      ·exact (pz5.imp2 fun _ _ z => z.at hz5).app2 (.cons (hc.at hz5) .nil)
      ·rw [List.length_append, List.length_singleton]; omega
      ·intro q hq
       rcases List.mem_append.mp hq with h | h
       ·exact hof4 q h
       ·rw [List.mem_singleton.mp h]
        exact ⟨R, C, g2, hco, rfl⟩
      ·intro C' hC' R' hR' a1 a2
       exact List.mem_append_left _ (hall4 C' hC' R' hR' a1 a2)
      ·intro R' hR' a1 a2
       rw [eR] at hR'
       rcases List.mem_append.mp hR' with h | h
       ·exact List.mem_append_left _ (hthis R' h a1 a2)
       ·rw [List.mem_singleton.mp h]
        exact List.mem_append_right _ (by simp)
   ·rintro σ H4 ⟨o3', o4', zs4, Ls4, rfl, s4, sx4, hz4, pz4, zl4, hof4, hall4, hthis⟩
    have xl : xr.length <= 16 := by rw [prr.length, jX]; exact km m4
    rw [prr.length, List.take_length] at hthis
    have sx14 : SameX l H1 H4 := fun b o nb hb => sx4 b o nb (s3 b o (sx b o nb hb))
    refine ⟨_, _, _, zs4, Ls4, rfl, s4, sx14, hz4, pz4, by omega, hof4, fun C' hC' R' hR' a1 a2 => ?_⟩
    rw [List.take_add_one, hC] at hC'
    rcases List.mem_append.mp hC' with h | h
    ·exact hall4 C' h R' hR' a1 a2
    ·have e : C' = C := by simpa using h
     rw [e] at a1 a2 ⊢
     exact hthis R' hR' a1 a2
  ·rintro σ H2 ⟨o2, o3, o4, zs, Ls, rfl, s2, sx, hz, pz, zl, hof, hall⟩
   rw [prc.length, List.take_length] at hall
   have xl : xc.length <= 16 := by rw [prc.length, jX]; exact km n4
   refine ⟨_, rfl, k l zs Ls H2 s2 hz pz ⟨hof, fun R C g2 hc => hall C (Gm.mem_chM.mp g2.cs) R (Gm.mem_chM.mp g2.rs) g2 hc⟩ (by omega)⟩
def leQ (p q : Int × Int) : Prop := p.1 * q.2 <= q.1 * p.2
theorem v6 {p q r : Int × Int} (hp : 0 < p.2) (hq : 0 < q.2) (hr : 0 < r.2) (h1 : leQ p q) (h2 : leQ q r) : leQ p r := by
 unfold leQ at *
 have a1 : p.1 * q.2 * r.2 <= q.1 * p.2 * r.2 := Int.mul_le_mul_of_nonneg_right h1 (Int.le_of_lt hr)
 have a2 : q.1 * r.2 * p.2 <= r.1 * q.2 * p.2 := Int.mul_le_mul_of_nonneg_right h2 (Int.le_of_lt hp)
 have a3 : p.1 * r.2 * q.2 <= r.1 * p.2 * q.2 := by grind
 exact Int.le_of_mul_le_mul_right a3 hq
def vW : Sp := fun vs H Q _ => ∃ (a l : Addr) (zs : List V) (Ls : List du), vs = [.ref a] /\ H a = some (.lst zs) /\ Paired (IsCor l H) zs Ls /\ Ls ≠ [] /\ (∀ q ∈ Ls, 0 < q.2.2 /\ Sz 1000 q.2.1 /\ Sz 1000 q.2.2) /\ ∀ v q, q ∈ Ls -> IsCor l H v q -> (∀ q' ∈ Ls, leQ q.2 q'.2) -> Q v H
abbrev qR : Stmt := top 52
theorem Eo : FnScope ["corners", "found", "place"] ["corners"] (aH qR) := ⟨rfl, rfl, rfl, by decide +kernel, rfl, by decide +kernel, by decide +kernel⟩
theorem De (F : FunM K mg "lowest" qR ["corners"]) (T : Blt mg) (b_ : Def P w K mg base "below" ["one", "other"] 1 (dm K)) : Def P w K mg base "lowest" ["corners"] 2 vW := by
 have S := Eo
 refine Def.of F S (fun vs H Q E h => ?_) (fun f cdv A outer s H vs Q E hr h => ?_)
 ·obtain ⟨a, l, zs, Ls, rfl, _⟩ := h
  rfl
 ·obtain ⟨a, l, zs, Ls, rfl, ha, pr, hne, hsz, k⟩ := h
  have zl : zs.length = Ls.length := pr.length
  have h0 : 0 < zs.length := by rw [zl]; exact List.length_pos_iff.mpr hne
  obtain ⟨q0, e0, hc0⟩ := pr.get2 (List.getElem?_eq_getElem h0)
  refine ⟨_, (aB (aY (i := 1) S.nd rfl (Or.inl rfl) (aQ (ixL K) (pv 0) aA (fun _ _ => rfl)))
   (aB (cJ PassesOwn.never rfl (piL K (pv 0)) (aP (i := 2) S.nd rfl (Or.inl rfl))
    (aC (bu (bA (aD b_ (hr.mono (by decide)) rfl (aa (aQ (ixT K) (pv 2) aA (fun _ _ => rfl)) (aa (aQ (ixT K) (pv 1) aA (fun _ _ => rfl)) ak aF) aF) (he := aF)))
    (aC (aY (i := 1) S.nd rfl (Or.inl rfl) (pv 2))) aZ)))
   (aC (aM (pv 1))))), ?_⟩
  refine ⟨_, rfl, a, zs, 0, _, rfl, rfl, SqL.of ha, fM h0, ?_⟩
  refine ⟨_, rfl, a, rfl, ⟨_, SqL.of ha⟩, dO (K := K) (a := a) (xs := zs) (fun i σ H' => ∃ v q o, σ = [some (.ref a), some v, o] /\ H' = H /\ q ∈ Ls /\ IsCor l H v q /\ ∀ q' ∈ Ls.take i, leQ q.2 q'.2)
   ⟨_, q0, _, rfl, rfl, List.mem_of_getElem? e0, hc0, fun q' h => by simp at h⟩ ?_ ?_ ?_⟩
  ·rintro i σ H' _ ⟨_, _, _, _, rfl, _⟩
   exact SqL.of ha
  ·rintro i x σ H' hi ⟨v, q, o, rfl, rfl, hq, hc, hle⟩
   obtain ⟨y, hy, hcy⟩ := pr.get2 hi
   have my := List.mem_of_getElem? hy
   obtain ⟨t, kk, u, rfl, t1, _, _, t2⟩ := id hc
   obtain ⟨t', kk', u', rfl, t1', _, _, t2'⟩ := id hcy
   have et : Ls.take (i + 1) = Ls.take i ++ [y] := by rw [List.take_add_one, hy]; rfl
   obtain ⟨p1, z1, z2⟩ := hsz q hq
   obtain ⟨p1', z1', z2'⟩ := hsz y my
   refine ⟨_, rfl, t', _, 1, _, rfl, rfl, SqT.of t1', rfl, _, rfl, t, _, 1, _, rfl, rfl, SqT.of t1, rfl, u', u, _, _, _, _, rfl, SqT.of t2', SqT.of t2, z1', z2', z1, z2, _, rfl, ?_⟩
   by_cases hlt : y.2.1 * q.2.2 < q.2.1 * y.2.2
   ·refine ifP (decide_eq_true hlt) ?_
    refine ⟨_, rfl, _, y, _, rfl, rfl, my, hcy, fun q' h => ?_⟩
    rw [et] at h
    rcases List.mem_append.mp h with h | h
    ·exact v6 p1' p1 (hsz q' (List.mem_of_mem_take h)).1 (Int.le_of_lt hlt) (hle q' h)
    ·rw [List.mem_singleton.mp h]
     exact Int.le_refl _
   ·refine ifN (by simpa using hlt) ?_
    refine ⟨_, q, _, rfl, rfl, hq, hc, fun q' h => ?_⟩
    rw [et] at h
    rcases List.mem_append.mp h with h | h
    ·exact hle q' h
    ·rw [List.mem_singleton.mp h]
     unfold leQ
     omega
  ·rintro σ H' ⟨v, q, o, rfl, rfl, hq, hc, hle⟩
   rw [zl, List.take_length] at hle
   exact ⟨_, rfl, k v q hq hc hle⟩
def gH (u l1 l2 : Addr) : List (Str × V) := cQ "theirs" (.ref l2) (cQ "mine" (.ref l1) (cQ "value" (.ref u) []))
theorem fV1 : ¬ (("mine" : Str) = "theirs") := by decide +kernel
theorem fV2 : ¬ (("value" : Str) = "theirs") := by decide +kernel
theorem fV3 : ¬ (("value" : Str) = "mine") := by decide +kernel
theorem bZ (u l1 l2 : Addr) : (gH u l1 l2).lookup ("value" : Str) = some (.ref u) := by
 unfold gH
 rw [bF, if_neg fV2, bF, if_neg fV3, bF, if_pos rfl]
theorem gM (u l1 l2 : Addr) : (gH u l1 l2).lookup ("mine" : Str) = some (.ref l1) := by
 unfold gH
 rw [bF, if_neg fV1, bF, if_pos rfl]
theorem e_ (u l1 l2 : Addr) : (gH u l1 l2).lookup ("theirs" : Str) = some (.ref l2) := by
 unfold gH
 rw [bF, if_pos rfl]
theorem Hg (u l1 l2 : Addr) {x : Str} (h1 : ¬ x = "theirs") (h2 : ¬ x = "mine") (h3 : ¬ x = "value") : (gH u l1 l2).lookup x = none := by
 unfold gH
 rw [bF, if_neg h1, bF, if_neg h2, bF, if_neg h3]
 rfl
def qQ (C : Addr) : Sp := fun vs H Q _ => ∃ (p dx u b c : Addr) (xs ys : List V), vs = [.ref p, .ref u, .ref b, .ref c] /\ H p = some (.ins C dx []) /\ H b = some (.lst xs) /\ H c = some (.lst ys) /\
 ∀ l1 l2 H', H l1 = none -> H l2 = none -> l1 ≠ l2 -> H' l1 = some (.lst xs) -> H' l2 = some (.lst ys) -> H' p = some (.ins C dx (gH u l1 l2)) -> (∀ q o, H q = some o -> q ≠ p -> H' q = some o) -> Q .non H'
abbrev jJ : Stmt := inClass (top 47) 0
theorem vB : FnScope ["self", "value", "mine", "theirs"] ["self", "value", "mine", "theirs"] (aH jJ) := ⟨rfl, rfl, rfl, by decide +kernel, rfl, by decide +kernel, by decide +kernel⟩
theorem uR {C : Addr} (F : FunC K C "__init__" "Solved.__init__" jJ ["self", "value", "mine", "theirs"]) (T : Blt mg) (C_Solved : Cl K mg "Solved" ["value", "mine", "theirs"] [] C) : DefC P w K mg base C "__init__" ["self", "value", "mine", "theirs"] 1 (qQ C) := by
 have S := vB
 refine DefC.of F S (fun vs H Q E h => ?_) (fun f cdv A outer s H vs Q E hr h => ?_)
 ·obtain ⟨p, dx, u, b, c, xs, ys, rfl, _⟩ := h
  rfl
 ·obtain ⟨p, dx, u, b, c, xs, ys, rfl, hp, hb, hc, k⟩ := h
  have nbp : b ≠ p := fB hb hp (by intro z; cases z)
  have ncp : c ≠ p := fB hc hp (by intro z; cases z)
  refine ⟨_, (aB (j5 (pv 0) (pv 1) rfl)
   (aB (j5 (pv 0) (cu (dH K) (by rfl) T.list_ cD (aa (pv 2) ak aj) (he := aj)) rfl)
   (aC (j5 (pv 0) (cu (dH K) (by rfl) T.list_ cD (aa (pv 3) ak aj) (he := aj)) rfl)))), ?_⟩
  refine ⟨_, rfl, _, rfl, p, C, dx, [], rfl, hp, C_Solved.cl, C_Solved.no _ (by simp), (by show 0 < 1000; decide), ?_⟩
  have kp1 : ∀ q o, H q = some o -> q ≠ p -> upd H p (.ins C dx (cQ "value" (.ref u) [])) q = some o := fun q o e nq => by rw [aJ nq]; exact e
  have hp1 : upd H p (.ins C dx (cQ "value" (.ref u) [])) p = some (.ins C dx (cQ "value" (.ref u) [])) := aq
  have fr1 : ∀ q, upd H p (.ins C dx (cQ "value" (.ref u) [])) q = none -> H q = none := fun q e => by
   by_cases z : q = p
   ·rw [z, aq] at e; cases e
   ·rw [aJ z] at e; exact e
  generalize upd H p (.ins C dx (cQ "value" (.ref u) [])) = H1 at kp1 hp1 fr1 ⊢
  have hb1 := kp1 _ _ hb nbp
  have hc1 := kp1 _ _ hc ncp
  refine ⟨_, rfl, b, xs, rfl, .inl (SqL.of hb1), fun l1 h1 => ?_⟩
  have np1 : p ≠ l1 := aV hp1 h1
  have nc1 : c ≠ l1 := aV hc1 h1
  refine ⟨_, rfl, p, C, dx, _, rfl, ao h1 _ _ hp1, C_Solved.cl, C_Solved.no _ (by simp), (by show 1 < 1000; decide), ?_⟩
  refine ⟨_, rfl, c, ys, rfl, .inl (SqL.of (by rw [aJ ncp, aJ nc1]; exact hc1)), fun l2 h2 => ?_⟩
  have np2 : p ≠ l2 := fun e => by rw [<- e, aq] at h2; cases h2
  have n12 : l1 ≠ l2 := fun e => by rw [<- e, aJ np1.symm, aq] at h2; cases h2
  have h2' : H1 l2 = none := by rw [aJ np2.symm, aJ n12.symm] at h2; exact h2
  refine ⟨_, rfl, p, C, dx, _, rfl, (by rw [aJ np2, aq]), C_Solved.cl, C_Solved.no _ (by simp), (by show 2 < 1000; decide), ?_⟩
  refine k l1 l2 _ (fr1 _ h1) (fr1 _ h2') n12 ?_ ?_ aq fun q o e nq => ?_
  ·rw [aJ np1.symm, aJ n12, aJ np1.symm, aq]
  ·rw [aJ np2.symm, aq]
  ·have e1 := kp1 q o e nq
   rw [aJ nq, aJ (aV e1 h2'), aJ nq, aJ (aV e1 h1)]
   exact e1
theorem Iv {a b c d : Int} (hb : 0 < b) (hd : 0 < d) (h : leQ (Fr.mk a b) (Fr.mk c d)) : a * d <= c * b := by
 have e := Fr.mk_lt (a := c) (b := d) (c := a) (d := b) hd hb
 unfold leQ at h
 have h1 : decide ((Fr.mk c d).1 * (Fr.mk a b).2 < (Fr.mk a b).1 * (Fr.mk c d).2) = false := decide_eq_false (by omega)
 rw [h1] at e
 have := of_decide_eq_false e.symm
 omega
theorem Dy (a : Nat -> Nat -> Int) {m n : Nat} (hm : 0 < m) (hn : 0 < n) : ∃ y S N, Gm.Pt a m n y S N := by
 obtain ⟨i, hi, h⟩ := Gm.max_of (fun i => Gm.sm n fun j => a i j * (if j = 0 then 1 else 0)) hm
 refine ⟨fun j => if j = 0 then 1 else 0, 1, _, by decide, fun j _ => by show (0 : Int) <= if j = 0 then 1 else 0; split <;> decide, ?_, h, ⟨i, hi, rfl⟩⟩
 rw [Gm.sm_single, if_pos hn]
theorem Be {U : List (List Int)} {m n : Nat} (g : Gd U m n) {Ls : List du} (hC : Cors U m n Ls) {R C : List Nat} (g2 : Gm.Good2 m n R C) (hk : Gm.Corner U m n R C) (hmin : ∀ q' ∈ Ls, leQ (bW U n R C).2 q'.2) :
  ∀ y' S' N', Gm.Pt (Gm.cell U) m n y' S' N' -> Gm.gain U n (Gm.yOf C (Gm.shM U R C)) (R.headD 0) * S' <= N' * Gm.smM U R C := by
 intro y' S' N' P
 obtain ⟨R1, C1, g1, k1, h1⟩ := Gm.complete P g.m4 g.n4
 have hS : 0 < Gm.smM U R C := Gm.sgn_pos hk.ne
 have hS1 : 0 < Gm.smM U R1 C1 := Gm.sgn_pos k1.ne
 have h2 := Iv hS hS1 (hmin _ (hC.all R1 C1 g1 k1))
 have a1 := Int.mul_le_mul_of_nonneg_right h2 (Int.le_of_lt P.pos)
 have a2 := Int.mul_le_mul_of_nonneg_right h1 (Int.le_of_lt hS)
 generalize Gm.gain U n (Gm.yOf C (Gm.shM U R C)) (R.headD 0) = N at *
 generalize Gm.gain U n (Gm.yOf C1 (Gm.shM U R1 C1)) (R1.headD 0) = N1 at *
 generalize Gm.smM U R C = SS at *
 generalize Gm.smM U R1 C1 = S1 at *
 have a3 : N * S' * S1 <= N' * SS * S1 := by grind
 exact Int.le_of_mul_le_mul_right a3 hS1
theorem sO {U : List (List Int)} {m n : Nat} (g : Gd U m n) {R C : List Nat} (g2 : Gm.Good2 m n R C) (hk : Gm.Corner U m n R C) : 0 < (bW U n R C).2.2 /\ Sz 1000 (bW U n R C).2.1 /\ Sz 1000 (bW U n R C).2.2 /\ Sz 900 (bW U n R C).2.1 /\ Sz 900 (bW U n R C).2.2 := by
 have hS : 0 < Gm.smM U R C := Gm.sgn_pos hk.ne
 obtain ⟨_, _, w3⟩ := j6 g g2 hk.ne hk.pos
 have hr := (g.row g2.r0m).1
 have e : (bW U n R C).2 = aW (U.getD (R.headD 0) []) (mks (wsM U n R C) (Gm.smM U R C)) := by
  rw [nP hS (g.sz hr) w3]
  show Fr.mk _ _ = Fr.mk _ _
  congr 1
  exact (gJ g g2.r0m _).symm
 rw [e]
 exact ⟨(pU (g.sz hr) w3).pos, (dD (g.sz hr) w3).mono (by decide), (dF (g.sz hr) w3).mono (by decide), dD (g.sz hr) w3, dF (g.sz hr) w3⟩
structure SolM (U : List (List Int)) (m n : Nat) (N S : Int) (ys : List Int) (X : Int) (xs : List Int) : Prop where
 pos : 0 < S
 posx : 0 < X
 gy : GQ (mks ys S)
 gx : GQ (mks xs X)
 ly : ys.length = n
 lx : xs.length = m
 ny : ∀ x ∈ ys, 0 <= x
 nx : ∀ x ∈ xs, 0 <= x
 sy : ys.sum = S
 sx : xs.sum = X
 rows : ∀ r ∈ U, Fr.dot r ys <= N
 cls : ∀ c ∈ cols U n, N * X <= Fr.dot c xs * S
 z1 : Sz 1000 (Fr.mk N S).1
 z2 : Sz 1000 (Fr.mk N S).2
 pt : ∃ y, Gm.Pt (Gm.cell U) m n y S N
 min : ∀ y' S' N', Gm.Pt (Gm.cell U) m n y' S' N' -> N * S' <= N' * S
 w1 : Sz 900 (Fr.mk N S).1
 w2 : Sz 900 (Fr.mk N S).2
theorem SolM.value {U : List (List Int)} {m n : Nat} {N S X N' S' X' : Int} {ys xs ys' xs' : List Int} (h : SolM U m n N S ys X xs) (h' : SolM U m n N' S' ys' X' xs') : Fr.mk N S = Fr.mk N' S' := by
 obtain ⟨y, p⟩ := h.pt
 obtain ⟨y', p'⟩ := h'.pt
 have a1 := h.min _ _ _ p'
 have a2 := h'.min _ _ _ p
 exact Fr.mk_cross h.pos h'.pos (by omega)
theorem Jq {U : List (List Int)} {m n : Nat} (g : Gd U m n) {Ls Ls' : List du} (hC : Cors U m n Ls) (hC' : Cors (trn U n) n m Ls') {R C R' C' : List Nat} (g2 : Gm.Good2 m n R C) (hk : Gm.Corner U m n R C) (hmin : ∀ q' ∈ Ls, leQ (bW U n R C).2 q'.2)
  (g2' : Gm.Good2 n m R' C') (hk' : Gm.Corner (trn U n) n m R' C') (hmin' : ∀ q' ∈ Ls', leQ (bW (trn U n) m R' C').2 q'.2) :
  SolM U m n (Gm.gain U n (Gm.yOf C (Gm.shM U R C)) (R.headD 0)) (Gm.smM U R C) (wsM U n R C) (Gm.smM (trn U n) R' C') (wsM (trn U n) m R' C') := by
 have gV := yq g
 have hS : 0 < Gm.smM U R C := Gm.sgn_pos hk.ne
 have hX : 0 < Gm.smM (trn U n) R' C' := Gm.sgn_pos hk'.ne
 obtain ⟨a1, a2, a3⟩ := j6 g g2 hk.ne hk.pos
 obtain ⟨b1, b2, b3⟩ := j6 gV g2' hk'.ne hk'.pos
 have P := Gm.corner_pt g2 g.n4 hk
 have P' := Gm.corner_pt g2' g.m4 hk'
 have m1 := Be g hC g2 hk hmin
 have m2 := Be gV hC' g2' hk' hmin'
 have hb : ∀ i j, i < m -> j < n -> Gm.cell (trn U n) j i = - Gm.cell U i j := fun i j hi hj => G_ g hj hi
 have mt := Gm.meet (a := Gm.cell U) (b := Gm.cell (trn U n)) g.n1 g.m1 hb P m1 P' m2
 have z := sO g g2 hk
 refine ⟨hS, hX, a3, b3, mF .., mF .., a1, b1, a2, b2, fun r hr => ?_, fun c hc => ?_, z.2.1, z.2.2.1, ⟨_, P⟩, m1, z.2.2.2.1, z.2.2.2.2⟩
 ·obtain ⟨i, hi, rfl⟩ := v7 hr
  rw [g.rows] at hi
  have := hk.le i hi
  rw [<- gJ g hi] at this
  exact this
 ·
  have hc0 := hc
  unfold cols at hc
  obtain ⟨j, hj, rfl⟩ := List.mem_map.mp hc
  have hj := List.mem_range.mp hj
  have h1 := hk'.le j hj
  have e1 : Gm.gain (trn U n) m (Gm.yOf C' (Gm.shM (trn U n) R' C')) j = - Fr.dot (U.map fun r => r.getD j 0) (wsM (trn U n) m R' C') := by
   unfold wsM
   rw [Dz m _ _ (by rw [List.length_map, g.rows])]
   have : (Gm.sm m fun i => (U.map fun r => r.getD j 0).getD i 0 * Gm.yOf C' (Gm.shM (trn U n) R' C') i) = -1 * Gm.gain (trn U n) m (Gm.yOf C' (Gm.shM (trn U n) R' C')) j := by
    unfold Gm.gain
    rw [<- Gm.sm_mul]
    refine Gm.sm_congr fun i hi => ?_
    rw [hb i j hi hj, map_getD (fun r => r.getD j 0) U 0 (by rw [g.rows]; exact hi)]
    show Gm.cell U i j * _ = _
    grind
   rw [this]; omega
  rw [e1] at h1
  generalize Fr.dot (U.map fun r => r.getD j 0) (wsM (trn U n) m R' C') = d at *
  generalize Gm.gain (trn U n) m (Gm.yOf C' (Gm.shM (trn U n) R' C')) (R'.headD 0) = N' at *
  generalize Gm.gain U n (Gm.yOf C (Gm.shM U R C)) (R.headD 0) = N at *
  have h2 := Int.mul_le_mul_of_nonneg_right h1 (Int.le_of_lt hS)
  grind
def pJ (C : Addr) : Sp := fun vs H Q _ => ∃ (a : Addr) (U : List (List Int)) (m n : Nat), vs = [.ref a] /\ IsTab H a U /\ Gd U m n /\
 ∀ p dx u l1 l2 H' N S ys X xs, Same H H' -> H p = none -> H l1 = none -> H l2 = none -> l1 ≠ l2 -> H' p = some (.ins C dx (gH u l1 l2)) -> H' u = some (.tup [.int (Fr.mk N S).1, .int (Fr.mk N S).2]) -> IsFrs H' l1 (mks xs X) -> IsFrs H' l2 (mks ys S) -> SolM U m n N S ys X xs -> Q (.ref p) H'
abbrev qK : Stmt := top 53
theorem Dg : FnScope ["table", "theirs", "mine"] ["table"] (aH qK) := ⟨rfl, rfl, rfl, by decide +kernel, rfl, by decide +kernel, by decide +kernel⟩
theorem D_ {CS : Addr} (F : FunM K mg "evened" qK ["table"]) (T : Blt mg) (C_Solved : Cl K mg "Solved" ["value", "mine", "theirs"] [] CS) (mX : Def P w K mg base "lowest" ["corners"] 2 vW) (dM : Def P w K mg base "corners_of" ["table"] 9 u9)
  (gk : Def P w K mg base "from_other_side" ["table"] 3 Bo) (d_ : DefC P w K mg base CS "__init__" ["self", "value", "mine", "theirs"] 1 (qQ CS)) : Def P w K mg base "evened" ["table"] 10 (pJ CS) := by
 have S := Dg
 refine Def.of F S (fun vs H Q E h => ?_) (fun f cdv A outer s H vs Q E hr h => ?_)
 ·obtain ⟨a, U, m, n, rfl, _⟩ := h
  rfl
 ·obtain ⟨a, U, m, n, rfl, hU, g, k⟩ := h
  have gV := yq g
  have some1 : ∀ {V : List (List Int)} {m n : Nat} {Ls : List du}, Gd V m n -> Cors V m n Ls -> Ls ≠ [] := by
   intro V m n Ls gv hc
   obtain ⟨y, S0, N0, P0⟩ := Dy (Gm.cell V) gv.m1 gv.n1
   obtain ⟨R1, C1, g1, k1, _⟩ := Gm.complete P0 gv.m4 gv.n4
   exact List.ne_nil_of_mem (hc.all R1 C1 g1 k1)
  have szs : ∀ {V : List (List Int)} {m n : Nat} {Ls : List du}, Gd V m n -> Cors V m n Ls -> ∀ q ∈ Ls, 0 < q.2.2 /\ Sz 1000 q.2.1 /\ Sz 1000 q.2.2 := by
   intro V m n Ls gv hc q hq
   obtain ⟨R1, C1, g1, k1, rfl⟩ := hc.of q hq
   exact ⟨(sO gv g1 k1).1, (sO gv g1 k1).2.1, (sO gv g1 k1).2.2.1⟩
  refine ⟨_, (aB (aY (i := 1) S.nd rfl (Or.inl rfl) (aD mX (hr.mono (by decide)) rfl (aa (aD dM (hr.mono (by decide)) rfl (aa (pv 0) ak aj) (he := aj)) ak aN) (he := aN)))
   (aB (aY (i := 2) S.nd rfl (Or.inl rfl) (aD mX (hr.mono (by decide)) rfl (aa (aD dM (hr.mono (by decide)) rfl (aa (aD gk (hr.mono (by decide)) rfl (aa (pv 0) ak aj) (he := aj)) ak aN) (he := aN)) ak aN) (he := aN)))
   (aC (aM (iU d_ C_Solved (hr.mono (by decide)) rfl (aa (aQ (ixT K) (pv 1) aA (fun _ _ => rfl)) (aa (aQ (ixT K) (pv 2) aA (fun _ _ => rfl)) (aa (aQ (ixT K) (pv 1) aA (fun _ _ => rfl)) ak aF) aF) aF) (he := aF)))))), ?_⟩
  refine ⟨_, rfl, a, U, m, n, rfl, hU, g, fun l zs Ls H1 s1 hl pz hC _ => ?_⟩
  refine ⟨l, l, zs, Ls, rfl, hl, pz, some1 g hC, szs g hC, fun v q hq hcor hmin => ?_⟩
  refine ⟨_, rfl, a, U, m, n, rfl, hU.mono s1, g, fun pv H2 s2 own => ?_⟩
  refine ⟨pv, _, n, m, rfl, own.tab, gV, fun l' zs' Ls' H3 s3 hl' pz' hC' _ => ?_⟩
  refine ⟨l', l', zs', Ls', rfl, hl', pz', some1 gV hC', szs gV hC', fun v' q' hq' hcor' hmin' => ?_⟩
  have s23 := s2.trans s3
  have s13 := s1.trans s23
  obtain ⟨R, C, g2, hk, rfl⟩ := hC.of q hq
  obtain ⟨R', C', g2', hk', rfl⟩ := hC'.of q' hq'
  obtain ⟨t, kk, u, rfl, t1, _, hF, t2⟩ := hcor.mono s23
  obtain ⟨t', kk', u', rfl, t1', _, hF', _⟩ := hcor'
  obtain ⟨vs1, e1, pr1⟩ := id hF
  obtain ⟨vs2, e2, pr2⟩ := id hF'
  refine ⟨_, rfl, t, _, 1, _, rfl, rfl, SqT.of t1, rfl, ?_⟩
  refine ⟨_, rfl, t', _, 0, _, rfl, rfl, SqT.of t1', rfl, ?_⟩
  refine ⟨_, rfl, t, _, 0, _, rfl, rfl, SqT.of t1, rfl, ?_⟩
  intro x dx nx ndx nex
  have sm0 : Same H3 (upd (upd H3 dx (.own x)) x (.ins CS dx [])) := fun c o e => by
   rw [aJ (aV e nx), aJ (aV e ndx)]
   exact e
  refine ⟨x, dx, u, kk', kk, vs2, vs1, rfl, aq, sm0 _ _ e2, sm0 _ _ e1, fun l1 l2 HU n1' n2' n12 hl1 hl2 hins kp => ⟨rfl, ?_⟩⟩
  have sU : Same H3 HU := fun c o e => kp c o (sm0 c o e) (aV e nx)
  have sm1 := s13.trans sm0
  exact k x dx u l1 l2 HU _ _ _ _ _ (s13.trans sU) (s13.free nx) (sm1.free n1') (sm1.free n2') n12 hins (sU _ _ t2) ⟨vs2, hl1, pr2.imp2 fun _ _ z => z.mono sU⟩ ⟨vs1, hl2, pr1.imp2 fun _ _ z => z.mono sU⟩ (Jq g hC hC' g2 hk hmin g2' hk' hmin')
def wj (C : Addr) : Sp := fun vs H Q E => (∃ (a : Addr) (U : List (List Int)) (m n : Nat), vs = [.ref a] /\ Good U m n /\ IsTab H a U) /\ pJ C vs H Q E
abbrev qG : Stmt := top 54
theorem Ec : FnScope ["table"] ["table"] (aH qG) := ⟨rfl, rfl, rfl, by decide +kernel, rfl, by decide +kernel, by decide +kernel⟩
theorem Fe {CS : Addr} (F : FunM K mg "solved" qG ["table"]) (T : Blt mg) (dj : Def P w K mg base "check_table" ["thing"] 4 rD) (rm : Def P w K mg base "evened" ["table"] 10 (pJ CS)) : Def P w K mg base "solved" ["table"] 11 (wj CS) := by
 have S := Ec
 refine Def.of F S (fun vs H Q E h => ?_) (fun f cdv A outer s H vs Q E hr h => ?_)
 ·obtain ⟨⟨a, U, m, n, rfl, _⟩, _⟩ := h
  rfl
 ·obtain ⟨⟨a, U, m, n, rfl, gG, hU⟩, a', U', m', n', e, hU', g, k⟩ := h
  cases e
  refine ⟨_, (aB (cN (aD dj (hr.mono (by decide)) rfl (aa (pv 0) ak aj) (he := aj)))
   (aC (aM (aD rm (hr.mono (by decide)) rfl (aa (pv 0) ak aj) (he := aj))))), ?_⟩
  refine ⟨_, rfl, a, U, m, n, rfl, hU, gG, fun H1 s1 => ?_⟩
  exact ⟨_, rfl, a, U', m', n', rfl, hU'.mono s1, g, fun p dx u l1 l2 H' N S ys X xs s' b1 b2 b3 b4 b5 b6 b7 b8 b9 => k p dx u l1 l2 H' N S ys X xs (s1.trans s') (s1.free b1) (s1.free b2) (s1.free b3) b4 b5 b6 b7 b8 b9⟩
def iC : Sp := l_
abbrev lB : Stmt := top 63
theorem xY : FnScope ["_law_a", "_law_b", "_law_far"] ["_law_a", "_law_b"] (aH lB) := ⟨rfl, rfl, rfl, by decide +kernel, rfl, by decide +kernel, by decide +kernel⟩
theorem xZ (F : FunM K mg "_law_made" lB ["_law_a", "_law_b"]) (T : Blt mg) (jz : Def P w K mg base "_law_common" ["_law_one", "_law_other"] 1 vP) : Def P w K mg base "_law_made" ["_law_a", "_law_b"] 2 iC := by
 have S := xY
 refine Def.of F S (fun vs H Q E h => ?_) (fun f cdv A outer s H vs Q E hr h => ?_)
 ·obtain ⟨a, b, rfl, _⟩ := h
  rfl
 ·obtain ⟨a, b, rfl, hb, hb2, k⟩ := h
  have g1 := Fr.gcd_pos (a := a) hb
  have g2 := Fr.gcd_le (a := a) hb
  have g3 : Sz 8000 (Int.gcd a b : Int) := by
   have h8 := hb2.mono (show 4000 <= 8000 by decide)
   unfold Sz at h8 ⊢
   exact Nat.lt_of_le_of_lt (by omega) h8
  have e : (Int.gcd (if a < 0 then -a else a) b : Int) = (Int.gcd a b : Int) := by
   have e1 : (if a < 0 then -a else a) = (a.natAbs : Int) := by split <;> omega
   rw [e1]
   simp [Int.gcd]
  refine ⟨_, (aB (aY (i := 2) S.nd rfl (Or.inl rfl) (aD jz (hr.mono (by decide)) rfl (aa (aK q_ (by rfl) T.abs_ xj (aa (pv 0) ak aj) (he := aj)) (aa (pv 1) ak aj) aN) (he := aN)))
   (aC (aM (bH (aa (aX mV (pv 0) (pv 2)) (aa (aX mV (pv 1) (pv 2)) ak bz) bz))))), ?_⟩
  refine ⟨_, rfl, _, rfl, _, rfl, _, _, rfl, by split <;> omega, by omega, ?_⟩
  rw [e]
  exact ⟨_, rfl, _, rfl, _, _, rfl, rfl, oh g1 g3, _, rfl, _, rfl, _, _, rfl, rfl, oh g1 g3, (by show 2 <= sizeLine; decide), k⟩
abbrev lH : Stmt := top 65
theorem xH : FnScope ["_law_one", "_law_other"] ["_law_one", "_law_other"] (aH lH) := ⟨rfl, rfl, rfl, by decide +kernel, rfl, by decide +kernel, by decide +kernel⟩
theorem yP (F : FunM K mg "_law_less" lH ["_law_one", "_law_other"]) (T : Blt mg) : Def P w K mg base "_law_less" ["_law_one", "_law_other"] 1 (dm K) := by
 have S := xH
 refine Def.of F S (fun vs H Q E h => ?_) (fun f cdv A outer s H vs Q E hr h => ?_)
 ·obtain ⟨p, q, a, b, c, d, rfl, _⟩ := h
  rfl
 ·obtain ⟨p, q, a, b, c, d, rfl, h1, h2, za, zb, zc, zd, k⟩ := h
  refine ⟨_, (aC (aM (dJ nG (aX cF (aQ (ixT K) (pv 0) aA (fun _ _ => rfl)) (aQ (ixT K) (pv 1) aA (fun _ _ => rfl))) (aX cF (aQ (ixT K) (pv 1) aA (fun _ _ => rfl)) (aQ (ixT K) (pv 0) aA (fun _ _ => rfl))) (a_ _)))), ?_⟩
  refine ⟨_, rfl, _, _, _, _, rfl, rfl, h1, rfl, ?_⟩
  refine ⟨_, rfl, _, _, _, _, rfl, rfl, h2, rfl, _, _, rfl, rfl, ⟨up za, up zd⟩, ?_⟩
  refine ⟨_, rfl, _, _, _, _, rfl, rfl, h2, rfl, ?_⟩
  exact ⟨_, rfl, _, _, _, _, rfl, rfl, h1, rfl, _, _, rfl, rfl, ⟨up zc, up zb⟩, _, _, rfl, rfl, k⟩
def jY : Sp := fun vs H Q _ => ∃ (a b : Addr) (r : List Int) (qs : List (Int × Int)), vs = [.ref a, .ref b] /\ H a = some (.lst (r.map V.int)) /\ IsFrs H b qs /\ GQ qs /\ (∀ x ∈ r, Sz 9 x) /\ ∀ p H', New H H' p (.tup [.int (aW r qs).1, .int (aW r qs).2]) -> Q (.ref p) H'
abbrev nO : Stmt := top 64
theorem Ac : FnScope ["_law_worths", "_law_shares", "_law_over", "_law_under", "_law_worth", "_law_share"] ["_law_worths", "_law_shares"] (aH nO) := ⟨rfl, rfl, rfl, by decide +kernel, rfl, by decide +kernel, by decide +kernel⟩
theorem zP (F : FunM K mg "_law_sum" nO ["_law_worths", "_law_shares"]) (T : Blt mg) (bO : Def P w K mg base "_law_made" ["_law_a", "_law_b"] 2 iC) : Def P w K mg base "_law_sum" ["_law_worths", "_law_shares"] 3 jY := by
 have S := Ac
 refine Def.of F S (fun vs H Q E h => ?_) (fun f cdv A outer s H vs Q E hr h => ?_)
 ·obtain ⟨a, b, r, qs, rfl, _⟩ := h
  rfl
 ·obtain ⟨a, b, r, qs, rfl, ha, hB, g, hb, k⟩ := h
  obtain ⟨ys, hbb, pb⟩ := id hB
  have gz := je hb g
  have zl := tU r g
  refine ⟨_, (aB (tX (bH (aa aA (aa aA ak aG) aG)) (pgT K (n := 2) (bC (aP (i := 2) S.nd rfl (Or.inl rfl)) (bC (aP (i := 3) S.nd rfl (Or.inl rfl)) dY))))
   (aB (cJ PassesOwn.never rfl (pY K rfl T.zip_ (aa (pv 0) (aa (pv 1) ak aj) aj)) (pgT K (n := 2) (bC (aP (i := 4) S.nd rfl (Or.inl rfl)) (bC (aP (i := 5) S.nd rfl (Or.inl rfl)) dY)))
    (aB (aY (i := 2) S.nd rfl (Or.inl rfl) (aX cU (aX cF (pv 2) (aQ (ixT K) (pv 5) aA (fun _ _ => rfl))) (aX cF (aX cF (pv 4) (aQ (ixT K) (pv 5) aA (fun _ _ => rfl))) (pv 3))))
   (aC (aY (i := 3) S.nd rfl (Or.inl rfl) (aX cF (pv 3) (aQ (ixT K) (pv 5) aA (fun _ _ => rfl)))))))
   (aC (aM (aD bO (hr.mono (by decide)) rfl (aa (pv 2) (aa (pv 3) ak aj) aj) (he := aj)))))), ?_⟩
  refine ⟨(by show 2 <= sizeLine; decide), fun t ht => ⟨t, _, rfl, SqT.of aq, rfl, _, _, rfl, _, _, rfl, rfl, ?_⟩⟩
  have s0 : Same H (upd H t (.tup [.int 0, .int 1])) := ao ht
  refine ⟨_, rfl, _, rfl, a, b, rfl, ⟨_, SqL.of (s0 _ _ ha)⟩, ⟨_, SqL.of (s0 _ _ hbb)⟩, uK (K := K) (a := a) (b := b) (xs := r.map V.int) (ys := ys) (fun i σ H' => ∃ (o1 o2 : Option V), σ = [some (.ref a), some (.ref b), some (.int (acc ((r.zip qs).take i)).1), some (.int (acc ((r.zip qs).take i)).2), o1, o2] /\ Same H H')
    ⟨_, _, rfl, s0⟩ ?_ ?_ ?_⟩
  ·rintro i σ H' ⟨_, _, _, s1⟩
   exact ⟨SqL.of (s1 _ _ ha), SqL.of (s1 _ _ hbb)⟩
  ·rintro i x y p σ H' hx hy hp ⟨o1, o2, rfl, s1⟩
   obtain ⟨f2, e2, c2, rfl, h2⟩ := pb.get2 hy
   rw [List.getElem?_map] at hx
   obtain ⟨u, hu, rfl⟩ := Option.map_eq_some_iff.mp hx
   have mq := List.mem_of_getElem? e2
   have ez : (r.zip qs)[i]? = some (u, f2) := List.getElem?_zip_eq_some.mpr ⟨hu, e2⟩
   have gt := gz.take i
   have lt : ((r.zip qs).take i).length <= 8 := by rw [List.length_take]; omega
   have za := uo gt lt
   have zd := oG gt lt
   have zu := hb u (List.mem_of_getElem? hu)
   have z1 := g.s1 _ mq
   have z2 := g.s2 _ mq
   have s2 := s1.trans (ao (o := .tup [.int u, .ref c2]) hp)
   have h2' := s2 _ _ h2
   refine ⟨p, _, rfl, SqT.of aq, rfl, _, _, rfl, _, _, rfl, rfl, ?_⟩
   refine ⟨_, rfl, _, rfl, _, _, _, _, rfl, rfl, SqT.of h2', rfl, _, _, rfl, rfl, ⟨up za, up z2⟩, ?_⟩
   refine ⟨_, rfl, _, rfl, _, _, _, _, rfl, rfl, SqT.of h2', rfl, _, _, rfl, rfl, ⟨up zu, up z1⟩, _, rfl, _, _, rfl, rfl, ⟨(zu.mul z1).mono (by decide), up zd⟩, _, _, rfl, rfl, ?_⟩
   refine ⟨_, rfl, _, rfl, _, _, _, _, rfl, rfl, SqT.of h2', rfl, _, _, rfl, rfl, ⟨up zd, up z2⟩, ?_⟩
   refine ⟨some (.int u), some (.ref c2), ?_, s2⟩
   rw [rJ ez]
   rfl
  ·rintro σ H' ⟨o1, o2, rfl, s1⟩
   have l1 : (r.zip qs).take (min (r.map V.int).length ys.length) = r.zip qs := List.take_of_length_le (by rw [List.length_zip, pb.length, List.length_map]; exact Nat.le_refl _)
   rw [l1]
   exact ⟨_, rfl, _, rfl, _, _, rfl, gO gz, (oG gz zl).mono (by decide), fun p hp => k p _ (New.of s1 hp)⟩
abbrev jE : Stmt := top 66
theorem uI : FnScope ["_law_table_here"] ["_law_table_here"] (aH jE) := ⟨rfl, rfl, rfl, by decide +kernel, rfl, by decide +kernel, by decide +kernel⟩
theorem uX (F : FunM K mg "_law_across" jE ["_law_table_here"]) (T : Blt mg) : Def P w K mg base "_law_across" ["_law_table_here"] 1 eZ := by
 have S := uI
 refine Def.of F S (fun vs H Q E h => ?_) (fun f cdv A outer s H vs Q E hr h => ?_)
 ·obtain ⟨a, U, m, n, rfl, _⟩ := h
  rfl
 ·obtain ⟨a, U, m, n, rfl, hU, g, k⟩ := h
  have n4 := g.n4
  have m4 := g.m4
  obtain ⟨vs, b0, ha, h0, at0, hb0⟩ := hU.row (i := 0) (by rw [g.rows]; exact g.m1)
  have hl : ((U.getD 0 []).map V.int).length = n := by rw [List.length_map, (g.row g.m1).2]
  refine ⟨_, (aC (aM (bj rfl (N' := ["_law_column", "_law_table_here"]) (src := [none, some 0]) rfl (cO rfl T.range_ (aa (aK (bU K) (by rfl) T.len_ bx (aa (aQ (ixL K) (pv 0) aA (fun _ _ => rfl)) ak aF) (he := aF)) ak aN)) (fun _ _ _ _ _ => (aP (i := 0) (show (["_law_column", "_law_table_here"] : List Str).Nodup from by decide +kernel) rfl (Or.inr rfl))) (fun _ _ _ _ _ => bf) (fun _ _ _ _ _ => (bj rfl (N' := ["_law_row", "_law_column"]) (src := [none, some 0]) rfl (piL K (pv 1)) (fun _ _ _ _ _ => (aP (i := 0) (show (["_law_row", "_law_column"] : List Str).Nodup from by decide +kernel) rfl (Or.inl rfl))) (fun _ _ _ _ _ => bf) (fun _ _ _ _ _ => (aQ (ixL K) (pv 0) (pv 1) (fun _ _ => rfl)))))))), ?_⟩
  refine ⟨_, rfl, a, vs, 0, _, rfl, rfl, SqL.of ha, at0, b0, _, rfl, .inl (SqL.of hb0), _, rfl, by omega, by omega, dz (n := ((U.getD 0 []).map V.int).length) (fun (i : Nat) y H' => OwnRow H H' y (U.map fun (r : List Int) => r.getD i 0)) (fun _ _ _ _ s h => h.mono s) (Nat.le_of_lt (aO (by omega))) ?_ ?_⟩
  ·intro i hi H1 s1 Q' q
   obtain ⟨vs1, ha1, _⟩ := hU.mono s1
   refine ⟨_, rfl, a, rfl, ⟨_, SqL.of ha1⟩, vJ (fun r => r.getD i 0) (hU.mono s1) (by rw [g.rows]; omega) ?_ ?_⟩
   ·intro r hr' b hb H2 s2 Q2 q2
    exact ⟨_, rfl, _, rfl, b, _, _, _, rfl, rfl, SqL.of (s2 _ _ hb), iV (by rw [g.cols r hr', <- hl]; exact hi), q2 H2 (Same.refl _)⟩
   ·intro H2 s2 l hl'
    exact q _ _ (s2.trans (ao hl')) ⟨l, rfl, (s1.trans s2).free hl', aq⟩
  ·intro ys H' s' pr p hp'
   rw [hl] at pr
   exact k p _ (s'.trans (ao hp')) (OwnTab.lay s' hp' (pP _ pr))
abbrev iJ : Stmt := top 67
theorem tZ : FnScope ["_law_mixture_here", "_law_many", "_law_share"] ["_law_mixture_here", "_law_many"] (aH iJ) := ⟨rfl, rfl, rfl, by decide +kernel, rfl, by decide +kernel, by decide +kernel⟩
theorem tH (F : FunM K mg "_law_mixture" iJ ["_law_mixture_here", "_law_many"]) (T : Blt mg) (bO : Def P w K mg base "_law_made" ["_law_a", "_law_b"] 2 iC) (bM : Def P w K mg base "_law_sum" ["_law_worths", "_law_shares"] 3 jY) : Def P w K mg base "_law_mixture" ["_law_mixture_here", "_law_many"] 4 g8 := by
 have S := tZ
 refine Def.of F S (fun vs H Q E h => ?_) (fun f cdv A outer s H vs Q E hr h => ?_)
 ·obtain ⟨a, qs, n, rfl, _⟩ := h
  rfl
 ·obtain ⟨a, qs, n, rfl, hW, g, k⟩ := h
  obtain ⟨vs, ha, pr⟩ := id hW
  have hl : vs.length = qs.length := pr.length
  have n8 := g.len
  refine ⟨_, (aB (bu (PW.pt (cR (bJ (bA (aK (jG K) (by rfl) T.isinstance_ bR (aa (pv 0) (aa (dU (v := .ty "list") rfl T.list_ cD rfl) ak aj) aj) (he := aj)))) (cH (bh pZ (aK (bU K) (by rfl) T.len_ bx (aa (pv 0) ak aj) (he := aj)) (pv 1) (a_ _)))))
    (aC (aM bQ)) aZ)
   (aB (cJ PassesOwn.never rfl (piL K (pv 0)) (aP (i := 2) S.nd rfl (Or.inl rfl))
    (aB (bu (PW.pt (cR (bJ (bA (aK (jG K) (by rfl) T.isinstance_ bR (aa (pv 2) (aa (dU (v := .ty "tuple") rfl T.tuple_ rE rfl) ak aj) aj) (he := aj)))) (cH (bh pZ (aK (bU K) (by rfl) T.len_ bx (aa (pv 2) ak aj) (he := aj)) aA (a_ _)))))
    (aC (aM bQ)) aZ)
   (aB (bu (bA (aK (pB K) (by rfl) T.any_ jh (aa (bj rfl (N' := ["_law_one"]) (src := [none]) rfl (piT K (pv 2)) (fun _ _ _ _ _ => (aP (i := 0) (show (["_law_one"] : List Str).Nodup from by decide +kernel) rfl (Or.inl rfl))) (fun _ _ _ _ _ => bf) (fun _ _ _ _ _ => (J0 (aK (jG K) (by rfl) T.isinstance_ bR (aa (pv 0) (aa (dU (v := .ty "bool") rfl T.bool_ vz rfl) ak aj) aj) (he := aj)) (gR (lW (aK (jG K) (by rfl) T.isinstance_ bR (aa (pv 0) (aa (dU (v := .ty "int") rfl T.int_ ye rfl) ak aj) aj) (he := aj))))))) ak aU) (he := aU)))
    (aC (aM bQ)) aZ)
   (aC (bu (PW.pt (cR (bh nG (aQ (ixT K) (pv 2) aA (fun _ _ => rfl)) aA (a_ _)) (cR (bh nG (aQ (ixT K) (pv 2) aA (fun _ _ => rfl)) aA (a_ _)) (cH (bh (jM K hr.units) (aD bO (hr.mono (by decide)) rfl (aa (aQ (ixT K) (pv 2) aA (fun _ _ => rfl)) (aa (aQ (ixT K) (pv 2) aA (fun _ _ => rfl)) ak aF) aF) (he := aF)) (pv 2) (a_ _))))))
    (aC (aM bQ)) aZ)))))
   (aC (aM (dJ (Bx K hr.units) (aD bM (hr.mono (by decide)) rfl (aa (bj rfl (N' := ["_law_share"]) (src := [none]) rfl (piL K (pv 0)) (fun _ _ _ _ _ => (aP (i := 0) (show (["_law_share"] : List Str).Nodup from by decide +kernel) rfl (Or.inl rfl))) (fun _ _ _ _ _ => bf) (fun _ _ _ _ _ => aA)) (aa (pv 0) ak aj) aU) (he := aU)) (bH (aa aA (aa aA ak aG) aG)) (a_ _)))))), ?_⟩
  refine ⟨_, rfl, _, _, _, _, rfl, TyOf.lst ha, rfl, _, rfl, ?_⟩
  refine bK ?_
  refine ⟨_, rfl, a, _, rfl, .inl (SqL.of ha), _, rfl, rfl, _, rfl, ?_⟩
  by_cases hn : qs.length = n
  rotate_left
  ·refine ifP ?_ ?_
   ·rw [fZ, hl, decide_eq_false hn]; rfl
   ·have e : bT qs n = false := by unfold bT; rw [decide_eq_false hn]; rfl
    rw [e] at k
    exact k H (Same.refl _)
  refine ifN (by rw [fZ, hl, decide_eq_true hn]; decide) ?_
  refine ⟨_, rfl, a, rfl, ⟨_, SqL.of ha⟩, dO (K := K) (a := a) (xs := vs) (fun i σ H' => ∃ o, σ = [some (.ref a), some (.int n), o] /\ Same H H' /\ ∀ q ∈ qs.take i, 0 <= q.1)
   ⟨_, rfl, Same.refl _, fun q h => by simp at h⟩ ?_ ?_ ?_⟩
  ·rintro i σ H' _ ⟨_, _, s3, _⟩
   exact SqL.of (s3 _ _ ha)
  ·rintro i x σ H1 hi ⟨o, rfl, s1, hnn⟩
   obtain ⟨y, hy, b, rfl, hb⟩ := pr.get2 hi
   have my := List.mem_of_getElem? hy
   have py := g.pr y my
   have hb1 := s1 _ _ hb
   have et : qs.take (i + 1) = qs.take i ++ [y] := by rw [List.take_add_one, hy]; rfl
   refine ⟨_, rfl, _, _, _, _, rfl, TyOf.tup hb1, rfl, _, rfl, ?_⟩
   refine bK ?_
   refine ⟨_, rfl, b, _, rfl, .inr (SqT.of hb1), rfl, _, rfl, ?_⟩
   refine bK ?_
   refine ⟨_, rfl, b, rfl, ⟨_, SqT.of hb1⟩, Ad (xs := [.int y.1, .int y.2]) (fun _ z _ => z = .bl false) (fun _ _ _ _ _ h => h) (SqT.of hb1) (by show 2 <= sizeLine; decide) ?_ ?_⟩
   ·intro x hx H2 s2 Q' q
    obtain ⟨z, rfl⟩ : ∃ z, x = V.int z := by
     rcases List.mem_cons.mp hx with e | e
     ·exact ⟨_, e⟩
     ·exact ⟨_, List.mem_singleton.mp e⟩
    refine ⟨_, rfl, _, _, _, _, rfl, TyOf.int z, rfl, _, rfl, ?_⟩
    refine bK ?_
    exact ⟨_, rfl, _, _, _, _, rfl, TyOf.int z, rfl, _, rfl, q _ H2 (Same.refl _) rfl⟩
   intro ysC H2 s2 prC q9 hq9
   have e := tK prC
   subst e
   refine ⟨q9, _, rfl, SqL.of aq, ?_⟩
   rw [FN]
   refine ⟨_, rfl, ?_⟩
   refine bK ?_
   have s3 : Same H (upd H2 q9 (.lst ((List.replicate ([V.int y.1, V.int y.2] : List V).length false).map V.bl))) := (s1.trans s2).trans (ao hq9)
   generalize upd H2 q9 (.lst ((List.replicate ([V.int y.1, V.int y.2] : List V).length false).map V.bl)) = H3 at s3 ⊢
   have hb3 := s3 _ _ hb
   refine ⟨_, rfl, b, _, 0, _, rfl, rfl, SqT.of hb3, rfl, _, _, rfl, rfl, _, rfl, ?_⟩
   by_cases hneg : y.1 < 0
   ·refine ifP (decide_eq_true hneg) ?_
    have e : bT qs n = false := by
     unfold bT
     have : (qs.all fun q => decide (0 <= q.1)) = false := by
      rw [List.all_eq_false]
      exact ⟨y, my, by simp; omega⟩
     rw [this, Bool.and_false, Bool.false_and]
    rw [e] at k
    exact k H3 s3
   refine ifN (by simpa using hneg) ?_
   refine ⟨_, rfl, b, _, 1, _, rfl, rfl, SqT.of hb3, rfl, _, _, rfl, rfl, _, rfl, ?_⟩
   have y0 := py.pos
   refine ifN (by simp; omega) ?_
   refine ⟨_, rfl, b, _, 0, _, rfl, rfl, SqT.of hb3, rfl, _, rfl, b, _, 1, _, rfl, rfl, SqT.of hb3, rfl, _, _, rfl, y0, (g.s2 y my).mono (by decide), fun r hr' => ?_⟩
   refine ⟨_, rfl, _, _, bV aq, bV (ao hr' _ _ hb3), rfl, (by show 1 <= 40; decide), _, rfl, ?_⟩
   refine jU ?_ ?_
   ·rw [fO, py.mk_eq]
    exact decide_eq_true rfl
   ·refine ⟨_, rfl, s3.trans (ao hr'), fun q hq => ?_⟩
    rw [et] at hq
    rcases List.mem_append.mp hq with h | h
    ·exact hnn q h
    ·rw [List.mem_singleton.mp h]; omega
  ·rintro σ H1 ⟨o, rfl, s1, hnn⟩
   rw [hl, List.take_length] at hnn
   have ha1 := s1 _ _ ha
   refine ⟨_, rfl, a, rfl, ⟨_, SqL.of ha1⟩, bw (xs := vs) (fun _ y _ => y = .int 1) (fun _ _ _ _ _ h => h) (SqL.of ha1) (by rw [hl]; exact Nat.le_of_lt (aO (by omega))) ?_ ?_⟩
   ·intro x hx H2 s2 Q' q
    exact q _ H2 (Same.refl _) rfl
   intro ys H2 s2 p1 q hq
   have e : ys = (qs.map fun _ => (1 : Int)).map V.int := by
    have go : ∀ {vs ys : List V} {qs : List (Int × Int)}, Paired (fun _ y => y = V.int 1) vs ys -> vs.length = qs.length -> ys = (qs.map fun _ => (1 : Int)).map V.int := by
     intro vs
     induction vs with
     | nil =>
      intro ys qs h e
      cases h
      have := List.eq_nil_of_length_eq_zero e.symm
      subst this
      rfl
     | cons v vs ih =>
      intro ys qs h e
      cases h with
      | cons h t =>
       cases qs with
       | nil => simp at e
       | cons q qs =>
        rw [h, ih t (by simpa using e)]
        rfl
    exact go p1 hl
   subst e
   have s3 : Same H (upd H2 q (.lst ((qs.map fun _ => (1 : Int)).map V.int))) := (s1.trans s2).trans (ao hq)
   have q3 : upd H2 q (.lst ((qs.map fun _ => (1 : Int)).map V.int)) q = some (.lst ((qs.map fun _ => (1 : Int)).map V.int)) := aq
   generalize upd H2 q (.lst ((qs.map fun _ => (1 : Int)).map V.int)) = H3 at s3 q3 ⊢
   refine ⟨_, rfl, q, a, _, qs, rfl, q3, hW.mono s3, g, fun x hx => ?_, fun p H4 nw => ?_⟩
   ·obtain ⟨_, _, rfl⟩ := List.mem_map.mp hx
    show (1 : Int).natAbs < 2 ^ 9
    decide
   ·refine ⟨(by show 2 <= sizeLine; decide), fun r hr' => ?_⟩
    refine ⟨_, _, bV (ao hr' _ _ nw.is), bV aq, rfl, (by show 1 <= 40; decide), ?_⟩
    rw [fO]
    have e : bT qs n = decide (((aW (qs.map fun _ => 1) qs).1, (aW (qs.map fun _ => 1) qs).2) = (1, 1)) := by
     unfold bT aW
     rw [rB, decide_eq_true hn]
     have : (qs.all fun q => decide (0 <= q.1)) = true := by
      rw [List.all_eq_true]
      exact fun q hq => decide_eq_true (hnn q hq)
     rw [this]
     rfl
    rw [e] at k
    exact k _ ((s3.trans nw.same).trans (ao hr'))
def oW : Sp := fun vs H Q _ => ∃ (a b c : Addr) (U : List (List Int)) (m n : Nat) (ps qs : List (Int × Int)), vs = [.ref a, .ref b, .ref c] /\ IsTab H a U /\ Gd U m n /\ IsFrs H b ps /\ GQ ps /\ IsFrs H c qs /\ GQ qs /\ ∀ H', Same H H' -> Q (.bl (bT ps m && bT qs n)) H'
abbrev iu : Stmt := top 42
theorem tM : FnScope ["table", "mine", "theirs"] ["table", "mine", "theirs"] (aH iu) := ⟨rfl, rfl, rfl, by decide +kernel, rfl, by decide +kernel, by decide +kernel⟩
theorem uq (F : FunM K mg "are_mixtures" iu ["table", "mine", "theirs"]) (T : Blt mg) (cA : Def P w K mg base "is_mixture" ["thing", "count"] 4 g8) : Def P w K mg base "are_mixtures" ["table", "mine", "theirs"] 5 oW := by
 have S := tM
 refine Def.of F S (fun vs H Q E h => ?_) (fun f cdv A outer s H vs Q E hr h => ?_)
 ·obtain ⟨a, b, c, U, m, n, ps, qs, rfl, _⟩ := h
  rfl
 ·obtain ⟨a, b, c, U, m, n, ps, qs, rfl, hU, g, hB, gb, hC, gc, k⟩ := h
  obtain ⟨vs, b0, ha, h0, at0, hb0⟩ := hU.row (i := 0) (by rw [g.rows]; exact g.m1)
  have hl : ((U.getD 0 []).map V.int).length = n := by rw [List.length_map, (g.row g.m1).2]
  have hm : vs.length = m := by
   obtain ⟨vs', ha', hp⟩ := id hU
   rw [ha] at ha'
   cases ha'
   rw [hp.length, g.rows]
  refine ⟨_, (aC (aM (jo (aD cA (hr.mono (by decide)) rfl (aa (pv 1) (aa (aK (bU K) (by rfl) T.len_ bx (aa (pv 0) ak aj) (he := aj)) ak aN) aj) (he := aj)) (gR (aD cA (hr.mono (by decide)) rfl (aa (pv 2) (aa (aK (bU K) (by rfl) T.len_ bx (aa (aQ (ixL K) (pv 0) aA (fun _ _ => rfl)) ak aF) (he := aF)) ak aN) aj) (he := aj)))))), ?_⟩
  refine ⟨_, rfl, _, rfl, a, vs, rfl, .inl (SqL.of ha), b, ps, vs.length, rfl, hB, gb, fun H2 s2 => ⟨_, rfl, ?_⟩⟩
  rw [hm]
  cases hx : bT ps m with
  | false =>
   refine bK ?_
   rw [hx] at k
   exact k H2 s2
  | true =>
   refine cX ?_
   rw [hx, Bool.true_and] at k
   refine ⟨_, rfl, _, rfl, a, vs, 0, _, rfl, rfl, SqL.of (s2 _ _ ha), at0, b0, _, rfl, .inl (SqL.of (s2 _ _ hb0)), c, qs, _, rfl, hC.mono s2, gc, fun H3 s3 => ?_⟩
   rw [hl]
   exact k H3 (s2.trans s3)
def ig (U : List (List Int)) (m n : Nat) (v : Int × Int) (ps qs : List (Int × Int)) : Bool := bT ps m && bT qs n && !((cols U n).any fun c => ltQ (aW c ps) v) && !(U.any fun r => ltQ v (aW r qs))
def v4 (C : Addr) : Sp := fun vs H Q _ => ∃ (p dx a u l1 l2 : Addr) (U : List (List Int)) (m n : Nat) (v : Int × Int) (ps qs : List (Int × Int)), vs = [.ref p, .ref a] /\ H p = some (.ins C dx (gH u l1 l2)) /\ H u = some (.tup [.int v.1, .int v.2]) /\ Pq v /\ Sz 1000 v.1 /\ Sz 1000 v.2 /\
 IsTab H a U /\ Gd U m n /\ IsFrs H l1 ps /\ GQ ps /\ IsFrs H l2 qs /\ GQ qs /\ ∀ H', Same H H' -> Q (.bl (ig U m n v ps qs)) H'
theorem any_rows {f : Int × Int -> Bool} {U : List (List Int)} {qs : List (Int × Int)} : ((U.map fun r => aW r qs).map f).any id = U.any fun r => f (aW r qs) := by
 rw [List.any_map, List.any_map]
 rfl
abbrev iT : Stmt := inClass (top 47) 1
theorem rO : FnScope ["self", "table"] ["self", "table"] (aH iT) := ⟨rfl, rfl, rfl, by decide +kernel, rfl, by decide +kernel, by decide +kernel⟩
theorem rP {C : Addr} (F : FunC K C "shows" "Solved.shows" iT ["self", "table"]) (T : Blt mg) (C_Solved : Cl K mg "Solved" ["value", "mine", "theirs"] [] C) (d8 : Def P w K mg base "is_fraction" ["thing"] 2 vp)
  (dG : Def P w K mg base "are_mixtures" ["table", "mine", "theirs"] 5 oW) (b_ : Def P w K mg base "below" ["one", "other"] 1 (dm K)) (cG : Def P w K mg base "all_get" ["rows", "mixture"] 6 ji) (bL : Def P w K mg base "columns_of" ["table"] 2 eZ) : DefC P w K mg base C "shows" ["self", "table"] 7 (v4 C) := by
 have S := rO
 refine DefC.of F S (fun vs H Q E h => ?_) (fun f cdv A outer s H vs Q E hr h => ?_)
 ·obtain ⟨p, dx, a, u, l1, l2, U, m, n, v, ps, qs, rfl, _⟩ := h
  rfl
 ·obtain ⟨p, dx, a, u, l1, l2, U, m, n, v, ps, qs, rfl, hp, hu, hv, zv1, zv2, hU, g, h1, gp, h2, gq, k⟩ := h
  have c0 := C_Solved.no "value" (by simp)
  have c1 := C_Solved.no "mine" (by simp)
  have c2 := C_Solved.no "theirs" (by simp)
  have m4 := g.m4
  have n4 := g.n4
  refine ⟨_, (aB (bu (PW.pt (cR (bJ (bA (aD d8 (hr.mono (by decide)) rfl (aa (bB (pv 0) rfl) ak aR) (he := aR)))) (cH (bJ (bA (aD dG (hr.mono (by decide)) rfl (aa (pv 1) (aa (bB (pv 0) rfl) (aa (bB (pv 0) rfl) ak aR) aR) aj) (he := aj)))))))
    (aC (aM bQ)) aZ)
   (aB (bu (bA (aK (pB K) (by rfl) T.any_ jh (aa (bj rfl (N' := ["gain", "self"]) (src := [none, some 0]) rfl (piL K (aD cG (hr.mono (by decide)) rfl (aa (aD bL (hr.mono (by decide)) rfl (aa (pv 1) ak aj) (he := aj)) (aa (bB (pv 0) rfl) ak aR) aN) (he := aN))) (fun _ _ _ _ _ => (aP (i := 0) (show (["gain", "self"] : List Str).Nodup from by decide +kernel) rfl (Or.inl rfl))) (fun _ _ _ _ _ => bf) (fun _ _ _ _ _ => (aD b_ (hr.mono (by decide)) rfl (aa (pv 0) (aa (peF K (pv 1) rfl) ak aR) aj) (he := aj)))) ak aU) (he := aU)))
    (aC (aM bQ)) aZ)
   (aC (aM (lW (aK (pB K) (by rfl) T.any_ jh (aa (bj rfl (N' := ["gain", "self"]) (src := [none, some 0]) rfl (piL K (aD cG (hr.mono (by decide)) rfl (aa (pv 1) (aa (bB (pv 0) rfl) ak aR) aj) (he := aj))) (fun _ _ _ _ _ => (aP (i := 0) (show (["gain", "self"] : List Str).Nodup from by decide +kernel) rfl (Or.inl rfl))) (fun _ _ _ _ _ => bf) (fun _ _ _ _ _ => (aD b_ (hr.mono (by decide)) rfl (aa (peF K (pv 1) rfl) (aa (pv 0) ak aj) aR) (he := aR)))) ak aU) (he := aU))))))), ?_⟩
  refine ⟨_, rfl, p, C, dx, _, _, rfl, hp, C_Solved.cl, c0, bZ u l1 l2, u, v, rfl, hu, hv, _, rfl, ?_⟩
  refine bK ?_
  refine ⟨_, rfl, _, rfl, p, C, dx, _, _, rfl, hp, C_Solved.cl, c1, gM u l1 l2, _, rfl, p, C, dx, _, _, rfl, hp, C_Solved.cl, c2, e_ u l1 l2, a, l1, l2, U, m, n, ps, qs, rfl, hU, g, h1, gp, h2, gq, fun H1 s1 => ⟨_, rfl, ?_⟩⟩
  cases hmix : (bT ps m && bT qs n) with
  | false =>
   refine cX ?_
   have e : ig U m n v ps qs = false := by unfold ig; rw [hmix]; rfl
   rw [e] at k
   exact k H1 s1
  | true =>
   refine bK ?_
   have hp1 := s1 _ _ hp
   refine ⟨_, rfl, a, U, m, n, rfl, hU.mono s1, g, fun pc H2 s2 own => ?_⟩
   have s12 := s1.trans s2
   refine ⟨_, rfl, p, C, dx, _, _, rfl, s12 _ _ hp, C_Solved.cl, c1, gM u l1 l2, pc, l1, cols U n, n, m, ps, rfl, own.tab, dZ g, h1.mono s12, gp, fun pg H3 s3 hpg hG => ?_⟩
   have s13 := s12.trans s3
   obtain ⟨gv, hgv, prg⟩ := id hG
   have gl : gv.length = n := by rw [prg.length, List.length_map, eX]
   have zg : ∀ q ∈ (cols U n).map (fun r => aW r ps), Sz 1000 q.1 /\ Sz 1000 q.2 := fun q hq => by
    obtain ⟨r, hr', rfl⟩ := List.mem_map.mp hq
    exact ⟨(dD ((dZ g).sz hr') gp).mono (by decide), (dF ((dZ g).sz hr') gp).mono (by decide)⟩
   refine ⟨pg, rfl, ⟨_, SqL.of hgv⟩, bw (xs := gv) (fun x y _ => ∀ q, IsFr H3 x q -> y = .bl (ltQ q v)) (fun _ _ _ _ _ h => h) (SqL.of hgv) (by rw [gl]; exact Nat.le_of_lt (aO (by omega))) ?_ ?_⟩
   ·intro x hx H4 s4 Q' q
    obtain ⟨r, hr', hf⟩ := prg.mem2 hx
    obtain ⟨d, rfl, hd⟩ := id hf
    have s14 := s13.trans s4
    exact ⟨_, rfl, _, rfl, p, C, dx, _, _, rfl, s14 _ _ hp, C_Solved.cl, c0, bZ u l1 l2, d, u, _, _, _, _, rfl, SqT.of (s4 _ _ hd), SqT.of (s14 _ _ hu), (zg r hr').1, (zg r hr').2, zv1, zv2, q _ H4 (Same.refl _) fun q' h' => by rw [hf.inj h']; rfl⟩
   intro ys H4 s4 prb qb hqb
   have eb := fU (fun q => ltQ q v) prb prg
   subst eb
   refine ⟨qb, _, rfl, SqL.of aq, ?_⟩
   rw [any_rows]
   have s14 : Same H (upd H4 qb (.lst ((((cols U n).map fun r => aW r ps).map fun q => ltQ q v).map V.bl))) := (s13.trans s4).trans (ao hqb)
   generalize upd H4 qb (.lst ((((cols U n).map fun r => aW r ps).map fun q => ltQ q v).map V.bl)) = H5 at s14 ⊢
   refine ⟨_, rfl, ?_⟩
   cases hany : (cols U n).any fun c => ltQ (aW c ps) v with
   | true =>
    refine cX ?_
    have e : ig U m n v ps qs = false := by unfold ig; rw [hmix, hany]; rfl
    rw [e] at k
    exact k H5 s14
   | false =>
    refine bK ?_
    refine ⟨_, rfl, _, rfl, p, C, dx, _, _, rfl, s14 _ _ hp, C_Solved.cl, c2, e_ u l1 l2, a, l2, U, m, n, qs, rfl, hU.mono s14, g, h2.mono s14, gq, fun pg2 H6 s6 hpg2 hG2 => ?_⟩
    have s16 := s14.trans s6
    obtain ⟨gv2, hgv2, prg2⟩ := id hG2
    have gl2 : gv2.length = m := by rw [prg2.length, List.length_map, g.rows]
    have zg2 : ∀ q ∈ U.map (fun r => aW r qs), Sz 1000 q.1 /\ Sz 1000 q.2 := fun q hq => by
     obtain ⟨r, hr', rfl⟩ := List.mem_map.mp hq
     exact ⟨(dD (g.sz hr') gq).mono (by decide), (dF (g.sz hr') gq).mono (by decide)⟩
    refine ⟨pg2, rfl, ⟨_, SqL.of hgv2⟩, bw (xs := gv2) (fun x y _ => ∀ q, IsFr H6 x q -> y = .bl (ltQ v q)) (fun _ _ _ _ _ h => h) (SqL.of hgv2) (by rw [gl2]; exact Nat.le_of_lt (aO (by omega))) ?_ ?_⟩
    ·intro x hx H7 s7 Q' q
     obtain ⟨r, hr', hf⟩ := prg2.mem2 hx
     obtain ⟨d, rfl, hd⟩ := id hf
     have s17 := s16.trans s7
     exact ⟨_, rfl, p, C, dx, _, _, rfl, s17 _ _ hp, C_Solved.cl, c0, bZ u l1 l2, _, rfl, u, d, _, _, _, _, rfl, SqT.of (s17 _ _ hu), SqT.of (s7 _ _ hd), zv1, zv2, (zg2 r hr').1, (zg2 r hr').2, q _ H7 (Same.refl _) fun q' h' => by rw [hf.inj h']; rfl⟩
    intro ys2 H7 s7 prc qc hqc
    have ec := fU (fun q => ltQ v q) prc prg2
    subst ec
    refine ⟨qc, _, rfl, SqL.of aq, ?_⟩
    rw [any_rows]
    refine ⟨_, rfl, ?_⟩
    have e : ig U m n v ps qs = !(U.any fun r => ltQ v (aW r qs)) := by unfold ig; rw [hmix, hany]; rfl
    rw [e] at k
    exact k _ ((s16.trans s7).trans (ao hqc))
theorem jT {H : Hp} (f : List Int -> Bool) : ∀ {vs ys : List V} {T : List (List Int)}, Paired (fun x y => ∀ r, IsRow H x r -> y = V.bl (f r)) vs ys -> Paired (IsRow H) vs T -> ys = (T.map f).map V.bl := fU f
def rW (C : Addr) : Sp := fun vs H Q _ => ∃ (p dx a u l1 l2 : Addr) (U : List (List Int)) (m n : Nat) (v : Int × Int) (ps qs : List (Int × Int)), vs = [.ref a, .ref p] /\ H p = some (.ins C dx (gH u l1 l2)) /\ H u = some (.tup [.int v.1, .int v.2]) /\ Pq v /\ Sz 1000 v.1 /\ Sz 1000 v.2 /\
 IsTab H a U /\ Gd U m n /\ IsFrs H l1 ps /\ GQ ps /\ IsFrs H l2 qs /\ GQ qs /\ ∀ H', Same H H' -> Q (.bl (ig U m n v ps qs)) H'
abbrev jD : Stmt := top 69
theorem uF : FnScope ["_law_table_here", "_law_found"] ["_law_table_here", "_law_found"] (aH jD) := ⟨rfl, rfl, rfl, by decide +kernel, rfl, by decide +kernel, by decide +kernel⟩
theorem vA {CS : Addr} (F : FunM K mg "_law_solved" jD ["_law_table_here", "_law_found"]) (T : Blt mg) (C_Solved : Cl K mg "Solved" ["value", "mine", "theirs"] [] CS) (bD : Def P w K mg base "_law_mixture" ["_law_mixture_here", "_law_many"] 4 g8) (bO : Def P w K mg base "_law_made" ["_law_a", "_law_b"] 2 iC)
  (bY : Def P w K mg base "_law_less" ["_law_one", "_law_other"] 1 (dm K)) (bM : Def P w K mg base "_law_sum" ["_law_worths", "_law_shares"] 3 jY) (cB : Def P w K mg base "_law_across" ["_law_table_here"] 1 eZ) : Def P w K mg base "_law_solved" ["_law_table_here", "_law_found"] 5 (rW CS) := by
 have S := uF
 refine Def.of F S (fun vs H Q E h => ?_) (fun f cdv A outer s H vs Q E hr h => ?_)
 ·obtain ⟨p, dx, a, u, l1, l2, U, m, n, v, ps, qs, rfl, _⟩ := h
  rfl
 ·obtain ⟨p, dx, a, u, l1, l2, U, m, n, v, ps, qs, rfl, hp, hu, hv, zv1, zv2, hU, g, h1, gp, h2, gq, k⟩ := h
  have c0 := C_Solved.no "value" (by simp)
  have c1 := C_Solved.no "mine" (by simp)
  have c2 := C_Solved.no "theirs" (by simp)
  have m4 := g.m4
  have n4 := g.n4
  obtain ⟨vs, b0, ha, h0, at0, hb0⟩ := hU.row (i := 0) (by rw [g.rows]; exact g.m1)
  have hl : ((U.getD 0 []).map V.int).length = n := by rw [List.length_map, (g.row g.m1).2]
  have hm : vs.length = m := by
   obtain ⟨vs', ha', hp⟩ := id hU
   rw [ha] at ha'
   cases ha'
   rw [hp.length, g.rows]
  refine ⟨_, (aB (bu (PW.pt (cR (bJ (bA (aD bD (hr.mono (by decide)) rfl (aa (bB (pv 1) rfl) (aa (aK (bU K) (by rfl) T.len_ bx (aa (pv 0) ak aj) (he := aj)) ak aN) aR) (he := aR)))) (cH (bJ (bA (aD bD (hr.mono (by decide)) rfl (aa (bB (pv 1) rfl) (aa (aK (bU K) (by rfl) T.len_ bx (aa (aQ (ixL K) (pv 0) aA (fun _ _ => rfl)) ak aF) (he := aF)) ak aN) aR) (he := aR)))))))
    (aC (aM bQ)) aZ)
   (aB (bu (PW.pt (cR (bJ (bA (aK (jG K) (by rfl) T.isinstance_ bR (aa (bB (pv 1) rfl) (aa (dU (v := .ty "tuple") rfl T.tuple_ rE rfl) ak aj) aR) (he := aR)))) (cR (bh pZ (aK (bU K) (by rfl) T.len_ bx (aa (bB (pv 1) rfl) ak aR) (he := aR)) aA (a_ _)) (cH (bh nG (aQ (ixT K) (bB (pv 1) rfl) aA (fun _ _ => rfl)) aA (a_ _))))))
    (aC (aM bQ)) aZ)
   (aB (bu (bh (jM K hr.units) (aD bO (hr.mono (by decide)) rfl (aa (aQ (ixT K) (bB (pv 1) rfl) aA (fun _ _ => rfl)) (aa (aQ (ixT K) (bB (pv 1) rfl) aA (fun _ _ => rfl)) ak aF) aF) (he := aF)) (bB (pv 1) rfl) (a_ _))
    (aC (aM bQ)) aZ)
   (aB (bu (bA (aK (pB K) (by rfl) T.any_ jh (aa (bj rfl (N' := ["_law_column", "_law_found"]) (src := [none, some 1]) rfl (piL K (aD cB (hr.mono (by decide)) rfl (aa (pv 0) ak aj) (he := aj))) (fun _ _ _ _ _ => (aP (i := 0) (show (["_law_column", "_law_found"] : List Str).Nodup from by decide +kernel) rfl (Or.inl rfl))) (fun _ _ _ _ _ => bf) (fun _ _ _ _ _ => (aD bY (hr.mono (by decide)) rfl (aa (aD bM (hr.mono (by decide)) rfl (aa (pv 0) (aa (peF K (pv 1) rfl) ak aR) aj) (he := aj)) (aa (peF K (pv 1) rfl) ak aR) aN) (he := aN)))) ak aU) (he := aU)))
    (aC (aM bQ)) aZ)
   (aC (aM (lW (aK (pB K) (by rfl) T.any_ jh (aa (bj rfl (N' := ["_law_row", "_law_found"]) (src := [none, some 1]) rfl (piL K (pv 0)) (fun _ _ _ _ _ => (aP (i := 0) (show (["_law_row", "_law_found"] : List Str).Nodup from by decide +kernel) rfl (Or.inl rfl))) (fun _ _ _ _ _ => bf) (fun _ _ _ _ _ => (aD bY (hr.mono (by decide)) rfl (aa (peF K (pv 1) rfl) (aa (aD bM (hr.mono (by decide)) rfl (aa (pv 0) (aa (peF K (pv 1) rfl) ak aR) aj) (he := aj)) ak aN) aR) (he := aR)))) ak aU) (he := aU))))))))), ?_⟩
  have no : ∀ H', Same H H' -> ig U m n v ps qs = false -> Q (.bl false) H' := fun H' s' e => by
   rw [e] at k
   exact k H' s'
  refine ⟨_, rfl, p, CS, dx, _, _, rfl, hp, C_Solved.cl, c1, gM u l1 l2, _, rfl, a, vs, rfl, .inl (SqL.of ha), l1, ps, vs.length, rfl, h1, gp, fun H1 s1 => ⟨_, rfl, ?_⟩⟩
  rw [hm]
  cases hx : bT ps m with
  | false =>
   refine cX ?_
   exact no H1 s1 (by unfold ig; rw [hx]; rfl)
  | true =>
  refine bK ?_
  refine ⟨_, rfl, p, CS, dx, _, _, rfl, s1 _ _ hp, C_Solved.cl, c2, e_ u l1 l2, _, rfl, a, vs, 0, _, rfl, rfl, SqL.of (s1 _ _ ha), at0, b0, _, rfl, .inl (SqL.of (s1 _ _ hb0)), l2, qs, _, rfl, h2.mono s1, gq, fun H2 s2 => ⟨_, rfl, ?_⟩⟩
  rw [hl]
  have s12 := s1.trans s2
  cases hy : bT qs n with
  | false =>
   refine cX ?_
   exact no H2 s12 (by unfold ig; rw [hx, hy]; rfl)
  | true =>
  refine bK ?_
  have hu2 := s12 _ _ hu
  have hp2 := s12 _ _ hp
  have v0 := hv.pos
  refine ⟨_, rfl, p, CS, dx, _, _, rfl, hp2, C_Solved.cl, c0, bZ u l1 l2, _, _, _, _, rfl, TyOf.tup hu2, rfl, _, rfl, ?_⟩
  refine bK ?_
  refine ⟨_, rfl, p, CS, dx, _, _, rfl, hp2, C_Solved.cl, c0, bZ u l1 l2, u, _, rfl, .inr (SqT.of hu2), rfl, _, rfl, ?_⟩
  refine bK ?_
  refine ⟨_, rfl, p, CS, dx, _, _, rfl, hp2, C_Solved.cl, c0, bZ u l1 l2, u, _, 1, _, rfl, rfl, SqT.of hu2, rfl, _, _, rfl, rfl, _, rfl, ?_⟩
  refine ifN (by simp; omega) ?_
  refine ⟨_, rfl, p, CS, dx, _, _, rfl, hp2, C_Solved.cl, c0, bZ u l1 l2, u, _, 0, _, rfl, rfl, SqT.of hu2, rfl, _, rfl, p, CS, dx, _, _, rfl, hp2, C_Solved.cl, c0, bZ u l1 l2, u, _, 1, _, rfl, rfl, SqT.of hu2, rfl, _, _, rfl, v0, zv2.mono (by decide), fun r hr' => ?_⟩
  have s3 := s12.trans (ao (o := .tup [.int (Fr.mk v.1 v.2).1, .int (Fr.mk v.1 v.2).2]) hr')
  have hr3 : upd H2 r (.tup [.int (Fr.mk v.1 v.2).1, .int (Fr.mk v.1 v.2).2]) r = some (.tup [.int (Fr.mk v.1 v.2).1, .int (Fr.mk v.1 v.2).2]) := aq
  generalize upd H2 r (.tup [.int (Fr.mk v.1 v.2).1, .int (Fr.mk v.1 v.2).2]) = H3 at s3 hr3 ⊢
  refine ⟨_, rfl, p, CS, dx, _, _, rfl, s3 _ _ hp, C_Solved.cl, c0, bZ u l1 l2, _, _, bV hr3, bV (s3 _ _ hu), rfl, (by show 1 <= 40; decide), _, rfl, ?_⟩
  refine jU ?_ ?_
  ·rw [fO, hv.mk_eq]
   exact decide_eq_true rfl
  refine ⟨_, rfl, a, U, m, n, rfl, hU.mono s3, g, fun pc H4 s4 own => ?_⟩
  have s14 := s3.trans s4
  obtain ⟨cv, hcv, prc⟩ := own.tab
  have cl : cv.length = n := by rw [prc.length, eX]
  refine ⟨pc, rfl, ⟨_, SqL.of hcv⟩, bw (xs := cv) (fun x y _ => ∀ r, IsRow H4 x r -> y = .bl (ltQ (aW r ps) v)) (fun _ _ _ _ _ h => h) (SqL.of hcv) (by rw [cl]; exact Nat.le_of_lt (aO (by omega))) ?_ ?_⟩
  ·intro x hx' H5 s5 Q' q
   obtain ⟨r, hr5, hrow⟩ := prc.mem2 hx'
   obtain ⟨b, rfl, hb⟩ := id hrow
   have s15 := s14.trans s5
   have szr := (dZ g).sz hr5
   refine ⟨_, rfl, _, rfl, p, CS, dx, _, _, rfl, s15 _ _ hp, C_Solved.cl, c1, gM u l1 l2, b, l1, r, ps, rfl, s5 _ _ hb, h1.mono s15, gp, szr, fun p6 H6 nw => ?_⟩
   have s16 := s15.trans nw.same
   exact ⟨_, rfl, p, CS, dx, _, _, rfl, s16 _ _ hp, C_Solved.cl, c0, bZ u l1 l2, p6, u, _, _, _, _, rfl, SqT.of nw.is, SqT.of (s16 _ _ hu), (dD szr gp).mono (by decide), (dF szr gp).mono (by decide), zv1, zv2, q _ H6 nw.same fun r' h' => by rw [hrow.inj h']; rfl⟩
  intro ys H5 s5 prb qb hqb
  have eb := jT (fun r => ltQ (aW r ps) v) prb prc
  subst eb
  refine ⟨qb, _, rfl, SqL.of aq, ?_⟩
  have ea : ((cols U n).map fun r => ltQ (aW r ps) v).any id = (cols U n).any fun c => ltQ (aW c ps) v := by rw [List.any_map]; rfl
  rw [ea]
  have s15 : Same H (upd H5 qb (.lst (((cols U n).map fun r => ltQ (aW r ps) v).map V.bl))) := (s14.trans s5).trans (ao hqb)
  generalize upd H5 qb (.lst (((cols U n).map fun r => ltQ (aW r ps) v).map V.bl)) = H6 at s15 ⊢
  refine ⟨_, rfl, ?_⟩
  cases hany : (cols U n).any fun c => ltQ (aW c ps) v with
  | true =>
   refine cX ?_
   exact no H6 s15 (by unfold ig; rw [hx, hy, hany]; rfl)
  | false =>
  refine bK ?_
  obtain ⟨rv, hrv, prr⟩ := hU.mono s15
  have rl : rv.length = m := by rw [prr.length, g.rows]
  refine ⟨_, rfl, a, rfl, ⟨_, SqL.of hrv⟩, bw (xs := rv) (fun x y _ => ∀ r, IsRow H6 x r -> y = .bl (ltQ v (aW r qs))) (fun _ _ _ _ _ h => h) (SqL.of hrv) (by rw [rl]; exact Nat.le_of_lt (aO (by omega))) ?_ ?_⟩
  ·intro x hx' H7 s7 Q' q
   obtain ⟨r, hr7, hrow⟩ := prr.mem2 hx'
   obtain ⟨b, rfl, hb⟩ := id hrow
   have s17 := s15.trans s7
   have szr := g.sz hr7
   refine ⟨_, rfl, p, CS, dx, _, _, rfl, s17 _ _ hp, C_Solved.cl, c0, bZ u l1 l2, _, rfl, _, rfl, p, CS, dx, _, _, rfl, s17 _ _ hp, C_Solved.cl, c2, e_ u l1 l2, b, l2, r, qs, rfl, s7 _ _ hb, h2.mono s17, gq, szr, fun p8 H8 nw => ?_⟩
   have s18 := s17.trans nw.same
   exact ⟨u, p8, _, _, _, _, rfl, SqT.of (s18 _ _ hu), SqT.of nw.is, zv1, zv2, (dD szr gq).mono (by decide), (dF szr gq).mono (by decide), q _ H8 nw.same fun r' h' => by rw [hrow.inj h']; rfl⟩
  intro ys2 H7 s7 prd qd hqd
  have ed := jT (fun r => ltQ v (aW r qs)) prd prr
  subst ed
  refine ⟨qd, _, rfl, SqL.of aq, ?_⟩
  have ea2 : (U.map fun r => ltQ v (aW r qs)).any id = U.any fun r => ltQ v (aW r qs) := by rw [List.any_map]; rfl
  rw [ea2]
  refine ⟨_, rfl, ?_⟩
  have e : ig U m n v ps qs = !(U.any fun r => ltQ v (aW r qs)) := by unfold ig; rw [hx, hy, hany]; rfl
  rw [e] at k
  exact k _ ((s15.trans s7).trans (ao hqd))
theorem fJ {qs : List (Int × Int)} {n : Nat} (h : bT qs n = true) : qs.length = n := by
 unfold bT at h
 simp only [Bool.and_eq_true, decide_eq_true_eq] at h
 exact h.1.1
theorem ux {α : Type} {l : List α} {i : Nat} {x : α} (h : l[i]? = some x) : l.take (i + 1) = l.take i ++ [x] := by rw [List.take_add_one, h]; rfl
theorem qw {α β : Type} {F : α -> β -> Prop} : ∀ {l : List α} {r : List β} (i : Nat), Paired F l r -> Paired F (l.take i) (r.take i)
 | _, _, _, .nil => by simpa using Paired.nil
 | _, _, 0, .cons _ _ => .nil
 | _, _, i + 1, .cons h t => .cons h (qw i t)
theorem int_at {r : List Int} {i : Nat} {x : V} (h : (r.map V.int)[i]? = some x) : x = V.int (r.getD i 0) /\ i < r.length := by
 rw [List.getElem?_map] at h
 cases e : r[i]? with
 | none => rw [e] at h; cases h
 | some z =>
  rw [e] at h
  refine ⟨?_, (List.getElem?_eq_some_iff.mp e).1⟩
  cases h
  rw [List.getD_eq_getElem?_getD, e]
  rfl
theorem Bw {p q : Int × Int} (h : ltQ p q = false) : leQ q p := by
 unfold ltQ at h
 have := of_decide_eq_false h
 unfold leQ
 omega
theorem By {p q : Int × Int} (h : leQ q p) : ltQ p q = false := by
 unfold leQ at h
 unfold ltQ
 exact decide_eq_false (by omega)
theorem yG {p q : Int × Int} (hp : Pq p) (hq : Pq q) (h1 : leQ p q) (h2 : leQ q p) : p = q := by
 rw [<- hp.mk_eq, <- hq.mk_eq]
 unfold leQ at *
 exact Fr.mk_cross hp.pos hq.pos (by omega)
def qt : Sp := fun vs H Q _ => ∃ (a : Addr) (gs : List (Int × Int)), vs = [.ref a] /\ IsFrs H a gs /\ gs ≠ [] /\ (∀ q ∈ gs, Pq q /\ Sz 1000 q.1 /\ Sz 1000 q.2) /\ ∀ p q, H p = some (.tup [.int q.1, .int q.2]) -> q ∈ gs -> (∀ q' ∈ gs, leQ q' q) -> Q (.ref p) H
abbrev mY : Stmt := top 12
theorem Ak : FnScope ["values", "most", "value"] ["values"] (aH mY) := ⟨rfl, rfl, rfl, by decide +kernel, rfl, by decide +kernel, by decide +kernel⟩
theorem Ag (F : FunM K mg "greatest" mY ["values"]) (T : Blt mg) (b_ : Def P w K mg base "below" ["one", "other"] 1 (dm K)) : Def P w K mg base "greatest" ["values"] 2 qt := by
 have S := Ak
 refine Def.of F S (fun vs H Q E h => ?_) (fun f cdv A outer s H vs Q E hr h => ?_)
 ·obtain ⟨a, gs, rfl, _⟩ := h
  rfl
 ·obtain ⟨a, gs, rfl, hX, hne, hz, k⟩ := h
  obtain ⟨vs, ha, pr⟩ := id hX
  have hl : vs.length = gs.length := pr.length
  have h0 : 0 < vs.length := by rw [hl]; exact List.length_pos_iff.mpr hne
  obtain ⟨q0, e0, b0, eb0, hb0⟩ := pr.get2 (List.getElem?_eq_getElem h0)
  refine ⟨_, (aB (aY (i := 1) S.nd rfl (Or.inl rfl) (aQ (ixL K) (pv 0) aA (fun _ _ => rfl)))
   (aB (cJ PassesOwn.never rfl (piL K (pv 0)) (aP (i := 2) S.nd rfl (Or.inl rfl))
    (aC (bu (bA (aD b_ (hr.mono (by decide)) rfl (aa (pv 1) (aa (pv 2) ak aj) aj) (he := aj)))
    (aC (aY (i := 1) S.nd rfl (Or.inl rfl) (pv 2))) aZ)))
   (aC (aM (pv 1))))), ?_⟩
  refine ⟨_, rfl, a, vs, 0, _, rfl, rfl, SqL.of ha, fM h0, ?_⟩
  rw [eb0]
  refine ⟨_, rfl, a, rfl, ⟨_, SqL.of ha⟩, dO (K := K) (a := a) (xs := vs) (fun i σ H' => ∃ (p : Addr) (q : Int × Int) (o : Option V), σ = [some (.ref a), some (.ref p), o] /\ H' = H /\ H p = some (.tup [.int q.1, .int q.2]) /\ q ∈ gs /\ ∀ q' ∈ gs.take i, leQ q' q)
   ⟨b0, q0, _, rfl, rfl, hb0, List.mem_of_getElem? e0, fun x hx => by simp at hx⟩ ?_ ?_ ?_⟩
  ·rintro i σ H' _ ⟨_, _, _, _, rfl, _⟩
   exact SqL.of ha
  ·rintro i x σ H' hi ⟨p, q, o, rfl, rfl, hp, hM, hle⟩
   obtain ⟨y, hy, b, rfl, hb⟩ := pr.get2 hi
   have my := List.mem_of_getElem? hy
   obtain ⟨q1, q2, q3⟩ := hz q hM
   obtain ⟨y1, y2, y3⟩ := hz y my
   have et : gs.take (i + 1) = gs.take i ++ [y] := by rw [List.take_add_one, hy]; rfl
   refine ⟨_, rfl, _, rfl, p, b, _, _, _, _, rfl, SqT.of hp, SqT.of hb, q2, q3, y2, y3, _, rfl, ?_⟩
   by_cases hlt : q.1 * y.2 < y.1 * q.2
   ·refine ifP (decide_eq_true hlt) ?_
    refine ⟨_, rfl, b, y, _, rfl, rfl, hb, my, fun x hx => ?_⟩
    rw [et] at hx
    rcases List.mem_append.mp hx with h | h
    ·exact v6 (hz x (List.mem_of_mem_take h)).1.pos q1.pos y1.pos (hle x h) (Int.le_of_lt hlt)
    ·rw [List.mem_singleton.mp h]; exact Int.le_refl _
   ·refine ifN (by simpa using hlt) ?_
    refine ⟨p, q, _, rfl, rfl, hp, hM, fun x hx => ?_⟩
    rw [et] at hx
    rcases List.mem_append.mp hx with h | h
    ·exact hle x h
    ·rw [List.mem_singleton.mp h]
     unfold leQ
     omega
  ·rintro σ H' ⟨p, q, o, rfl, rfl, hp, hM, hle⟩
   rw [hl, List.take_length] at hle
   exact ⟨_, rfl, k p q hp hM hle⟩
def plQ (gs : List (Int × Int)) (mx : Int × Int) (i : Nat) : List Int := ((List.range i).filter fun j => decide (gs.getD j (0, 0) = mx)).map fun (j : Nat) => (j : Int)
theorem Hz {gs : List (Int × Int)} {mx : Int × Int} {m i : Nat} : (i : Int) ∈ plQ gs mx m ↔ i < m /\ gs.getD i (0, 0) = mx := by
 unfold plQ
 simp only [List.mem_map, List.mem_filter, List.mem_range, decide_eq_true_eq]
 constructor
 ·rintro ⟨j, ⟨hj, hz⟩, e⟩
  have : j = i := by omega
  subst this
  exact ⟨hj, hz⟩
 ·rintro ⟨h1, h2⟩
  exact ⟨i, ⟨h1, h2⟩, rfl⟩
def jb : Sp := fun vs H Q _ => ∃ (a c : Addr) (U : List (List Int)) (m n : Nat) (qs : List (Int × Int)), vs = [.ref a, .ref c] /\ IsTab H a U /\ Gd U m n /\ IsFrs H c qs /\ GQ qs /\
 ∀ l p q (mx : Int × Int) H', Same H H' -> H l = none -> H' l = some (.lst ((plQ (U.map fun r => aW r qs) mx m).map V.int)) -> mx ∈ U.map (fun r => aW r qs) -> (∀ g ∈ U.map (fun r => aW r qs), leQ g mx) -> H' q = some (.tup [.ref l, .ref p]) -> Q (.ref q) H'
abbrev lw : Stmt := top 37
theorem yV : FnScope ["table", "theirs", "gains", "most"] ["table", "theirs"] (aH lw) := ⟨rfl, rfl, rfl, by decide +kernel, rfl, by decide +kernel, by decide +kernel⟩
theorem zm (F : FunM K mg "best_rows" lw ["table", "theirs"]) (T : Blt mg) (cG : Def P w K mg base "all_get" ["rows", "mixture"] 6 ji) (m6 : Def P w K mg base "greatest" ["values"] 2 qt) : Def P w K mg base "best_rows" ["table", "theirs"] 7 jb := by
 have S := yV
 refine Def.of F S (fun vs H Q E h => ?_) (fun f cdv A outer s H vs Q E hr h => ?_)
 ·obtain ⟨a, c, U, m, n, qs, rfl, _⟩ := h
  rfl
 ·obtain ⟨a, c, U, m, n, qs, rfl, hU, g, hC, gc, k⟩ := h
  have m4 := g.m4
  have m1 := g.m1
  refine ⟨_, (aB (aY (i := 2) S.nd rfl (Or.inl rfl) (aD cG (hr.mono (by decide)) rfl (aa (pv 0) (aa (pv 1) ak aj) aj) (he := aj)))
   (aB (aY (i := 3) S.nd rfl (Or.inr rfl) (aD m6 (hr.mono (by decide)) rfl (aa (pv 2) ak aj) (he := aj)))
   (aC (aM (bH (aa (bj rfl (N' := ["place", "gain", "most"]) (src := [none, none, some 3]) rfl (Fd K rfl T.enumerate_ (aa (pv 2) ak aj)) (fun _ _ _ _ _ => (pgT K (n := 2) (bC (aP (i := 0) (show (["place", "gain", "most"] : List Str).Nodup from by decide +kernel) rfl (Or.inl rfl)) (bC (aP (i := 1) (show (["place", "gain", "most"] : List Str).Nodup from by decide +kernel) rfl (Or.inl rfl)) dY)))) (fun _ _ _ _ _ => (Av (bh (Bx K hr.units) (pv 1) (pv 2) (a_ _)))) (fun _ _ _ _ _ => (pv 0))) (aa (pv 3) ak aj) aU)))))), ?_⟩
  refine ⟨_, rfl, _, rfl, a, c, U, m, n, qs, rfl, hU, g, hC, gc, fun p H5 sz hpn hP => ?_⟩
  obtain ⟨ys, hys, pr⟩ := id hP
  have yl : ys.length = m := by rw [pr.length, List.length_map, g.rows]
  have zg : ∀ q ∈ U.map (fun r => aW r qs), Pq q /\ Sz 1000 q.1 /\ Sz 1000 q.2 := fun q hq => by
   obtain ⟨r, hr', rfl⟩ := List.mem_map.mp hq
   exact ⟨pU (g.sz hr') gc, (dD (g.sz hr') gc).mono (by decide), (dF (g.sz hr') gc).mono (by decide)⟩
  refine ⟨_, rfl, p, _, rfl, hP, fun e => by have := congrArg List.length e; rw [List.length_map, g.rows] at this; simp at this; omega, zg, fun t mx ht hmx hle => ?_⟩
  refine ⟨_, rfl, p, ys, rfl, hys, vO (K := K) (xs := ys) (fun i zs H' => zs = (plQ (U.map fun r => aW r qs) mx i).map V.int /\ Same H5 H') ⟨rfl, Same.refl _⟩ ?_ (by rw [yl]; exact Nat.le_of_lt (aO (by omega))) ?_ ?_⟩
  ·rintro i zs H' ⟨rfl, s5⟩
   refine ⟨SqL.of (s5 _ _ hys), ?_⟩
   rw [List.length_map]
   unfold plQ
   rw [List.length_map]
   exact Nat.le_trans (List.length_filter_le _ _) (by rw [List.length_range]; exact Nat.le_refl _)
  ·rintro i x q zs H' hi hq ⟨rfl, s5⟩
   obtain ⟨y, hy, b, rfl, hb⟩ := pr.get2 hi
   have eu : (U.map fun r => aW r qs).getD i (0, 0) = y := gQ hy
   have s6 := s5.trans (ao (o := .tup [.int i, .ref b]) hq)
   refine ⟨q, _, rfl, SqT.of aq, rfl, _, _, rfl, _, _, rfl, rfl, ?_⟩
   refine ⟨_, rfl, _, rfl, _, _, bV (s6 _ _ hb), bV (s6 _ _ ht), rfl, (by show 1 <= 40; decide), _, rfl, ?_⟩
   rw [fO]
   have ei : plQ (U.map fun r => aW r qs) mx (i + 1) = plQ (U.map fun r => aW r qs) mx i ++ (if y = mx then [(i : Int)] else []) := by
    unfold plQ
    rw [List.range_succ, List.filter_append, List.map_append]
    congr 1
    by_cases e : y = mx
    ·rw [List.filter_cons_of_pos (by rw [eu]; exact decide_eq_true e), if_pos e]
     rfl
    ·rw [List.filter_cons_of_neg (by rw [eu]; simp [e]), if_neg e]
     rfl
   by_cases e : y = mx
   ·refine ifP (by rw [e]; exact decide_eq_true rfl) ?_
    refine ⟨_, rfl, ?_, s6⟩
    rw [ei, if_pos e, List.map_append]
    rfl
   ·refine ifN (by rw [decide_eq_false (fun z => e (Prod.ext (congrArg Prod.fst z) (congrArg Prod.snd z)))]; decide) ?_
    refine ⟨?_, s6⟩
    rw [ei, if_neg e, List.append_nil]
  ·rintro zs H' ⟨rfl, s5⟩ l hl'
   refine ⟨_, rfl, (by show 2 <= sizeLine; decide), fun q hq => ?_⟩
   rw [yl] at hq ⊢
   have s6 := s5.trans (ao (o := .lst ((plQ (U.map fun r => aW r qs) mx m).map V.int)) hl')
   exact k l t q mx _ ((sz.trans s6).trans (ao hq)) (sz.free (s5.free hl')) (ao hq _ _ aq) hmx hle aq
theorem uZ {U : List (List Int)} {m n row : Nat} {qs : List (Int × Int)} {mx : Int × Int} (g : Gd U m n) (gq : GQ qs) (hr : row < m) (hmx : mx ∈ U.map fun r => aW r qs) (hle : ∀ x ∈ U.map (fun r => aW r qs), leQ x mx) :
  decide ((row : Int) ∈ plQ (U.map fun r => aW r qs) mx m) = !(U.any fun r => ltQ (aW (U.getD row []) qs) (aW r qs)) := by
 have hrow := g.row hr
 have eg : (U.map fun r => aW r qs).getD row (0, 0) = aW (U.getD row []) qs := map_getD (fun r => aW r qs) U (0, 0) (by rw [g.rows]; exact hr)
 have pr := pU (g.sz hrow.1) gq
 have pm : Pq mx := by
  obtain ⟨r, hr', rfl⟩ := List.mem_map.mp hmx
  exact pU (g.sz hr') gq
 rw [Bool.eq_iff_iff, decide_eq_true_iff, Hz, eg, Bool.not_eq_true', List.any_eq_false]
 constructor
 ·rintro ⟨_, e⟩ r hr'
  rw [e, By (hle _ (List.mem_map.mpr ⟨r, hr', rfl⟩))]
  decide
 ·intro h
  refine ⟨hr, yG pr pm (hle _ (List.mem_map.mpr ⟨_, hrow.1, rfl⟩)) ?_⟩
  obtain ⟨r, hr', rfl⟩ := List.mem_map.mp hmx
  have := h r hr'
  exact Bw (by simpa using this)
def iz (l : Addr) : List (Str × V) := cQ "mixture" (.ref l) []
theorem gD (l : Addr) : (iz l).lookup ("mixture" : Str) = some (.ref l) := by
 unfold iz
 rw [bF, if_pos rfl]
theorem Bm (l : Addr) {x : Str} (h : ¬ x = "mixture") : (iz l).lookup x = none := by
 unfold iz
 rw [bF, if_neg h]
 rfl
def m8 (C : Addr) : Sp := fun vs H Q _ => ∃ (p dx b : Addr) (xs : List V), vs = [.ref p, .ref b] /\ H p = some (.ins C dx []) /\ H b = some (.lst xs) /\
 ∀ l H', H l = none -> H' l = some (.lst xs) -> H' p = some (.ins C dx (iz l)) -> (∀ q o, H q = some o -> q ≠ p -> H' q = some o) -> Q .non H'
abbrev jK : Stmt := inClass (top 49) 0
theorem vC : FnScope ["self", "mixture"] ["self", "mixture"] (aH jK) := ⟨rfl, rfl, rfl, by decide +kernel, rfl, by decide +kernel, by decide +kernel⟩
theorem vg {C : Addr} (F : FunC K C "__init__" "Beaten.__init__" jK ["self", "mixture"]) (T : Blt mg) (C_Beaten : Cl K mg "Beaten" ["mixture"] [] C) : DefC P w K mg base C "__init__" ["self", "mixture"] 1 (m8 C) := by
 have S := vC
 refine DefC.of F S (fun vs H Q E h => ?_) (fun f cdv A outer s H vs Q E hr h => ?_)
 ·obtain ⟨p, dx, b, xs, rfl, _⟩ := h
  rfl
 ·obtain ⟨p, dx, b, xs, rfl, hp, hb, k⟩ := h
  refine ⟨_, (aC (j5 (pv 0) (cu (dH K) (by rfl) T.list_ cD (aa (pv 1) ak aj) (he := aj)) rfl)), ?_⟩
  refine ⟨_, rfl, b, xs, rfl, .inl (SqL.of hb), fun l h1 => ?_⟩
  have np1 : p ≠ l := aV hp h1
  refine ⟨_, rfl, p, C, dx, [], rfl, ao h1 _ _ hp, C_Beaten.cl, C_Beaten.no _ (by simp), (by show 0 < 1000; decide), ?_⟩
  refine k l _ h1 (by rw [aJ np1.symm, aq]) aq fun q o e nq => ?_
  rw [aJ nq, aJ (aV e h1)]
  exact e
abbrev lO : Stmt := inClass (top 50) 0
theorem zK : FnScope ["self", "mixture"] ["self", "mixture"] (aH lO) := ⟨rfl, rfl, rfl, by decide +kernel, rfl, by decide +kernel, by decide +kernel⟩
theorem yg {C : Addr} (F : FunC K C "__init__" "Best.__init__" lO ["self", "mixture"]) (T : Blt mg) (C_Best : Cl K mg "Best" ["mixture"] [] C) : DefC P w K mg base C "__init__" ["self", "mixture"] 1 (m8 C) := by
 have S := zK
 refine DefC.of F S (fun vs H Q E h => ?_) (fun f cdv A outer s H vs Q E hr h => ?_)
 ·obtain ⟨p, dx, b, xs, rfl, _⟩ := h
  rfl
 ·obtain ⟨p, dx, b, xs, rfl, hp, hb, k⟩ := h
  refine ⟨_, (aC (j5 (pv 0) (cu (dH K) (by rfl) T.list_ cD (aa (pv 1) ak aj) (he := aj)) rfl)), ?_⟩
  refine ⟨_, rfl, b, xs, rfl, .inl (SqL.of hb), fun l h1 => ?_⟩
  have np1 : p ≠ l := aV hp h1
  refine ⟨_, rfl, p, C, dx, [], rfl, ao h1 _ _ hp, C_Best.cl, C_Best.no _ (by simp), (by show 0 < 1000; decide), ?_⟩
  refine k l _ h1 (by rw [aJ np1.symm, aq]) aq fun q o e nq => ?_
  rw [aJ nq, aJ (aV e h1)]
  exact e
def fG (U : List (List Int)) (m n row : Nat) (qs : List (Int × Int)) : Bool := bT qs m && decide (qs.getD row (0, 0) = (0, 1)) && ((cols U n).all fun c => ltQ (c.getD row 0, 1) (aW c qs))
def lQ (U : List (List Int)) (n row : Nat) (qs : List (Int × Int)) : Bool := bT qs n && !(U.any fun r => ltQ (aW (U.getD row []) qs) (aW r qs))
def wF (C : Addr) : Sp := fun vs H Q _ => ∃ (p dx a l : Addr) (U : List (List Int)) (m n row : Nat) (qs : List (Int × Int)), vs = [.ref p, .ref a, .int row] /\ H p = some (.ins C dx (iz l)) /\ IsTab H a U /\ Gd U m n /\ row < m /\ IsFrs H l qs /\ GQ qs /\ ∀ H', Same H H' -> Q (.bl (fG U m n row qs)) H'
def wB (C : Addr) : Sp := fun vs H Q _ => ∃ (p dx a l : Addr) (U : List (List Int)) (m n row : Nat) (qs : List (Int × Int)), vs = [.ref p, .ref a, .int row] /\ H p = some (.ins C dx (iz l)) /\ IsTab H a U /\ Gd U m n /\ row < m /\ IsFrs H l qs /\ GQ qs /\ ∀ H', Same H H' -> Q (.bl (lQ U n row qs)) H'
abbrev kW : Stmt := inClass (top 50) 1
theorem wR : FnScope ["self", "table", "row"] ["self", "table", "row"] (aH kW) := ⟨rfl, rfl, rfl, by decide +kernel, rfl, by decide +kernel, by decide +kernel⟩
theorem wK {C : Addr} (F : FunC K C "shows" "Best.shows" kW ["self", "table", "row"]) (T : Blt mg) (C_Best : Cl K mg "Best" ["mixture"] [] C) (cA : Def P w K mg base "is_mixture" ["thing", "count"] 4 g8) (cZ : Def P w K mg base "best_rows" ["table", "theirs"] 7 jb) : DefC P w K mg base C "shows" ["self", "table", "row"] 8 (wB C) := by
 have S := wR
 refine DefC.of F S (fun vs H Q E h => ?_) (fun f cdv A outer s H vs Q E hr h => ?_)
 ·obtain ⟨p, dx, a, l, U, m, n, row, qs, rfl, _⟩ := h
  rfl
 ·obtain ⟨p, dx, a, l, U, m, n, row, qs, rfl, hp, hU, g, hrow, hl, gq, k⟩ := h
  have c0 := C_Best.no "mixture" (by simp)
  obtain ⟨vs, b0, ha, h0, at0, hb0⟩ := hU.row (i := 0) (by rw [g.rows]; exact g.m1)
  have hn : ((U.getD 0 []).map V.int).length = n := by rw [List.length_map, (g.row g.m1).2]
  refine ⟨_, (aC (aM (jo (aD cA (hr.mono (by decide)) rfl (aa (bB (pv 0) rfl) (aa (aK (bU K) (by rfl) T.len_ bx (aa (aQ (ixL K) (pv 1) aA (fun _ _ => rfl)) ak aF) (he := aF)) ak aN) aR) (he := aR)) (gR (dJ (inK K) (pv 2) (aQ (ixT K) (aD cZ (hr.mono (by decide)) rfl (aa (pv 1) (aa (bB (pv 0) rfl) ak aR) aj) (he := aj)) aA (fun _ _ => rfl)) rfl))))), ?_⟩
  refine ⟨_, rfl, p, C, dx, _, _, rfl, hp, C_Best.cl, c0, gD l, _, rfl, a, vs, 0, _, rfl, rfl, SqL.of ha, at0, b0, _, rfl, .inl (SqL.of hb0), l, qs, _, rfl, hl, gq, fun H1 s1 => ⟨_, rfl, ?_⟩⟩
  rw [hn]
  cases hx : bT qs n with
  | false =>
   refine bK ?_
   have e : lQ U n row qs = false := by unfold lQ; rw [hx]; rfl
   rw [e] at k
   exact k H1 s1
  | true =>
   refine cX ?_
   refine ⟨_, rfl, _, rfl, _, rfl, p, C, dx, _, _, rfl, s1 _ _ hp, C_Best.cl, c0, gD l, a, l, U, m, n, qs, rfl, hU.mono s1, g, hl.mono s1, gq, fun bl bp bq mx H2 s2 hbl hbl2 hmx hle hbq => ?_⟩
   refine ⟨bq, _, 0, _, rfl, rfl, SqT.of hbq, rfl, bl, _, rfl, .inl (SqL.of hbl2), rfl, vK _, ?_⟩
   rw [yM, uZ g gq hrow hmx hle]
   have e : lQ U n row qs = !(U.any fun r => ltQ (aW (U.getD row []) qs) (aW r qs)) := by unfold lQ; rw [hx]; rfl
   rw [e] at k
   exact k H2 (s1.trans s2)
abbrev iZ : Stmt := inClass (top 49) 1
theorem tO : FnScope ["self", "table", "row", "gains"] ["self", "table", "row"] (aH iZ) := ⟨rfl, rfl, rfl, by decide +kernel, rfl, by decide +kernel, by decide +kernel⟩
theorem tE {C : Addr} (F : FunC K C "shows" "Beaten.shows" iZ ["self", "table", "row"]) (T : Blt mg) (C_Beaten : Cl K mg "Beaten" ["mixture"] [] C) (cA : Def P w K mg base "is_mixture" ["thing", "count"] 4 g8) (cG : Def P w K mg base "all_get" ["rows", "mixture"] 6 ji)
  (bL : Def P w K mg base "columns_of" ["table"] 2 eZ) (b_ : Def P w K mg base "below" ["one", "other"] 1 (dm K)) : DefC P w K mg base C "shows" ["self", "table", "row"] 8 (wF C) := by
 have S := tO
 refine DefC.of F S (fun vs H Q E h => ?_) (fun f cdv A outer s H vs Q E hr h => ?_)
 ·obtain ⟨p, dx, a, l, U, m, n, row, qs, rfl, _⟩ := h
  rfl
 ·obtain ⟨p, dx, a, l, U, m, n, row, qs, rfl, hp, hU, g, hrow, hl, gq, k⟩ := h
  have c0 := C_Beaten.no "mixture" (by simp)
  have m4 := g.m4
  have n4 := g.n4
  obtain ⟨vs, b0, ha, h0, at0, hb0⟩ := hU.row (i := row) (by rw [g.rows]; exact hrow)
  have hm : vs.length = m := by
   obtain ⟨vs', ha', hp'⟩ := id hU
   rw [ha] at ha'
   cases ha'
   rw [hp'.length, g.rows]
  obtain ⟨zs, hz, pz⟩ := id hl
  have hrowU := g.row hrow
  refine ⟨_, (aB (bu (PW.pt (cR (bJ (bA (aD cA (hr.mono (by decide)) rfl (aa (bB (pv 0) rfl) (aa (aK (bU K) (by rfl) T.len_ bx (aa (pv 1) ak aj) (he := aj)) ak aN) aR) (he := aR)))) (cH (bh (jM K hr.units) (aQ (ixL K) (bB (pv 0) rfl) (pv 2) (fun _ _ => rfl)) (bH (aa aA (aa aA ak aG) aG)) (a_ _)))))
    (aC (aM bQ)) aZ)
   (aB (aY (i := 3) S.nd rfl (Or.inl rfl) (aD cG (hr.mono (by decide)) rfl (aa (aD bL (hr.mono (by decide)) rfl (aa (pv 1) ak aj) (he := aj)) (aa (bB (pv 0) rfl) ak aR) aN) (he := aN)))
   (aC (aM (aK (pN K) (by rfl) T.all_ jt (aa (bj rfl (N' := ["number", "gain"]) (src := [none, none]) rfl (pY K rfl T.zip_ (aa (aQ (ixL K) (pv 1) (pv 2) (fun _ _ => rfl)) (aa (pv 3) ak aj) aF)) (fun _ _ _ _ _ => (pgT K (n := 2) (bC (aP (i := 0) (show (["number", "gain"] : List Str).Nodup from by decide +kernel) rfl (Or.inl rfl)) (bC (aP (i := 1) (show (["number", "gain"] : List Str).Nodup from by decide +kernel) rfl (Or.inl rfl)) dY)))) (fun _ _ _ _ _ => bf) (fun _ _ _ _ _ => (aD b_ (hr.mono (by decide)) rfl (aa (bH (aa (pv 0) (aa aA ak aG) aj)) (aa (pv 1) ak aj) cj) (he := cj)))) ak aU) (he := aU)))))), ?_⟩
  refine ⟨_, rfl, p, C, dx, _, _, rfl, hp, C_Beaten.cl, c0, gD l, _, rfl, a, vs, rfl, .inl (SqL.of ha), l, qs, vs.length, rfl, hl, gq, fun H1 s1 => ⟨_, rfl, ?_⟩⟩
  rw [hm]
  cases hx : bT qs m with
  | false =>
   refine cX ?_
   have e : fG U m n row qs = false := by unfold fG; rw [hx]; rfl
   rw [e] at k
   exact k H1 s1
  | true =>
  refine bK ?_
  have ql := fJ hx
  have hzl : row < zs.length := by rw [pz.length, ql]; exact hrow
  obtain ⟨y, ey, b, eb, hb⟩ := pz.get2 (List.getElem?_eq_getElem hzl)
  have az : atI zs (row : Int) = some (.ref b) := gP (by rw [List.getElem?_eq_getElem hzl, eb])
  have gy : qs.getD row (0, 0) = y := gQ ey
  refine ⟨_, rfl, p, C, dx, _, _, rfl, s1 _ _ hp, C_Beaten.cl, c0, gD l, _, rfl, l, zs, (row : Int), _, rfl, rfl, SqL.of (s1 _ _ hz), az, (by show 2 <= sizeLine; decide), fun t ht => ?_⟩
  have st := s1.trans (ao (o := .tup [.int 0, .int 1]) ht)
  have ht1 : upd H1 t (.tup [.int 0, .int 1]) t = some (.tup [.int 0, .int 1]) := aq
  generalize upd H1 t (.tup [.int 0, .int 1]) = H2 at st ht1 ⊢
  refine ⟨_, _, bV (st _ _ hb), bV ht1, rfl, (by show 1 <= 40; decide), _, rfl, ?_⟩
  rw [fO]
  by_cases e01 : y = (0, 1)
  rotate_left
  ·refine ifP (by rw [decide_eq_false (fun z => e01 (Prod.ext (congrArg Prod.fst z) (congrArg Prod.snd z)))]; rfl) ?_
   have e : fG U m n row qs = false := by unfold fG; rw [hx, gy, decide_eq_false e01]; rfl
   rw [e] at k
   exact k H2 st
  refine ifN (by rw [e01]; decide) ?_
  refine ⟨_, rfl, a, U, m, n, rfl, hU.mono st, g, fun pc H3 s3 own => ?_⟩
  have s03 := st.trans s3
  refine ⟨_, rfl, p, C, dx, _, _, rfl, s03 _ _ hp, C_Beaten.cl, c0, gD l, pc, l, cols U n, n, m, qs, rfl, own.tab, dZ g, hl.mono s03, gq, fun pg H4 s4 hpg hG => ?_⟩
  have s04 := s03.trans s4
  obtain ⟨gv, hgv, prg⟩ := id hG
  have gl : gv.length = n := by rw [prg.length, List.length_map, eX]
  have hbU := s04 _ _ hb0
  refine ⟨_, rfl, _, rfl, a, vs, (row : Int), _, rfl, rfl, SqL.of (s04 _ _ ha), at0, _, rfl, b0, pg, rfl, ⟨_, SqL.of hbU⟩, ⟨_, SqL.of hgv⟩, rN (xs := (U.getD row []).map V.int) (ys := gv) (fun i zs H' => Same H4 H' /\ zs = (((cols U n).map fun c => ltQ (c.getD row 0, 1) (aW c qs)).take i).map V.bl) ⟨Same.refl _, by simp⟩ ?_ (by rw [List.length_map, hrowU.2]; exact Nat.le_of_lt (aO (by omega))) ?_ ?_⟩
  ·rintro i zs' H' ⟨s5, rfl⟩
   refine ⟨SqL.of (s5 _ _ hbU), SqL.of (s5 _ _ hgv), ?_⟩
   rw [List.length_map, List.length_take]
   omega
  ·rintro i x y' q zs' H' hx' hy hq ⟨s5, rfl⟩
   obtain ⟨rfl, hi⟩ := int_at hx'
   obtain ⟨v, ev, d, rfl, hd⟩ := prg.get2 hy
   rw [List.getElem?_map] at ev
   obtain ⟨c, ec, rfl⟩ := Option.map_eq_some_iff.mp ev
   have mc := List.mem_of_getElem? ec
   have szc := (dZ g).sz mc
   have hin : i < n := by rw [<- hrowU.2]; exact hi
   have ecol : c = U.map fun r => r.getD i 0 := by
    unfold cols at ec
    rw [List.getElem?_map, List.getElem?_range hin] at ec
    cases ec
    rfl
   have ek : c.getD row 0 = (U.getD row []).getD i 0 := by
    rw [ecol]
    exact map_getD (fun r => r.getD i 0) U 0 (by rw [g.rows]; exact hrow)
   have s6 := s5.trans (ao (o := .tup [.int ((U.getD row []).getD i 0), .ref d]) hq)
   refine ⟨q, _, rfl, SqT.of aq, rfl, _, _, rfl, _, _, rfl, rfl, ?_⟩
   refine zx ?_
   refine ⟨_, rfl, (by show 2 <= sizeLine; decide), fun r hr' => ?_⟩
   have s7 := s6.trans (ao (o := .tup [.int ((U.getD row []).getD i 0), .int 1]) hr')
   have zk : Sz 1000 ((U.getD row []).getD i 0) := by
    rw [<- ek, ecol, map_getD (fun r => r.getD i 0) U 0 (by rw [g.rows]; exact hrow)]
    exact (pX (g.sz hrowU.1) i).mono (by decide)
   refine ⟨_, rfl, r, d, _, _, _, _, rfl, SqT.of aq, SqT.of (s7 _ _ hd), zk, sz1, (dD szc gq).mono (by decide), (dF szc gq).mono (by decide), ⟨s7, ?_⟩⟩
   rw [ux (l := (cols U n).map fun c => ltQ (c.getD row 0, 1) (aW c qs)) (x := ltQ (c.getD row 0, 1) (aW c qs)) (by rw [List.getElem?_map, ec]; rfl), List.map_append, ek]
   rfl
  ·rintro zs' H' ⟨s5, rfl⟩ q hq
   have el : min ((U.getD row []).map V.int).length gv.length = n := by rw [List.length_map, hrowU.2, gl]; omega
   rw [el, List.take_of_length_le (by rw [List.length_map, eX]; exact Nat.le_refl _)] at *
   refine ⟨q, _, rfl, SqL.of aq, ?_⟩
   have e : fG U m n row qs = ((cols U n).map fun c => ltQ (c.getD row 0, 1) (aW c qs)).all id := by
    unfold fG
    rw [hx, gy, e01, List.all_map]
    rfl
   rw [e] at k
   exact k _ ((s04.trans s5).trans (ao hq))
def vI : Sp := fun vs H Q _ => ∃ (a l : Addr) (U : List (List Int)) (m n row : Nat) (qs : List (Int × Int)), vs = [.ref a, .int row, .ref l] /\ IsTab H a U /\ Gd U m n /\ row < m /\ IsFrs H l qs /\ GQ qs /\ ∀ H', Same H H' -> Q (.bl (fG U m n row qs)) H'
def yN : Sp := fun vs H Q _ => ∃ (a l : Addr) (U : List (List Int)) (m n row : Nat) (qs : List (Int × Int)), vs = [.ref a, .int row, .ref l] /\ IsTab H a U /\ Gd U m n /\ row < m /\ IsFrs H l qs /\ GQ qs /\ ∀ H', Same H H' -> Q (.bl (lQ U n row qs)) H'
abbrev jZ : Stmt := top 71
theorem wY : FnScope ["_law_table_here", "_law_row", "_law_mixture_here"] ["_law_table_here", "_law_row", "_law_mixture_here"] (aH jZ) := ⟨rfl, rfl, rfl, by decide +kernel, rfl, by decide +kernel, by decide +kernel⟩
theorem wV (F : FunM K mg "_law_beats" jZ ["_law_table_here", "_law_row", "_law_mixture_here"]) (T : Blt mg) (bD : Def P w K mg base "_law_mixture" ["_law_mixture_here", "_law_many"] 4 g8) (bY : Def P w K mg base "_law_less" ["_law_one", "_law_other"] 1 (dm K)) (bM : Def P w K mg base "_law_sum" ["_law_worths", "_law_shares"] 3 jY)
  (cB : Def P w K mg base "_law_across" ["_law_table_here"] 1 eZ) : Def P w K mg base "_law_beats" ["_law_table_here", "_law_row", "_law_mixture_here"] 5 vI := by
 have S := wY
 refine Def.of F S (fun vs H Q E h => ?_) (fun f cdv A outer s H vs Q E hr h => ?_)
 ·obtain ⟨a, l, U, m, n, row, qs, rfl, _⟩ := h
  rfl
 ·obtain ⟨a, l, U, m, n, row, qs, rfl, hU, g, hrow, hl, gq, k⟩ := h
  have m4 := g.m4
  have n4 := g.n4
  obtain ⟨vs, ha, hp'⟩ := id hU
  have hm : vs.length = m := by rw [hp'.length, g.rows]
  obtain ⟨zs, hz, pz⟩ := id hl
  refine ⟨_, (aB (bu (PW.pt (cR (bJ (bA (aD bD (hr.mono (by decide)) rfl (aa (pv 2) (aa (aK (bU K) (by rfl) T.len_ bx (aa (pv 0) ak aj) (he := aj)) ak aN) aj) (he := aj)))) (cH (bh (jM K hr.units) (aQ (ixL K) (pv 2) (pv 1) (fun _ _ => rfl)) (bH (aa aA (aa aA ak aG) aG)) (a_ _)))))
    (aC (aM bQ)) aZ)
   (aC (aM (aK (pN K) (by rfl) T.all_ jt (aa (bj rfl (N' := ["_law_column", "_law_row", "_law_mixture_here"]) (src := [none, some 1, some 2]) rfl (piL K (aD cB (hr.mono (by decide)) rfl (aa (pv 0) ak aj) (he := aj))) (fun _ _ _ _ _ => (aP (i := 0) (show (["_law_column", "_law_row", "_law_mixture_here"] : List Str).Nodup from by decide +kernel) rfl (Or.inl rfl))) (fun _ _ _ _ _ => bf) (fun _ _ _ _ _ => (aD bY (hr.mono (by decide)) rfl (aa (bH (aa (aQ (ixL K) (pv 0) (pv 1) (fun _ _ => rfl)) (aa aA ak aG) aF)) (aa (aD bM (hr.mono (by decide)) rfl (aa (pv 0) (aa (pv 2) ak aj) aj) (he := aj)) ak aN) cj) (he := cj)))) ak aU) (he := aU))))), ?_⟩
  refine ⟨_, rfl, _, rfl, a, vs, rfl, .inl (SqL.of ha), l, qs, vs.length, rfl, hl, gq, fun H1 s1 => ⟨_, rfl, ?_⟩⟩
  rw [hm]
  cases hx : bT qs m with
  | false =>
   refine cX ?_
   have e : fG U m n row qs = false := by unfold fG; rw [hx]; rfl
   rw [e] at k
   exact k H1 s1
  | true =>
  refine bK ?_
  have ql := fJ hx
  have hzl : row < zs.length := by rw [pz.length, ql]; exact hrow
  obtain ⟨y, ey, b, eb, hb⟩ := pz.get2 (List.getElem?_eq_getElem hzl)
  have az : atI zs (row : Int) = some (.ref b) := gP (by rw [List.getElem?_eq_getElem hzl, eb])
  have gy : qs.getD row (0, 0) = y := gQ ey
  refine ⟨_, rfl, _, rfl, l, zs, (row : Int), _, rfl, rfl, SqL.of (s1 _ _ hz), az, (by show 2 <= sizeLine; decide), fun t ht => ?_⟩
  have st := s1.trans (ao (o := .tup [.int 0, .int 1]) ht)
  have ht1 : upd H1 t (.tup [.int 0, .int 1]) t = some (.tup [.int 0, .int 1]) := aq
  generalize upd H1 t (.tup [.int 0, .int 1]) = H2 at st ht1 ⊢
  refine ⟨_, _, bV (st _ _ hb), bV ht1, rfl, (by show 1 <= 40; decide), _, rfl, ?_⟩
  rw [fO]
  by_cases e01 : y = (0, 1)
  rotate_left
  ·refine ifP (by rw [decide_eq_false (fun z => e01 (Prod.ext (congrArg Prod.fst z) (congrArg Prod.snd z)))]; rfl) ?_
   have e : fG U m n row qs = false := by unfold fG; rw [hx, gy, decide_eq_false e01]; rfl
   rw [e] at k
   exact k H2 st
  refine ifN (by rw [e01]; decide) ?_
  refine ⟨_, rfl, a, U, m, n, rfl, hU.mono st, g, fun pc H4 s4 own => ?_⟩
  have s14 := st.trans s4
  obtain ⟨cv, hcv, prc⟩ := own.tab
  have cl : cv.length = n := by rw [prc.length, eX]
  refine ⟨pc, rfl, ⟨_, SqL.of hcv⟩, bw (xs := cv) (fun x y _ => ∀ r, IsRow H4 x r -> y = .bl (ltQ (r.getD row 0, 1) (aW r qs))) (fun _ _ _ _ _ h => h) (SqL.of hcv) (by rw [cl]; exact Nat.le_of_lt (aO (by omega))) ?_ ?_⟩
  ·intro x hx' H5 s5 Q' q
   obtain ⟨r, hr5, hrw⟩ := prc.mem2 hx'
   obtain ⟨b, rfl, hb⟩ := id hrw
   have s15 := s14.trans s5
   have szr := (dZ g).sz hr5
   have rl : row < r.length := by rw [n6 hr5, g.rows]; exact hrow
   refine ⟨_, rfl, _, rfl, b, _, (row : Int), _, rfl, rfl, SqL.of (s5 _ _ hb), iV rl, (by show 2 <= sizeLine; decide), fun t5 ht5 => ?_⟩
   have s6 := ao (o := .tup [.int (r.getD row 0), .int 1]) ht5
   have e6 : upd H5 t5 (.tup [.int (r.getD row 0), .int 1]) t5 = some (.tup [.int (r.getD row 0), .int 1]) := aq
   generalize upd H5 t5 (.tup [.int (r.getD row 0), .int 1]) = H6 at s6 e6 ⊢
   refine ⟨_, rfl, _, rfl, b, l, r, qs, rfl, s6 _ _ (s5 _ _ hb), hl.mono (s15.trans s6), gq, szr, fun p7 H7 nw => ?_⟩
   exact ⟨t5, p7, _, _, _, _, rfl, SqT.of (nw.same _ _ e6), SqT.of nw.is, (pX szr row).mono (by decide), sz1, (dD szr gq).mono (by decide), (dF szr gq).mono (by decide), q _ H7 (s6.trans nw.same) fun r' h' => by rw [hrw.inj h']; rfl⟩
  intro ys H5 s5 prb qb hqb
  have eb := jT (fun r => ltQ (r.getD row 0, 1) (aW r qs)) prb prc
  subst eb
  refine ⟨qb, _, rfl, SqL.of aq, ?_⟩
  have e : fG U m n row qs = ((cols U n).map fun c => ltQ (c.getD row 0, 1) (aW c qs)).all id := by
   unfold fG
   rw [hx, gy, e01, List.all_map]
   rfl
  rw [e] at k
  exact k _ ((s14.trans s5).trans (ao hqb))
abbrev i_ : Stmt := top 72
theorem ue : FnScope ["_law_table_here", "_law_row", "_law_mixture_here", "_law_mine"] ["_law_table_here", "_law_row", "_law_mixture_here"] (aH i_) := ⟨rfl, rfl, rfl, by decide +kernel, rfl, by decide +kernel, by decide +kernel⟩
theorem rR (F : FunM K mg "_law_answers" i_ ["_law_table_here", "_law_row", "_law_mixture_here"]) (T : Blt mg) (bD : Def P w K mg base "_law_mixture" ["_law_mixture_here", "_law_many"] 4 g8) (bY : Def P w K mg base "_law_less" ["_law_one", "_law_other"] 1 (dm K)) (bM : Def P w K mg base "_law_sum" ["_law_worths", "_law_shares"] 3 jY) : Def P w K mg base "_law_answers" ["_law_table_here", "_law_row", "_law_mixture_here"] 5 yN := by
 have S := ue
 refine Def.of F S (fun vs H Q E h => ?_) (fun f cdv A outer s H vs Q E hr h => ?_)
 ·obtain ⟨a, l, U, m, n, row, qs, rfl, _⟩ := h
  rfl
 ·obtain ⟨a, l, U, m, n, row, qs, rfl, hU, g, hrow, hl, gq, k⟩ := h
  have m4 := g.m4
  have n4 := g.n4
  obtain ⟨vs, b0, ha, h0, at0, hb0⟩ := hU.row (i := 0) (by rw [g.rows]; exact g.m1)
  obtain ⟨vs', b1, ha', h1, at1, hb1⟩ := hU.row (i := row) (by rw [g.rows]; exact hrow)
  have hn : ((U.getD 0 []).map V.int).length = n := by rw [List.length_map, (g.row g.m1).2]
  have hrowU := g.row hrow
  refine ⟨_, (aB (bu (bJ (bA (aD bD (hr.mono (by decide)) rfl (aa (pv 2) (aa (aK (bU K) (by rfl) T.len_ bx (aa (aQ (ixL K) (pv 0) aA (fun _ _ => rfl)) ak aF) (he := aF)) ak aN) aj) (he := aj))))
    (aC (aM bQ)) aZ)
   (aB (aY (i := 3) S.nd rfl (Or.inr rfl) (aD bM (hr.mono (by decide)) rfl (aa (aQ (ixL K) (pv 0) (pv 1) (fun _ _ => rfl)) (aa (pv 2) ak aj) aF) (he := aF)))
   (aC (aM (lW (aK (pB K) (by rfl) T.any_ jh (aa (bj rfl (N' := ["_law_other", "_law_mine", "_law_mixture_here"]) (src := [none, some 3, some 2]) rfl (piL K (pv 0)) (fun _ _ _ _ _ => (aP (i := 0) (show (["_law_other", "_law_mine", "_law_mixture_here"] : List Str).Nodup from by decide +kernel) rfl (Or.inl rfl))) (fun _ _ _ _ _ => bf) (fun _ _ _ _ _ => (aD bY (hr.mono (by decide)) rfl (aa (pv 1) (aa (aD bM (hr.mono (by decide)) rfl (aa (pv 0) (aa (pv 2) ak aj) aj) (he := aj)) ak aN) aj) (he := aj)))) ak aU) (he := aU))))))), ?_⟩
  refine ⟨_, rfl, _, rfl, a, vs, 0, _, rfl, rfl, SqL.of ha, at0, b0, _, rfl, .inl (SqL.of hb0), l, qs, _, rfl, hl, gq, fun H1 s1 => ⟨_, rfl, ?_⟩⟩
  rw [hn]
  cases hx : bT qs n with
  | false =>
   refine cX ?_
   have e : lQ U n row qs = false := by unfold lQ; rw [hx]; rfl
   rw [e] at k
   exact k H1 s1
  | true =>
  refine bK ?_
  refine ⟨_, rfl, _, rfl, a, vs', (row : Int), _, rfl, rfl, SqL.of (s1 _ _ ha'), at1, _, rfl, b1, l, U.getD row [], qs, rfl, s1 _ _ hb1, hl.mono s1, gq, g.sz hrowU.1, fun p2 H2 nw => ?_⟩
  have s2 := s1.trans nw.same
  have szo := g.sz hrowU.1
  obtain ⟨rv, hrv, prr⟩ := hU.mono s2
  have rl : rv.length = m := by rw [prr.length, g.rows]
  refine ⟨_, rfl, a, rfl, ⟨_, SqL.of hrv⟩, bw (xs := rv) (fun x y _ => ∀ r, IsRow H2 x r -> y = .bl (ltQ (aW (U.getD row []) qs) (aW r qs))) (fun _ _ _ _ _ h => h) (SqL.of hrv) (by rw [rl]; exact Nat.le_of_lt (aO (by omega))) ?_ ?_⟩
  ·intro x hx' H3 s3 Q' q
   obtain ⟨r, hr3, hrw⟩ := prr.mem2 hx'
   obtain ⟨b, rfl, hb⟩ := id hrw
   have szr := g.sz hr3
   refine ⟨_, rfl, _, rfl, _, rfl, b, l, r, qs, rfl, s3 _ _ hb, hl.mono (s2.trans s3), gq, szr, fun p4 H4 nw4 => ?_⟩
   exact ⟨p2, p4, _, _, _, _, rfl, SqT.of (nw4.same _ _ (s3 _ _ nw.is)), SqT.of nw4.is, (dD szo gq).mono (by decide), (dF szo gq).mono (by decide), (dD szr gq).mono (by decide), (dF szr gq).mono (by decide), q _ H4 nw4.same fun r' h' => by rw [hrw.inj h']; rfl⟩
  intro ys H3 s3 prb qb hqb
  have eb := jT (fun r => ltQ (aW (U.getD row []) qs) (aW r qs)) prb prr
  subst eb
  refine ⟨qb, _, rfl, SqL.of aq, ?_⟩
  have ea : (U.map fun r => ltQ (aW (U.getD row []) qs) (aW r qs)).any id = U.any fun r => ltQ (aW (U.getD row []) qs) (aW r qs) := by rw [List.any_map]; rfl
  rw [ea]
  refine ⟨_, rfl, ?_⟩
  have e : lQ U n row qs = !(U.any fun r => ltQ (aW (U.getD row []) qs) (aW r qs)) := by unfold lQ; rw [hx]; rfl
  rw [e] at k
  exact k _ ((s2.trans s3).trans (ao hqb))
def shQ (qs : List (Int × Int)) (i : Nat) : List Int := ((List.range i).filter fun j => decide (qs.getD j (0, 0) ≠ (0, 1))).map fun (j : Nat) => (j : Int)
def oO : Sp := fun vs H Q _ => ∃ (a : Addr) (qs : List (Int × Int)), vs = [.ref a] /\ IsFrs H a qs /\ qs.length <= 1000 /\ ∀ p H', New H H' p (.lst ((shQ qs qs.length).map V.int)) -> Q (.ref p) H'
theorem pR (qs : List (Int × Int)) (n : Nat) : (shQ qs n).length <= n := by
 unfold shQ
 rw [List.length_map]
 exact Nat.le_trans (List.length_filter_le _ _) (by rw [List.length_range]; exact Nat.le_refl _)
theorem mem_shQ {qs : List (Int × Int)} {n i : Nat} : (i : Int) ∈ shQ qs n ↔ i < n /\ qs.getD i (0, 0) ≠ (0, 1) := by
 unfold shQ
 simp only [List.mem_map, List.mem_filter, List.mem_range, decide_eq_true_eq]
 constructor
 ·rintro ⟨j, ⟨hj, hz⟩, e⟩
  have : j = i := by omega
  subst this
  exact ⟨hj, hz⟩
 ·rintro ⟨h1, h2⟩
  exact ⟨i, ⟨h1, h2⟩, rfl⟩
abbrev qO : Stmt := top 43
theorem DN : FnScope ["mixture"] ["mixture"] (aH qO) := ⟨rfl, rfl, rfl, by decide +kernel, rfl, by decide +kernel, by decide +kernel⟩
theorem Dl (F : FunM K mg "shared" qO ["mixture"]) (T : Blt mg) : Def P w K mg base "shared" ["mixture"] 1 oO := by
 have S := DN
 refine Def.of F S (fun vs H Q E h => ?_) (fun f cdv A outer s H vs Q E hr h => ?_)
 ·obtain ⟨a, qs, rfl, _⟩ := h
  rfl
 ·obtain ⟨a, qs, rfl, hW, n4, k⟩ := h
  obtain ⟨vs, ha, pr⟩ := id hW
  have hl : vs.length = qs.length := pr.length
  refine ⟨_, (aC (aM (bj rfl (N' := ["card", "share"]) (src := [none, none]) rfl (Fd K rfl T.enumerate_ (aa (pv 0) ak aj)) (fun _ _ _ _ _ => (pgT K (n := 2) (bC (aP (i := 0) (show (["card", "share"] : List Str).Nodup from by decide +kernel) rfl (Or.inl rfl)) (bC (aP (i := 1) (show (["card", "share"] : List Str).Nodup from by decide +kernel) rfl (Or.inl rfl)) dY)))) (fun _ _ _ _ _ => (Av (bh (jM K hr.units) (pv 1) (bH (aa aA (aa aA ak aG) aG)) (a_ _)))) (fun _ _ _ _ _ => (pv 0))))), ?_⟩
  refine ⟨_, rfl, a, vs, rfl, ha, vO (K := K) (xs := vs) (fun i zs H' => zs = (shQ qs i).map V.int /\ Same H H') ⟨rfl, Same.refl _⟩ ?_ (by rw [hl]; exact Nat.le_of_lt (aO (by omega))) ?_ ?_⟩
  ·rintro i zs H' ⟨rfl, s5⟩
   refine ⟨SqL.of (s5 _ _ ha), ?_⟩
   rw [List.length_map]
   exact pR qs i
  ·rintro i x q zs H' hi hq ⟨rfl, s5⟩
   obtain ⟨y, hy, b, rfl, hb⟩ := pr.get2 hi
   have eu : qs.getD i (0, 0) = y := gQ hy
   have s6 := s5.trans (ao (o := .tup [.int i, .ref b]) hq)
   refine ⟨q, _, rfl, SqT.of aq, rfl, _, _, rfl, _, _, rfl, rfl, ?_⟩
   refine ⟨_, rfl, (by show 2 <= sizeLine; decide), fun t ht => ?_⟩
   have s7 := s6.trans (ao (o := .tup [.int 0, .int 1]) ht)
   refine ⟨_, _, bV (s7 _ _ hb), bV aq, rfl, (by show 1 <= 40; decide), _, rfl, ?_⟩
   rw [fO]
   have ei : shQ qs (i + 1) = shQ qs i ++ (if y ≠ (0, 1) then [(i : Int)] else []) := by
    unfold shQ
    rw [List.range_succ, List.filter_append, List.map_append]
    congr 1
    by_cases e : y = (0, 1)
    ·rw [List.filter_cons_of_neg (by show ¬ decide (qs.getD i (0, 0) ≠ (0, 1)) = true; rw [eu]; simp [e]), if_neg (by simpa using e)]
     rfl
    ·rw [List.filter_cons_of_pos (by show decide (qs.getD i (0, 0) ≠ (0, 1)) = true; rw [eu]; simpa using e), if_pos e]
     rfl
   by_cases e : y = (0, 1)
   ·refine ifN (by rw [e]; decide) ?_
    refine ⟨?_, s7⟩
    rw [ei, if_neg (by simpa using e), List.append_nil]
   ·refine ifP (by rw [decide_eq_false (fun z => e (Prod.ext (congrArg Prod.fst z) (congrArg Prod.snd z)))]; rfl) ?_
    refine ⟨_, rfl, ?_, s7⟩
    rw [ei, if_pos e, List.map_append]
    rfl
  ·rintro zs H' ⟨rfl, s5⟩ l hl'
   rw [hl]
   exact k l _ (New.of s5 hl')
theorem tV (f : Int -> Bool) : ∀ {r : List Int} {ys : List V}, Paired (fun x y => ∀ i, x = V.int i -> y = V.bl (f i)) (r.map V.int) ys -> ys = (r.map f).map V.bl
 | [], _, h => by cases h; rfl
 | i :: r, _, h => by
  cases h with
  | cons h t => rw [h i rfl, tV f t]; rfl
def qX : Sp := fun vs H Q _ => ∃ (a b : Addr) (xs ys : List Int), vs = [.ref a, .ref b] /\ H a = some (.lst (xs.map V.int)) /\ H b = some (.lst (ys.map V.int)) /\ xs.length <= 1000 /\ ∀ H', Same H H' -> Q (.bl (xs.all fun x => decide (x ∈ ys))) H'
abbrev lM : Stmt := top 44
theorem xO : FnScope ["cards", "others"] ["cards", "others"] (aH lM) := ⟨rfl, rfl, rfl, by decide +kernel, rfl, by decide +kernel, by decide +kernel⟩
theorem yR (F : FunM K mg "all_among" lM ["cards", "others"]) (T : Blt mg) : Def P w K mg base "all_among" ["cards", "others"] 1 qX := by
 have S := xO
 refine Def.of F S (fun vs H Q E h => ?_) (fun f cdv A outer s H vs Q E hr h => ?_)
 ·obtain ⟨a, b, xs, ys, rfl, _⟩ := h
  rfl
 ·obtain ⟨a, b, xs, ys, rfl, ha, hb, hl, k⟩ := h
  refine ⟨_, (aC (aM (aK (pN K) (by rfl) T.all_ jt (aa (bj rfl (N' := ["card", "others"]) (src := [none, some 1]) rfl (piL K (pv 0)) (fun _ _ _ _ _ => (aP (i := 0) (show (["card", "others"] : List Str).Nodup from by decide +kernel) rfl (Or.inl rfl))) (fun _ _ _ _ _ => bf) (fun _ _ _ _ _ => (dJ (inK K) (pv 0) (pv 1) rfl))) ak aU) (he := aU)))), ?_⟩
  refine ⟨_, rfl, a, rfl, ⟨_, SqL.of ha⟩, bw (xs := xs.map V.int) (fun x y _ => ∀ i, x = V.int i -> y = .bl (decide (i ∈ ys))) (fun _ _ _ _ _ h => h) (SqL.of ha) (by rw [List.length_map]; exact Nat.le_of_lt (aO hl)) ?_ ?_⟩
  ·intro x hx H1 s1 Q' q
   obtain ⟨i, hi, rfl⟩ := List.mem_map.mp hx
   refine ⟨_, rfl, _, rfl, b, _, rfl, .inl (SqL.of (s1 _ _ hb)), rfl, vK ys, q _ H1 (Same.refl _) fun j e => ?_⟩
   cases e
   exact congrArg V.bl (yM i ys)
  ·intro zs H' s' pr q hq
   have e := tV (fun i => decide (i ∈ ys)) pr
   subst e
   refine ⟨q, _, rfl, SqL.of aq, ?_⟩
   rw [List.all_map]
   exact k _ (s'.trans (ao hq))
def jd (U : List (List Int)) (qs : List (Int × Int)) (i : Nat) : Bool := !(U.any fun r => ltQ (aW (U.getD i []) qs) (aW r qs))
def abB (U : List (List Int)) (m : Nat) (ps qs : List (Int × Int)) : Bool := (List.range m).all fun i => decide (ps.getD i (0, 0) = (0, 1)) || jd U qs i
theorem Cg {U : List (List Int)} {m n : Nat} {ps qs : List (Int × Int)} {mx : Int × Int} (g : Gd U m n) (gq : GQ qs) (hmx : mx ∈ U.map fun r => aW r qs) (hle : ∀ x ∈ U.map (fun r => aW r qs), leQ x mx) :
  ((shQ ps m).all fun x => decide (x ∈ plQ (U.map fun r => aW r qs) mx m)) = abB U m ps qs := by
 rw [Bool.eq_iff_iff, List.all_eq_true]
 unfold abB
 rw [List.all_eq_true]
 constructor
 ·intro h i hi
  have hi := List.mem_range.mp hi
  by_cases e : ps.getD i (0, 0) = (0, 1)
  ·rw [decide_eq_true e]; rfl
  ·have := h i (mem_shQ.mpr ⟨hi, e⟩)
   rw [uZ g gq hi hmx hle] at this
   show (_ || jd U qs i) = true
   unfold jd
   rw [this, Bool.or_true]
 ·intro h x hx
  obtain ⟨i, hi, rfl⟩ : ∃ i : Nat, i < m /\ x = (i : Int) := by
   unfold shQ at hx
   obtain ⟨j, hj, rfl⟩ := List.mem_map.mp hx
   exact ⟨j, List.mem_range.mp (List.mem_filter.mp hj).1, rfl⟩
  have h1 := h i (List.mem_range.mpr hi)
  rw [decide_eq_false (mem_shQ.mp hx).2, Bool.false_or] at h1
  rw [uZ g gq hi hmx hle]
  exact h1
def iI (l1 l2 : Addr) : List (Str × V) := cQ "theirs" (.ref l2) (cQ "mine" (.ref l1) [])
theorem J2 : ¬ (("mine" : Str) = "theirs") := by decide +kernel
theorem jk (l1 l2 : Addr) : (iI l1 l2).lookup ("mine" : Str) = some (.ref l1) := by
 unfold iI
 rw [bF, if_neg J2, bF, if_pos rfl]
theorem gr (l1 l2 : Addr) : (iI l1 l2).lookup ("theirs" : Str) = some (.ref l2) := by
 unfold iI
 rw [bF, if_pos rfl]
theorem Hn (l1 l2 : Addr) {x : Str} (h1 : ¬ x = "theirs") (h2 : ¬ x = "mine") : (iI l1 l2).lookup x = none := by
 unfold iI
 rw [bF, if_neg h1, bF, if_neg h2]
 rfl
def qM (C : Addr) : Sp := fun vs H Q _ => ∃ (p dx b c : Addr) (xs ys : List V), vs = [.ref p, .ref b, .ref c] /\ H p = some (.ins C dx []) /\ H b = some (.lst xs) /\ H c = some (.lst ys) /\
 ∀ l1 l2 H', H l1 = none -> H l2 = none -> l1 ≠ l2 -> H' l1 = some (.lst xs) -> H' l2 = some (.lst ys) -> H' p = some (.ins C dx (iI l1 l2)) -> (∀ q o, H q = some o -> q ≠ p -> H' q = some o) -> Q .non H'
abbrev iB : Stmt := inClass (top 48) 0
theorem uh : FnScope ["self", "mine", "theirs"] ["self", "mine", "theirs"] (aH iB) := ⟨rfl, rfl, rfl, by decide +kernel, rfl, by decide +kernel, by decide +kernel⟩
theorem tW {C : Addr} (F : FunC K C "__init__" "Settled.__init__" iB ["self", "mine", "theirs"]) (T : Blt mg) (C_Settled : Cl K mg "Settled" ["mine", "theirs"] [] C) : DefC P w K mg base C "__init__" ["self", "mine", "theirs"] 1 (qM C) := by
 have S := uh
 refine DefC.of F S (fun vs H Q E h => ?_) (fun f cdv A outer s H vs Q E hr h => ?_)
 ·obtain ⟨p, dx, b, c, xs, ys, rfl, _⟩ := h
  rfl
 ·obtain ⟨p, dx, b, c, xs, ys, rfl, hp, hb, hc, k⟩ := h
  have nbp : b ≠ p := fB hb hp (by intro z; cases z)
  have ncp : c ≠ p := fB hc hp (by intro z; cases z)
  refine ⟨_, (aB (j5 (pv 0) (cu (dH K) (by rfl) T.list_ cD (aa (pv 1) ak aj) (he := aj)) rfl)
   (aC (j5 (pv 0) (cu (dH K) (by rfl) T.list_ cD (aa (pv 2) ak aj) (he := aj)) rfl))), ?_⟩
  refine ⟨_, rfl, b, xs, rfl, .inl (SqL.of hb), fun l1 h1 => ?_⟩
  have np1 : p ≠ l1 := aV hp h1
  have nc1 : c ≠ l1 := aV hc h1
  refine ⟨_, rfl, p, C, dx, [], rfl, ao h1 _ _ hp, C_Settled.cl, C_Settled.no _ (by simp), (by show 0 < 1000; decide), ?_⟩
  refine ⟨_, rfl, c, ys, rfl, .inl (SqL.of (by rw [aJ ncp, aJ nc1]; exact hc)), fun l2 h2 => ?_⟩
  have np2 : p ≠ l2 := fun e => by rw [<- e, aq] at h2; cases h2
  have n12 : l1 ≠ l2 := fun e => by rw [<- e, aJ np1.symm, aq] at h2; cases h2
  have h2' : H l2 = none := by rw [aJ np2.symm, aJ n12.symm] at h2; exact h2
  refine ⟨_, rfl, p, C, dx, _, rfl, (by rw [aJ np2, aq]), C_Settled.cl, C_Settled.no _ (by simp), (by show 1 < 1000; decide), ?_⟩
  refine k l1 l2 _ h1 h2' n12 ?_ ?_ aq fun q o e nq => ?_
  ·rw [aJ np1.symm, aJ n12, aJ np1.symm, aq]
  ·rw [aJ np2.symm, aq]
  ·rw [aJ nq, aJ (aV e h2'), aJ nq, aJ (aV e h1)]
   exact e
def vd : Sp := fun vs H Q _ => ∃ (a b : Addr) (U W : List (List Int)) (m n m' n' : Nat), vs = [.ref a, .ref b] /\ IsTab H a U /\ Good U m n /\ IsTab H b W /\ Good W m' n' /\ Q (.bl (decide (m = m') && decide (n = n'))) H
abbrev gB : Stmt := top 35
theorem qi : FnScope ["one", "other"] ["one", "other"] (aH gB) := ⟨rfl, rfl, rfl, by decide +kernel, rfl, by decide +kernel, by decide +kernel⟩
theorem qp (F : FunM K mg "of_same_counts" gB ["one", "other"]) (T : Blt mg) : Def P w K mg base "of_same_counts" ["one", "other"] 1 vd := by
 have S := qi
 refine Def.of F S (fun vs H Q E h => ?_) (fun f cdv A outer s H vs Q E hr h => ?_)
 ·obtain ⟨a, b, U, W, m, n, m', n', rfl, _⟩ := h
  rfl
 ·obtain ⟨a, b, U, W, m, n, m', n', rfl, hU, g, hW, g', k⟩ := h
  obtain ⟨vs, b0, ha, h0, at0, hb0⟩ := hU.row (i := 0) (by rw [g.rows]; exact g.m1)
  obtain ⟨ws, c0, hb, k0, bt0, hc0⟩ := hW.row (i := 0) (by rw [g'.rows]; exact g'.m1)
  have el : vs.length = m := by
   obtain ⟨vs', ha', hp⟩ := id hU
   rw [ha] at ha'
   cases ha'
   rw [hp.length, g.rows]
  have fl : ws.length = m' := by
   obtain ⟨vs', ha', hp⟩ := id hW
   rw [hb] at ha'
   cases ha'
   rw [hp.length, g'.rows]
  have rl : ((U.getD 0 []).map V.int).length = n := by rw [List.length_map, (g.row g.m1).2]
  have tl : ((W.getD 0 []).map V.int).length = n' := by rw [List.length_map, (g'.row g'.m1).2]
  refine ⟨_, (aC (aM (jo (dJ eQ (aK (bU K) (by rfl) T.len_ bx (aa (pv 0) ak aj) (he := aj)) (aK (bU K) (by rfl) T.len_ bx (aa (pv 1) ak aj) (he := aj)) (a_ _)) (gR (dJ eQ (aK (bU K) (by rfl) T.len_ bx (aa (aQ (ixL K) (pv 0) aA (fun _ _ => rfl)) ak aF) (he := aF)) (aK (bU K) (by rfl) T.len_ bx (aa (aQ (ixL K) (pv 1) aA (fun _ _ => rfl)) ak aF) (he := aF)) (a_ _)))))), ?_⟩
  refine ⟨_, rfl, a, vs, rfl, .inl (SqL.of ha), _, rfl, b, ws, rfl, .inl (SqL.of hb), rfl, _, rfl, ?_⟩
  by_cases e : m = m'
  ·refine ifP (by rw [fZ, el, fl]; exact decide_eq_true e) ?_
   refine ⟨_, rfl, a, vs, 0, _, rfl, rfl, SqL.of ha, at0, b0, _, rfl, .inl (SqL.of hb0), _, rfl, b, ws, 0, _, rfl, rfl, SqL.of hb, bt0, c0, _, rfl, .inl (SqL.of hc0), rfl, ?_⟩
   rw [fZ, rl, tl]
   rw [decide_eq_true e, Bool.true_and] at k
   exact k
  ·have e1 : decide (V.int (vs.length : Int) = V.int (ws.length : Int)) = false := by rw [fZ, el, fl]; exact decide_eq_false e
   rw [e1]
   refine bK ?_
   rw [decide_eq_false e, Bool.false_and] at k
   exact k
def xm : Sp := fun vs H Q _ => ∃ (a b : Addr) (U W : List (List Int)) (m n : Nat), vs = [.ref a, .ref b] /\ IsTab H a U /\ Good U m n /\ IsTab H b W /\ Good W m n /\ ∀ H', Same H H' -> Q .non H'
abbrev jy : Stmt := top 36
theorem uL : FnScope ["one", "other"] ["one", "other"] (aH jy) := ⟨rfl, rfl, rfl, by decide +kernel, rfl, by decide +kernel, by decide +kernel⟩
theorem uU (F : FunM K mg "check_alike" jy ["one", "other"]) (T : Blt mg) (dj : Def P w K mg base "check_table" ["thing"] 4 rD) (cV : Def P w K mg base "of_same_counts" ["one", "other"] 1 vd) : Def P w K mg base "check_alike" ["one", "other"] 5 xm := by
 have S := uL
 refine Def.of F S (fun vs H Q E h => ?_) (fun f cdv A outer s H vs Q E hr h => ?_)
 ·obtain ⟨a, b, U, W, m, n, rfl, _⟩ := h
  rfl
 ·obtain ⟨a, b, U, W, m, n, rfl, hU, g, hW, g', k⟩ := h
  refine ⟨_, (aB (cN (aD dj (hr.mono (by decide)) rfl (aa (pv 0) ak aj) (he := aj)))
   (aB (cN (aD dj (hr.mono (by decide)) rfl (aa (pv 1) ak aj) (he := aj)))
   (aC (bu (bJ (bA (aD cV (hr.mono (by decide)) rfl (aa (pv 0) (aa (pv 1) ak aj) aj) (he := aj))))
    (aC xT) aZ)))), ?_⟩
  refine ⟨_, rfl, a, U, m, n, rfl, hU, g, fun H1 s1 => ?_⟩
  refine ⟨_, rfl, b, W, m, n, rfl, hW.mono s1, g', fun H2 s2 => ?_⟩
  have s12 := s1.trans s2
  refine ⟨_, rfl, _, rfl, a, b, U, W, m, n, m, n, rfl, hU.mono s12, g, hW.mono s12, g', ⟨_, rfl, ?_⟩⟩
  refine ifN (by simp) ?_
  exact k H2 s12
def stB (U V : List (List Int)) (m n : Nat) (ps qs : List (Int × Int)) : Bool := bT ps m && bT qs n && abB U m ps qs && abB (cols V n) n qs ps
def sS : Sp := fun vs H Q _ => ∃ (a b c : Addr) (U : List (List Int)) (m n : Nat) (ps qs : List (Int × Int)), vs = [.ref a, .ref b, .ref c] /\ IsTab H a U /\ Gd U m n /\ IsFrs H b ps /\ ps.length = m /\ IsFrs H c qs /\ GQ qs /\ ∀ H', Same H H' -> Q (.bl (abB U m ps qs)) H'
abbrev nA : Stmt := top 45
theorem zQ : FnScope ["table", "mine", "theirs"] ["table", "mine", "theirs"] (aH nA) := ⟨rfl, rfl, rfl, by decide +kernel, rfl, by decide +kernel, by decide +kernel⟩
theorem Aj (F : FunM K mg "all_best" nA ["table", "mine", "theirs"]) (T : Blt mg) (eG : Def P w K mg base "all_among" ["cards", "others"] 1 qX) (iw : Def P w K mg base "shared" ["mixture"] 1 oO) (cZ : Def P w K mg base "best_rows" ["table", "theirs"] 7 jb) : Def P w K mg base "all_best" ["table", "mine", "theirs"] 8 sS := by
 have S := zQ
 refine Def.of F S (fun vs H Q E h => ?_) (fun f cdv A outer s H vs Q E hr h => ?_)
 ·obtain ⟨a, b, c, U, m, n, ps, qs, rfl, _⟩ := h
  rfl
 ·obtain ⟨a, b, c, U, m, n, ps, qs, rfl, hU, g, hB, pl, hC, gc, k⟩ := h
  have m4 := g.m4
  refine ⟨_, (aC (aM (aD eG (hr.mono (by decide)) rfl (aa (aD iw (hr.mono (by decide)) rfl (aa (pv 1) ak aj) (he := aj)) (aa (aQ (ixT K) (aD cZ (hr.mono (by decide)) rfl (aa (pv 0) (aa (pv 2) ak aj) aj) (he := aj)) aA (fun _ _ => rfl)) ak aF) aN) (he := aN)))), ?_⟩
  refine ⟨_, rfl, b, ps, rfl, hB, by omega, fun p1 H1 n1 => ?_⟩
  have s1 := n1.same
  refine ⟨_, rfl, _, rfl, a, c, U, m, n, qs, rfl, hU.mono s1, g, hC.mono s1, gc, fun l p q mx H2 s2 hln hl hmx hle hq => ?_⟩
  refine ⟨q, _, 0, _, rfl, rfl, SqT.of hq, rfl, p1, l, _, _, rfl, s2 _ _ n1.is, hl, Nat.le_trans (pR ps _) (by omega), fun H3 s3 => ?_⟩
  rw [pl, Cg g gc hmx hle]
  exact k H3 ((s1.trans s2).trans s3)
def wu (C : Addr) : Sp := fun vs H Q _ => ∃ (p dx a b l1 l2 : Addr) (U W : List (List Int)) (m n : Nat) (ps qs : List (Int × Int)), vs = [.ref p, .ref a, .ref b] /\ H p = some (.ins C dx (iI l1 l2)) /\ IsTab H a U /\ Good U m n /\ IsTab H b W /\ Good W m n /\
 IsFrs H l1 ps /\ GQ ps /\ IsFrs H l2 qs /\ GQ qs /\ ∀ H', Same H H' -> Q (.bl (stB U W m n ps qs)) H'
abbrev g_ : Stmt := inClass (top 48) 1
theorem rn : FnScope ["self", "one", "other"] ["self", "one", "other"] (aH g_) := ⟨rfl, rfl, rfl, by decide +kernel, rfl, by decide +kernel, by decide +kernel⟩
theorem qI {C : Addr} (F : FunC K C "shows" "Settled.shows" g_ ["self", "one", "other"]) (T : Blt mg) (C_Settled : Cl K mg "Settled" ["mine", "theirs"] [] C) (cV : Def P w K mg base "of_same_counts" ["one", "other"] 1 vd)
  (dG : Def P w K mg base "are_mixtures" ["table", "mine", "theirs"] 5 oW) (jQ : Def P w K mg base "all_best" ["table", "mine", "theirs"] 8 sS) (bL : Def P w K mg base "columns_of" ["table"] 2 eZ) : DefC P w K mg base C "shows" ["self", "one", "other"] 9 (wu C) := by
 have S := rn
 refine DefC.of F S (fun vs H Q E h => ?_) (fun f cdv A outer s H vs Q E hr h => ?_)
 ·obtain ⟨p, dx, a, b, l1, l2, U, W, m, n, ps, qs, rfl, _⟩ := h
  rfl
 ·obtain ⟨p, dx, a, b, l1, l2, U, W, m, n, ps, qs, rfl, hp, hU, gG, hW, gG', h1, gu, h2, gw, k⟩ := h
  have g := iM gG
  have g' := iM gG'
  have c1 := C_Settled.no "mine" (by simp)
  have c2 := C_Settled.no "theirs" (by simp)
  refine ⟨_, (aB (bu (PW.pt (cR (bJ (bA (aD cV (hr.mono (by decide)) rfl (aa (pv 1) (aa (pv 2) ak aj) aj) (he := aj)))) (cH (bJ (bA (aD dG (hr.mono (by decide)) rfl (aa (pv 1) (aa (bB (pv 0) rfl) (aa (bB (pv 0) rfl) ak aR) aR) aj) (he := aj)))))))
    (aC (aM bQ)) aZ)
   (aB (bu (bJ (bA (aD jQ (hr.mono (by decide)) rfl (aa (pv 1) (aa (bB (pv 0) rfl) (aa (bB (pv 0) rfl) ak aR) aR) aj) (he := aj))))
    (aC (aM bQ)) aZ)
   (aC (aM (aD jQ (hr.mono (by decide)) rfl (aa (aD bL (hr.mono (by decide)) rfl (aa (pv 2) ak aj) (he := aj)) (aa (bB (pv 0) rfl) (aa (bB (pv 0) rfl) ak aR) aR) aN) (he := aN)))))), ?_⟩
  refine ⟨_, rfl, _, rfl, a, b, U, W, m, n, m, n, rfl, hU, gG, hW, gG', ⟨_, rfl, ?_⟩⟩
  refine ifN (by simp) ?_
  refine ⟨_, rfl, _, rfl, p, C, dx, _, _, rfl, hp, C_Settled.cl, c1, jk l1 l2, _, rfl, p, C, dx, _, _, rfl, hp, C_Settled.cl, c2, gr l1 l2, a, l1, l2, U, m, n, ps, qs, rfl, hU, g, h1, gu, h2, gw, fun H1 s1 => ⟨_, rfl, ?_⟩⟩
  cases hmix : (bT ps m && bT qs n) with
  | false =>
   refine cX ?_
   have e : stB U W m n ps qs = false := by unfold stB; rw [hmix]; rfl
   rw [e] at k
   exact k H1 s1
  | true =>
  refine bK ?_
  have pl : ps.length = m := fJ (by rw [Bool.and_eq_true] at hmix; exact hmix.1)
  have ql : qs.length = n := fJ (by rw [Bool.and_eq_true] at hmix; exact hmix.2)
  have hp1 := s1 _ _ hp
  refine ⟨_, rfl, _, rfl, p, C, dx, _, _, rfl, hp1, C_Settled.cl, c1, jk l1 l2, _, rfl, p, C, dx, _, _, rfl, hp1, C_Settled.cl, c2, gr l1 l2, a, l1, l2, U, m, n, ps, qs, rfl, hU.mono s1, g, h1.mono s1, pl, h2.mono s1, gw, fun H2 s2 => ⟨_, rfl, ?_⟩⟩
  have s12 := s1.trans s2
  cases hb : abB U m ps qs with
  | false =>
   refine cX ?_
   have e : stB U W m n ps qs = false := by unfold stB; rw [hmix, hb]; rfl
   rw [e] at k
   exact k H2 s12
  | true =>
   refine bK ?_
   have hp2 := s12 _ _ hp
   refine ⟨_, rfl, b, W, m, n, rfl, hW.mono s12, g', fun q H3 s3 own => ?_⟩
   have s13 := s12.trans s3
   have hp3 := s13 _ _ hp
   refine ⟨_, rfl, p, C, dx, _, _, rfl, hp3, C_Settled.cl, c2, gr l1 l2, _, rfl, p, C, dx, _, _, rfl, hp3, C_Settled.cl, c1, jk l1 l2, q, l2, l1, cols W n, n, m, qs, ps, rfl, own.tab, dZ g', h2.mono s13, ql, h1.mono s13, gu, fun H4 s4 => ?_⟩
   have e : stB U W m n ps qs = abB (cols W n) n qs ps := by unfold stB; rw [hmix, hb]; rfl
   rw [e] at k
   exact k H4 (s13.trans s4)
def IsAc (U : List (List Int)) (m n : Nat) (H : Hp) (v : V) (q : du) : Prop := ∃ t k s b mx, v = .ref t /\ H t = some (.tup [.ref k, .ref s, .ref b]) /\ IsFrs H k q.1 /\ H s = some (.lst ((shQ q.1 n).map V.int)) /\
 H b = some (.lst ((plQ (U.map fun r => aW r q.1) mx m).map V.int)) /\ mx ∈ U.map (fun r => aW r q.1) /\ ∀ g ∈ U.map (fun r => aW r q.1), leQ g mx
theorem IsAc.mono {U : List (List Int)} {m n : Nat} {H H' : Hp} {v : V} {q : du} (s : Same H H') (h : IsAc U m n H v q) : IsAc U m n H' v q :=
 let ⟨t, k, a, b, mx, e, h1, h2, h3, h4, h5⟩ := h
 ⟨t, k, a, b, mx, e, s _ _ h1, h2.mono s, s _ _ h3, s _ _ h4, h5⟩
def CV : Sp := fun vs H Q _ => ∃ (a : Addr) (U : List (List Int)) (m n : Nat), vs = [.ref a] /\ IsTab H a U /\ Gd U m n /\ ∀ l zs Ls H', Same H H' -> H' l = some (.lst zs) -> Paired (IsAc U m n H') zs Ls -> Cors U m n Ls -> Q (.ref l) H'
theorem yd {U : List (List Int)} {m n : Nat} {Ls : List du} (g : Gd U m n) (hC : Cors U m n Ls) {q : du} (hq : q ∈ Ls) : GQ q.1 /\ q.1.length = n := by
 obtain ⟨R, C, g2, k, rfl⟩ := hC.of q hq
 exact ⟨(j6 g g2 k.ne k.pos).2.2, by show (mks _ _).length = n; rw [fj, mF]⟩
theorem um {α : Type} {F : V -> α -> Prop} {G : V -> α -> Prop} : ∀ {zs ys : List V} {Ls : List α}, Paired (fun x y => ∀ q ∈ Ls, F x q -> G y q) zs ys -> Paired F zs Ls -> Paired G ys Ls := by
 have go : ∀ {zs ys : List V} {Ls Ms : List α}, (∀ q ∈ Ls, q ∈ Ms) -> Paired (fun x y => ∀ q ∈ Ms, F x q -> G y q) zs ys -> Paired F zs Ls -> Paired G ys Ls := by
  intro zs ys Ls Ms hs h1 h2
  induction h2 generalizing ys with
  | nil => cases h1; exact .nil
  | cons h t ih =>
   cases h1 with
   | cons a b => exact .cons (a _ (hs _ List.mem_cons_self) h) (ih (fun q hq => hs q (List.mem_cons_of_mem _ hq)) b)
 intro zs ys Ls h1 h2
 exact go (fun _ h => h) h1 h2
abbrev fK : Stmt := top 55
theorem oE : FnScope ["table", "mixtures"] ["table"] (aH fK) := ⟨rfl, rfl, rfl, by decide +kernel, rfl, by decide +kernel, by decide +kernel⟩
theorem oF (F : FunM K mg "answered_corners" fK ["table"]) (T : Blt mg) (dM : Def P w K mg base "corners_of" ["table"] 9 u9) (iw : Def P w K mg base "shared" ["mixture"] 1 oO) (cZ : Def P w K mg base "best_rows" ["table", "theirs"] 7 jb) :
  Def P w K mg base "answered_corners" ["table"] 10 CV := by
 have S := oE
 refine Def.of F S (fun vs H Q E h => ?_) (fun f cdv A outer s H vs Q E hr h => ?_)
 ·obtain ⟨a, U, m, n, rfl, _⟩ := h
  rfl
 ·obtain ⟨a, U, m, n, rfl, hU, g, k⟩ := h
  have n4 := g.n4
  refine ⟨_, (aB (jV (i := 1) rfl S.nd rfl rfl (N' := ["place"]) (src := [none]) rfl (piL K (aD dM (hr.mono (by decide)) rfl (aa (pv 0) ak aj) (he := aj))) (fun _ _ _ _ _ => (aP (i := 0) (show (["place"] : List Str).Nodup from by decide +kernel) rfl (Or.inl rfl))) (fun _ _ _ _ _ => bf) (fun _ _ _ _ _ => (aQ (ixT K) (pv 0) aA (fun _ _ => rfl))))
   (aC (aM (bj rfl (N' := ["mixture", "table"]) (src := [none, some 0]) rfl (piL K (pv 1)) (fun _ _ _ _ _ => (aP (i := 0) (show (["mixture", "table"] : List Str).Nodup from by decide +kernel) rfl (Or.inl rfl))) (fun _ _ _ _ _ => bf) (fun _ _ _ _ _ => (bH (aa (pv 0) (aa (aD iw (hr.mono (by decide)) rfl (aa (pv 0) ak aj) (he := aj)) (aa (aQ (ixT K) (aD cZ (hr.mono (by decide)) rfl (aa (pv 1) (aa (pv 0) ak aj) aj) (he := aj)) aA (fun _ _ => rfl)) ak aF) aN) aj))))))), ?_⟩
  refine ⟨_, rfl, a, U, m, n, rfl, hU, g, fun l zs Ls H1 s1 hl pz hC zl => ?_⟩
  refine ⟨l, rfl, ⟨_, SqL.of hl⟩, bw (xs := zs) (fun x y H' => ∀ q ∈ Ls, IsCor l H1 x q -> ∃ k, y = .ref k /\ IsFrs H' k q.1) (fun _ _ _ _ s h q hq hc => let ⟨k, e, z⟩ := h q hq hc; ⟨k, e, z.mono s⟩) (SqL.of hl) (Nat.le_of_lt (aO zl)) ?_ ?_⟩
  ·intro x hx H2 s2 Q' q
   obtain ⟨c, hc, t, kk, u, rfl, t1, _, hF, t2⟩ := pz.mem2 hx
   refine ⟨_, rfl, t, _, 0, _, rfl, rfl, SqT.of (s2 _ _ t1), rfl, q _ H2 (Same.refl _) fun q' _ hc' => ?_⟩
   obtain ⟨t', k', u', e, t1', _, hF', _⟩ := hc'
   cases e
   rw [t1] at t1'
   cases t1'
   exact ⟨_, rfl, hF'.mono s2⟩
  intro ys H2 s2 pr pm hpm
  have pf : Paired (fun y (q : du) => ∃ k, y = .ref k /\ IsFrs H2 k q.1) ys Ls := um pr pz
  have yl : ys.length <= 1000 := by rw [pf.length, <- pz.length]; exact zl
  have s3 := (s1.trans s2).trans (ao (o := .lst ys) hpm)
  have s23 : Same H2 (upd H2 pm (.lst ys)) := ao hpm
  have e3 : upd H2 pm (.lst ys) pm = some (.lst ys) := aq
  generalize upd H2 pm (.lst ys) = H3 at s3 s23 e3 ⊢
  refine ⟨_, rfl, pm, rfl, ⟨_, SqL.of e3⟩, bw (xs := ys) (fun x y H' => ∀ q ∈ Ls, (∃ k, x = .ref k /\ IsFrs H2 k q.1) -> IsAc U m n H' y q) (fun _ _ _ _ s h q hq hc => (h q hq hc).mono s) (SqL.of e3) (Nat.le_of_lt (aO yl)) ?_ ?_⟩
  ·intro x hx H4 s4 Q' q
   obtain ⟨c, hc, kk, rfl, hF⟩ := pf.mem2 hx
   obtain ⟨gc, cl⟩ := yd g hC hc
   have hF4 := (hF.mono s23).mono s4
   refine ⟨_, rfl, _, rfl, kk, c.1, rfl, hF4, by omega, fun ps H5 nw => ?_⟩
   have s45 := nw.same
   refine ⟨_, rfl, _, rfl, a, kk, U, m, n, c.1, rfl, ((hU.mono s3).mono s4).mono s45, g, hF4.mono s45, gc, fun bl bp bq mx H6 s6 hbn hbl hmx hle hbq => ?_⟩
   refine ⟨bq, _, 0, _, rfl, rfl, SqT.of hbq, rfl, (by show 3 <= sizeLine; decide), fun tt htt => ?_⟩
   have s67 := ao (o := .tup [.ref kk, .ref ps, .ref bl]) htt
   refine q _ _ ((s45.trans s6).trans s67) fun q' hq' hc' => ?_
   obtain ⟨k', e, hF'⟩ := hc'
   cases e
   have eq : q'.1 = c.1 := by
    obtain ⟨z1, a1, p1⟩ := hF
    obtain ⟨z2, a2, p2⟩ := hF'
    rw [a1] at a2
    cases a2
    have go : ∀ {zs : List V} {as bs : List (Int × Int)}, Paired (IsFr H2) zs as -> Paired (IsFr H2) zs bs -> as = bs := by
     intro zs as bs h1
     induction h1 generalizing bs with
     | nil => intro h; cases h; rfl
     | cons h t ih => intro h'; cases h' with
      | cons h2 t2 => rw [h.inj h2, ih t2]
    exact go p2 p1
   have hps := s67 _ _ (s6 _ _ nw.is)
   rw [cl] at hps
   refine ⟨tt, kk, ps, bl, mx, rfl, aq, ?_, ?_, ?_, ?_, ?_⟩
   ·rw [eq]; exact ((hF4.mono s45).mono s6).mono s67
   ·rw [eq]; exact hps
   ·rw [eq]; exact s67 _ _ hbl
   ·rw [eq]; exact hmx
   ·rw [eq]; exact hle
  ·intro ws H4 s4 pr2 pl hpl
   have pa : Paired (IsAc U m n H4) ws Ls := um pr2 pf
   exact k pl ws Ls _ ((s3.trans s4).trans (ao hpl)) aq (pa.imp2 fun _ _ z => z.mono (ao hpl)) hC
def okQ (U V : List (List Int)) (m n : Nat) (p q : du) : Bool := abB U m p.1 q.1 && abB V n q.1 p.1
theorem Ia {U V : List (List Int)} {m n : Nat} {R C R' C' : List Nat} (g : Gd U m n) (g' : Gd V n m) (h : Gm.Sett U V m n R C R' C') : okQ U V m n (bW V m R' C') (bW U n R C) = true := by
 have one : ∀ {U V : List (List Int)} {m n : Nat} {R C R' C' : List Nat}, Gd U m n -> Gd V n m -> Gm.Good2 m n R C -> Gm.Corner U m n R C -> Gm.Good2 n m R' C' -> Gm.Corner V n m R' C' ->
   (∀ i, i < m -> Gm.yOf C' (Gm.shM V R' C') i = 0 \/ Gm.gain U n (Gm.yOf C (Gm.shM U R C)) i = Gm.gain U n (Gm.yOf C (Gm.shM U R C)) (R.headD 0)) -> abB U m (mks (wsM V m R' C') (Gm.smM V R' C')) (mks (wsM U n R C) (Gm.smM U R C)) = true := by
  intro U V m n R C R' C' g g' g2 k g2' k' hr
  have hS : 0 < Gm.smM U R C := Gm.sgn_pos k.ne
  have hX : 0 < Gm.smM V R' C' := Gm.sgn_pos k'.ne
  obtain ⟨_, _, gq⟩ := j6 g g2 k.ne k.pos
  unfold abB
  rw [List.all_eq_true]
  intro i hi
  have hi := List.mem_range.mp hi
  rcases hr i hi with h | h
  ·have e : (mks (wsM V m R' C') (Gm.smM V R' C')).getD i (0, 0) = (0, 1) := by
    refine gQ ?_
    unfold mks wsM
    rw [List.map_map, List.getElem?_map, List.getElem?_range hi]
    show some (Fr.mk (Gm.yOf C' (Gm.shM V R' C') i) _) = _
    rw [h, Fr.mk_zero hX]
   rw [decide_eq_true e]
   rfl
  ·have e : jd U (mks (wsM U n R C) (Gm.smM U R C)) i = true := by
    unfold jd
    rw [Bool.not_eq_true', List.any_eq_false]
    intro r hr'
    obtain ⟨j, hj, rfl⟩ := v7 hr'
    rw [g.rows] at hj
    rw [nP hS (g.sz (g.row hi).1) gq, nP hS (g.sz (g.row hj).1) gq]
    unfold ltQ
    rw [rF hS, decide_eq_true_iff]
    have e1 : Fr.dot (U.getD i []) (wsM U n R C) = _ := gJ g hi (Gm.yOf C (Gm.shM U R C))
    have e2 : Fr.dot (U.getD j []) (wsM U n R C) = _ := gJ g hj (Gm.yOf C (Gm.shM U R C))
    have := k.le j hj
    omega
   rw [e, Bool.or_true]
 unfold okQ
 rw [show abB U m (bW V m R' C').1 (bW U n R C).1 = true from one g g' h.g h.k h.g' h.k' h.rows, show abB V n (bW U n R C).1 (bW V m R' C').1 = true from one g' g h.g' h.k' h.g h.k h.cols]
 rfl
def rT (CT : Addr) : Sp := fun vs H Q _ => ∃ (a b : Addr) (U V : List (List Int)) (m n : Nat), vs = [.ref a, .ref b] /\ IsTab H a U /\ Good U m n /\ IsTab H b V /\ Good V m n /\
 ∀ p dx l1 l2 H' R C R' C', Same H H' -> H p = none -> H l1 = none -> H l2 = none -> l1 ≠ l2 -> H' p = some (.ins CT dx (iI l1 l2)) -> IsFrs H' l1 (bW (cols V n) m R' C').1 -> IsFrs H' l2 (bW U n R C).1 ->
  Gm.Good2 m n R C -> Gm.Corner U m n R C -> Gm.Good2 n m R' C' -> Gm.Corner (cols V n) n m R' C' -> okQ U (cols V n) m n (bW (cols V n) m R' C') (bW U n R C) = true -> Q (.ref p) H'
theorem An {U : List (List Int)} {m n : Nat} (g : Gd U m n) {i j : Nat} (hi : i < m) (hj : j < n) : -200 <= Gm.cell U i j := by
 have h1 := g.row hi
 refine (g.num _ h1.1 _ ?_).1
 show (U.getD i []).getD j 0 ∈ U.getD i []
 rw [List.getD_eq_getElem?_getD (l := U.getD i []), List.getElem?_eq_getElem (by rw [h1.2]; exact hj)]
 exact List.getElem_mem _
abbrev pL : Stmt := top 56
theorem Ck : FnScope ["one", "other", "by_columns", "mine", "rows", "columns_best", "theirs", "columns", "rows_best"] ["one", "other"] (aH pL) := ⟨rfl, rfl, rfl, by decide +kernel, rfl, by decide +kernel, by decide +kernel⟩
theorem Ce {CT : Addr} (F : FunM K mg "settled" pL ["one", "other"]) (T : Blt mg) (C_Settled : Cl K mg "Settled" ["mine", "theirs"] [] CT) (jF : Def P w K mg base "check_alike" ["one", "other"] 5 xm) (eE : Def P w K mg base "answered_corners" ["table"] 10 CV)
  (bL : Def P w K mg base "columns_of" ["table"] 2 eZ) (eG : Def P w K mg base "all_among" ["cards", "others"] 1 qX) (dI : DefC P w K mg base CT "__init__" ["self", "mine", "theirs"] 1 (qM CT)) : Def P w K mg base "settled" ["one", "other"] 11 (rT CT) := by
 have S := Ck
 refine Def.of F S (fun vs H Q E h => ?_) (fun f cdv A outer s H vs Q E hr h => ?_)
 ·obtain ⟨a, b, U, Z, m, n, rfl, _⟩ := h
  rfl
 ·obtain ⟨a, b, U, Z, m, n, rfl, hU, gG, hV, gG', k⟩ := h
  have g := iM gG
  have gV := dZ (iM gG')
  have m4 := g.m4
  have n4 := g.n4
  refine ⟨_, (aB (cN (aD jF (hr.mono (by decide)) rfl (aa (pv 0) (aa (pv 1) ak aj) aj) (he := aj)))
   (aB (aY (i := 2) S.nd rfl (Or.inl rfl) (aD eE (hr.mono (by decide)) rfl (aa (pv 0) ak aj) (he := aj)))
   (aC (cJ PassesOwn.never rfl (piL K (aD eE (hr.mono (by decide)) rfl (aa (aD bL (hr.mono (by decide)) rfl (aa (pv 1) ak aj) (he := aj)) ak aN) (he := aN))) (pgT K (n := 3) (bC (aP (i := 3) S.nd rfl (Or.inl rfl)) (bC (aP (i := 4) S.nd rfl (Or.inl rfl)) (bC (aP (i := 5) S.nd rfl (Or.inl rfl)) dY))))
    (aC (cJ PassesOwn.never rfl (piL K (pv 2)) (pgT K (n := 3) (bC (aP (i := 6) S.nd rfl (Or.inl rfl)) (bC (aP (i := 7) S.nd rfl (Or.inl rfl)) (bC (aP (i := 8) S.nd rfl (Or.inl rfl)) dY))))
    (aC (bu (PW.pt (oU (bA (aD eG (hr.mono (by decide)) rfl (aa (pv 4) (aa (pv 8) ak aj) aj) (he := aj))) (mG (bA (aD eG (hr.mono (by decide)) rfl (aa (pv 7) (aa (pv 5) ak aj) aj) (he := aj))))))
    (aC (aM (iU dI C_Settled (hr.mono (by decide)) rfl (aa (pv 3) (aa (pv 6) ak aj) aj) (he := aj)))) aZ)))))))), ?_⟩
  refine ⟨_, rfl, _, rfl, a, b, U, Z, m, n, rfl, hU, gG, hV, gG', fun H1 s1 => ?_⟩
  refine ⟨_, rfl, a, U, m, n, rfl, hU.mono s1, g, fun by_ zs Ls H2 s2 hz pz hC => ?_⟩
  have s12 := s1.trans s2
  refine ⟨_, rfl, b, Z, m, n, rfl, hV.mono s12, iM gG', fun pc H3 s3 own => ?_⟩
  refine ⟨pc, cols Z n, n, m, rfl, own.tab, gV, fun q zs' Ls' H4 s4 hz' pz' hC' => ?_⟩
  have s14 := (s12.trans s3).trans s4
  have s24 := s3.trans s4
  refine ⟨q, rfl, ⟨_, SqL.of hz'⟩, dO (K := K) (a := q) (xs := zs') (fun i σ H' => ∃ (o3 o4 o5 o6 o7 o8 : Option V), σ = [some (.ref a), some (.ref b), some (.ref by_), o3, o4, o5, o6, o7, o8] /\ Same H4 H' /\ ∀ p' ∈ Ls'.take i, ∀ p ∈ Ls, okQ U (cols Z n) m n p' p = false)
   ⟨_, _, _, _, _, _, rfl, Same.refl _, fun p' h => by simp at h⟩ ?_ ?_ ?_⟩
  ·rintro i σ H5 _ ⟨_, _, _, _, _, _, _, s5, _⟩
   exact SqL.of (s5 _ _ hz')
  ·rintro i x σ H5 hi ⟨o3, o4, o5, o6, o7, o8, rfl, s5, hno⟩
   obtain ⟨p', ep', t, kk, ss, bb, mx, rfl, ht, hk, hs, hb, hmx, hle⟩ := pz'.get2 hi
   have mp' := List.mem_of_getElem? ep'
   obtain ⟨gp', pl'⟩ := yd gV hC' mp'
   refine ⟨t, _, rfl, SqT.of (s5 _ _ ht), rfl, _, _, rfl, _, _, rfl, _, _, rfl, rfl, ?_⟩
   have hz5 := (s24.trans s5) _ _ hz
   refine ⟨_, rfl, by_, rfl, ⟨_, SqL.of hz5⟩, dO (K := K) (a := by_) (xs := zs) (fun j σ H' => ∃ (o6 o7 o8 : Option V), σ = [some (.ref a), some (.ref b), some (.ref by_), some (.ref kk), some (.ref ss), some (.ref bb), o6, o7, o8] /\ Same H5 H' /\ ∀ p ∈ Ls.take j, okQ U (cols Z n) m n p' p = false)
    ⟨_, _, _, rfl, Same.refl _, fun p h => by simp at h⟩ ?_ ?_ ?_⟩
   ·rintro j σ H6 _ ⟨_, _, _, _, s6, _⟩
    exact SqL.of (s6 _ _ hz5)
   ·rintro j x σ H6 hj ⟨o6, o7, o8, rfl, s6, hno6⟩
    obtain ⟨p, ep, t2, k2, ss2, bb2, mx2, rfl, ht2, hk2, hs2, hb2, hmx2, hle2⟩ := pz.get2 hj
    have mp := List.mem_of_getElem? ep
    obtain ⟨gp, pl⟩ := yd g hC mp
    have s26 := (s24.trans s5).trans s6
    have s46 := s5.trans s6
    refine ⟨t2, _, rfl, SqT.of (s26 _ _ ht2), rfl, _, _, rfl, _, _, rfl, _, _, rfl, rfl, ?_⟩
    have ea : ((shQ p'.1 m).all fun x => decide (x ∈ plQ (U.map fun r => aW r p.1) mx2 m)) = abB U m p'.1 p.1 := Cg g gp hmx2 hle2
    have eb : ((shQ p.1 n).all fun x => decide (x ∈ plQ ((cols Z n).map fun r => aW r p'.1) mx n)) = abB (cols Z n) n p.1 p'.1 := Cg gV gp' hmx hle
    have step : okQ U (cols Z n) m n p' p = false -> ∀ p1 ∈ Ls.take (j + 1), okQ U (cols Z n) m n p' p1 = false := fun h p1 h1 => by
     rw [ux ep] at h1
     rcases List.mem_append.mp h1 with z | z
     ·exact hno6 p1 z
     ·rw [List.mem_singleton.mp z]; exact h
    refine ⟨_, rfl, _, rfl, ss, bb2, _, _, rfl, s46 _ _ hs, s26 _ _ hb2, Nat.le_trans (pR _ _) (by omega), fun H7 s7 => ⟨_, rfl, ?_⟩⟩
    rw [ea]
    cases h1 : abB U m p'.1 p.1 with
    | false =>
     refine bK ?_
     exact ⟨_, _, _, rfl, s6.trans s7, step (by unfold okQ; rw [h1]; rfl)⟩
    | true =>
    refine cX ?_
    have s27 := s26.trans s7
    have s47 := s46.trans s7
    refine ⟨_, rfl, _, rfl, ss2, bb, _, _, rfl, s27 _ _ hs2, s47 _ _ hb, Nat.le_trans (pR _ _) (by omega), fun H8 s8 => ⟨_, rfl, ?_⟩⟩
    rw [eb]
    cases h2 : abB (cols Z n) n p.1 p'.1 with
    | false =>
     refine bK ?_
     exact ⟨_, _, _, rfl, (s6.trans s7).trans s8, step (by unfold okQ; rw [h1, h2]; rfl)⟩
    | true =>
    refine cX ?_
    have s28 := s27.trans s8
    have s48 := s47.trans s8
    have s18 := s14.trans s48
    obtain ⟨vs1, e1, pr1⟩ := hk.mono s48
    obtain ⟨vs2, e2, pr2⟩ := hk2.mono s28
    refine ⟨_, rfl, _, rfl, ?_⟩
    intro x dx nx ndx nex
    have sm0 : Same H8 (upd (upd H8 dx (.own x)) x (.ins CT dx [])) := fun c o e => by
     rw [aJ (aV e nx), aJ (aV e ndx)]
     exact e
    refine ⟨x, dx, kk, k2, vs1, vs2, rfl, aq, sm0 _ _ e1, sm0 _ _ e2, fun l1 l2 HU n1' n2' n12 hl1 hl2 hins kp => ⟨rfl, ?_⟩⟩
    have sU : Same H8 HU := fun c o e => kp c o (sm0 c o e) (aV e nx)
    have sm1 := s18.trans sm0
    obtain ⟨R, C, g2, hk', rfl⟩ := hC.of p mp
    obtain ⟨R', C', g2', hk'', rfl⟩ := hC'.of p' mp'
    exact k x dx l1 l2 HU R C R' C' (s18.trans sU) (s18.free nx) (sm1.free n1') (sm1.free n2') n12 hins ⟨vs1, hl1, pr1.imp2 fun _ _ z => z.mono sU⟩ ⟨vs2, hl2, pr2.imp2 fun _ _ z => z.mono sU⟩ g2 hk' g2' hk'' (by unfold okQ; rw [h1, h2]; rfl)
   ·rintro σ H6 ⟨o6, o7, o8, rfl, s6, hno6⟩
    rw [pz.length, List.take_length] at hno6
    refine ⟨_, _, _, _, _, _, rfl, s5.trans s6, fun p1 h1 => ?_⟩
    rw [ux ep'] at h1
    rcases List.mem_append.mp h1 with z | z
    ·exact hno p1 z
    ·rw [List.mem_singleton.mp z]; exact hno6
  ·rintro σ H5 ⟨o3, o4, o5, o6, o7, o8, rfl, s5, hno⟩
   rw [pz'.length, List.take_length] at hno
   obtain ⟨R, C, R', C', hs⟩ := Gm.sett (U := U) (V := cols Z n) (m := m) (n := n) g.m1 g.n1 m4 n4 (fun i j hi hj => An g hi hj) (fun i j hi hj => An gV hj hi)
   have := hno _ (hC'.all R' C' hs.g' hs.k') _ (hC.all R C hs.g hs.k)
   rw [Ia g gV hs] at this
   cases this
theorem Hd {q : Int × Int} (h : Pq q) (h0 : q.1 = 0) : q = (0, 1) := by
 have h1 := h.cop
 have h2 := h.pos
 rw [h0] at h1
 refine Prod.ext h0 ?_
 have : Int.gcd 0 q.2 = q.2.natAbs := Int.gcd_zero_left ..
 show q.2 = 1
 omega
theorem Am {qs : List (Int × Int)} {n : Nat} (h : bT qs n = true) : ∀ q ∈ qs, 0 <= q.1 := by
 unfold bT at h
 simp only [Bool.and_eq_true, List.all_eq_true, decide_eq_true_eq] at h
 exact h.1.2
def xR : Sp := fun vs H Q _ => ∃ (a b l1 l2 : Addr) (U V : List (List Int)) (m n : Nat) (ps qs : List (Int × Int)), vs = [.ref a, .ref b, .ref l1, .ref l2] /\ IsTab H a U /\ Gd U m n /\ IsTab H b V /\ Gd V m n /\ IsFrs H l1 ps /\ GQ ps /\ IsFrs H l2 qs /\ GQ qs /\ ∀ H', Same H H' -> Q (.bl (stB U V m n ps qs)) H'
abbrev iH : Stmt := top 70
theorem uv : FnScope ["_law_one", "_law_other", "_law_mine", "_law_theirs", "_law_rows", "_law_columns", "_law_told", "_law_shares", "_law_place"] ["_law_one", "_law_other", "_law_mine", "_law_theirs"] (aH iH) := ⟨rfl, rfl, rfl, by decide +kernel, rfl, by decide +kernel, by decide +kernel⟩
theorem tu (F : FunM K mg "_law_settled" iH ["_law_one", "_law_other", "_law_mine", "_law_theirs"]) (T : Blt mg) (bD : Def P w K mg base "_law_mixture" ["_law_mixture_here", "_law_many"] 4 g8) (bM : Def P w K mg base "_law_sum" ["_law_worths", "_law_shares"] 3 jY) (cB : Def P w K mg base "_law_across" ["_law_table_here"] 1 eZ)
  (bY : Def P w K mg base "_law_less" ["_law_one", "_law_other"] 1 (dm K)) : Def P w K mg base "_law_settled" ["_law_one", "_law_other", "_law_mine", "_law_theirs"] 5 xR := by
 have S := uv
 refine Def.of F S (fun vs H Q E h => ?_) (fun f cdv A outer s H vs Q E hr h => ?_)
 ·obtain ⟨a, b, l1, l2, U, Z, m, n, ps, qs, rfl, _⟩ := h
  rfl
 ·obtain ⟨a, b, l1, l2, U, Z, m, n, ps, qs, rfl, hU, g, hV, g', h1, gp, h2, gq, k⟩ := h
  have m4 := g.m4
  have n4 := g.n4
  obtain ⟨vs, b0, ha, h0, at0, hb0⟩ := hU.row (i := 0) (by rw [g.rows]; exact g.m1)
  have hn : ((U.getD 0 []).map V.int).length = n := by rw [List.length_map, (g.row g.m1).2]
  have hm : vs.length = m := by
   obtain ⟨vs', ha', hp'⟩ := id hU
   rw [ha] at ha'
   cases ha'
   rw [hp'.length, g.rows]
  refine ⟨_, (aB (bu (PW.pt (cR (bJ (bA (aD bD (hr.mono (by decide)) rfl (aa (pv 2) (aa (aK (bU K) (by rfl) T.len_ bx (aa (pv 0) ak aj) (he := aj)) ak aN) aj) (he := aj)))) (cH (bJ (bA (aD bD (hr.mono (by decide)) rfl (aa (pv 3) (aa (aK (bU K) (by rfl) T.len_ bx (aa (aQ (ixL K) (pv 0) aA (fun _ _ => rfl)) ak aF) (he := aF)) ak aN) aj) (he := aj)))))))
    (aC (aM bQ)) aZ)
   (aB (jV (i := 4) rfl S.nd rfl rfl (N' := ["_law_row", "_law_theirs"]) (src := [none, some 3]) rfl (piL K (pv 0)) (fun _ _ _ _ _ => (aP (i := 0) (show (["_law_row", "_law_theirs"] : List Str).Nodup from by decide +kernel) rfl (Or.inl rfl))) (fun _ _ _ _ _ => bf) (fun _ _ _ _ _ => (aD bM (hr.mono (by decide)) rfl (aa (pv 0) (aa (pv 1) ak aj) aj) (he := aj))))
   (aB (jV (i := 5) rfl S.nd rfl rfl (N' := ["_law_column", "_law_mine"]) (src := [none, some 2]) rfl (piL K (aD cB (hr.mono (by decide)) rfl (aa (pv 1) ak aj) (he := aj))) (fun _ _ _ _ _ => (aP (i := 0) (show (["_law_column", "_law_mine"] : List Str).Nodup from by decide +kernel) rfl (Or.inl rfl))) (fun _ _ _ _ _ => bf) (fun _ _ _ _ _ => (aD bM (hr.mono (by decide)) rfl (aa (pv 0) (aa (pv 1) ak aj) aj) (he := aj))))
   (aB (cJ PassesOwn.never rfl (piL K (cz (aa (bH (aa (pv 4) (aa (pv 2) ak aj) aj)) (aa (bH (aa (pv 5) (aa (pv 3) ak aj) aj)) ak cj) cj))) (pgT K (n := 2) (bC (aP (i := 6) S.nd rfl (Or.inr rfl)) (bC (aP (i := 7) S.nd rfl (Or.inl rfl)) dY)))
    (aC (cJ PassesOwn.never rfl (cO rfl T.range_ (aa (aK (bU K) (by rfl) T.len_ bx (aa (pv 6) ak aj) (he := aj)) ak aN)) (aP (i := 8) S.nd rfl (Or.inr rfl))
    (aC (bu (PW.pt (oU (bh qg (aQ (ixT K) (aQ (ixL K) (pv 7) (pv 8) (fun _ _ => rfl)) aA (fun _ _ => rfl)) aA (a_ _)) (mG (bA (aK (pB K) (by rfl) T.any_ jh (aa (bj rfl (N' := ["_law_more", "_law_told", "_law_place"]) (src := [none, some 6, some 8]) rfl (piL K (pv 6)) (fun _ _ _ _ _ => (aP (i := 0) (show (["_law_more", "_law_told", "_law_place"] : List Str).Nodup from by decide +kernel) rfl (Or.inl rfl))) (fun _ _ _ _ _ => bf) (fun _ _ _ _ _ => (aD bY (hr.mono (by decide)) rfl (aa (aQ (ixL K) (pv 1) (pv 2) (fun _ _ => rfl)) (aa (pv 0) ak aj) aF) (he := aF)))) ak aU) (he := aU))))))
    (aC (aM bQ)) aZ)))))
   (aC (aM bQ)))))), ?_⟩
  refine ⟨_, rfl, _, rfl, a, vs, rfl, .inl (SqL.of ha), l1, ps, vs.length, rfl, h1, gp, fun H1 s1 => ⟨_, rfl, ?_⟩⟩
  rw [hm]
  cases hx : bT ps m with
  | false =>
   refine cX ?_
   have e : stB U Z m n ps qs = false := by unfold stB; rw [hx]; rfl
   rw [e] at k
   exact k H1 s1
  | true =>
  refine bK ?_
  refine ⟨_, rfl, _, rfl, a, vs, 0, _, rfl, rfl, SqL.of (s1 _ _ ha), at0, b0, _, rfl, .inl (SqL.of (s1 _ _ hb0)), l2, qs, _, rfl, h2.mono s1, gq, fun H2 s2 => ⟨_, rfl, ?_⟩⟩
  rw [hn]
  have s12 := s1.trans s2
  cases hy : bT qs n with
  | false =>
   refine cX ?_
   have e : stB U Z m n ps qs = false := by unfold stB; rw [hx, hy]; rfl
   rw [e] at k
   exact k H2 s12
  | true =>
  refine bK ?_
  refine ⟨_, rfl, a, rfl, ⟨_, SqL.of (s12 _ _ ha)⟩, n_ (fun r => aW r qs) (hU.mono s12) (by rw [g.rows]; omega) ?_ ?_⟩
  ·intro r hr' x hx' H3 s3 Q' q
   exact ⟨_, rfl, _, rfl, x, l2, r, qs, rfl, s3 _ _ hx', h2.mono (s12.trans s3), gq, g.sz hr', fun p H4 nw => q _ H4 nw.same ⟨p, rfl, nw.is⟩⟩
  intro ys H3 s3 pr p1 hp1
  have s04 := (s12.trans s3).trans (ao (o := .lst ys) hp1)
  have f1 : IsFrs (upd H3 p1 (.lst ys)) p1 (U.map fun r => aW r qs) := ⟨ys, aq, pr.imp2 fun _ _ z => z.mono (ao hp1)⟩
  generalize upd H3 p1 (.lst ys) = H4 at s04 f1 ⊢
  refine ⟨_, rfl, b, Z, m, n, rfl, hV.mono s04, g', fun pc H5 s5 own => ?_⟩
  have s05 := s04.trans s5
  obtain ⟨cv, hcv, _⟩ := id own.tab
  refine ⟨pc, rfl, ⟨_, SqL.of hcv⟩, n_ (fun r => aW r ps) own.tab (by rw [eX]; omega) ?_ ?_⟩
  ·intro r hr' x hx' H6 s6 Q' q
   exact ⟨_, rfl, _, rfl, x, l1, r, ps, rfl, s6 _ _ hx', h1.mono (s05.trans s6), gp, (dZ g').sz hr', fun p H7 nw => q _ H7 nw.same ⟨p, rfl, nw.is⟩⟩
  intro ys2 H6 s6 pr2 p2 hp2
  have s56 := (s5.trans s6).trans (ao (o := .lst ys2) hp2)
  have s07 := (s05.trans s6).trans (ao (o := .lst ys2) hp2)
  have f2 : IsFrs (upd H6 p2 (.lst ys2)) p2 ((cols Z n).map fun r => aW r ps) := ⟨ys2, aq, pr2.imp2 fun _ _ z => z.mono (ao hp2)⟩
  generalize upd H6 p2 (.lst ys2) = H7 at s56 s07 f2 ⊢
  have f1' := f1.mono s56
  refine ⟨_, rfl, _, rfl, (by show 2 <= sizeLine; decide), fun t1 ht1 => ⟨_, rfl, _, rfl, (by show 2 <= sizeLine; decide), fun t2 ht2 => ⟨(by show 2 <= sizeLine; decide), fun q hq => ?_⟩⟩⟩
  have sa := ao (o := .tup [.ref p1, .ref l1]) ht1
  have sb := ao (o := .tup [.ref p2, .ref l2]) ht2
  have sc := ao (o := .lst [.ref t1, .ref t2]) hq
  have e1 : upd (upd (upd H7 t1 (.tup [.ref p1, .ref l1])) t2 (.tup [.ref p2, .ref l2])) q (.lst [.ref t1, .ref t2]) t1 = some (.tup [.ref p1, .ref l1]) := sc _ _ (sb _ _ aq)
  have e2 : upd (upd (upd H7 t1 (.tup [.ref p1, .ref l1])) t2 (.tup [.ref p2, .ref l2])) q (.lst [.ref t1, .ref t2]) t2 = some (.tup [.ref p2, .ref l2]) := sc _ _ aq
  have e3 : upd (upd (upd H7 t1 (.tup [.ref p1, .ref l1])) t2 (.tup [.ref p2, .ref l2])) q (.lst [.ref t1, .ref t2]) q = some (.lst [.ref t1, .ref t2]) := aq
  have s78 := (sa.trans sb).trans sc
  generalize upd (upd (upd H7 t1 (.tup [.ref p1, .ref l1])) t2 (.tup [.ref p2, .ref l2])) q (.lst [.ref t1, .ref t2]) = H8 at e1 e2 e3 s78 ⊢
  have s08 := s07.trans s78
  let fl : Nat -> Bool := fun i => if i = 0 then abB U m ps qs else abB (cols Z n) n qs ps
  have what : ∀ i x, ([.ref t1, .ref t2] : List V)[i]? = some x -> ∃ (t td sh : Addr) (W : List (List Int)) (kk nn : Nat) (ps' qs' : List (Int × Int)), x = .ref t /\ H8 t = some (.tup [.ref td, .ref sh]) /\ IsFrs H8 td (W.map fun r => aW r qs') /\ Gd W kk nn /\ GQ qs' /\ IsFrs H8 sh ps' /\ GQ ps' /\ ps'.length = kk /\ (∀ q ∈ ps', 0 <= q.1) /\ fl i = abB W kk ps' qs' /\ (fl i = false -> stB U Z m n ps qs = false) := by
   intro i x hi
   match i, hi with
   | 0, hi =>
    cases hi
    exact ⟨t1, p1, l1, U, m, n, ps, qs, rfl, e1, f1'.mono s78, g, gq, h1.mono s08, gp, fJ hx, Am hx, rfl, fun h => by
     have h : abB U m ps qs = false := h
     unfold stB; rw [hx, hy, h]; rfl⟩
   | 1, hi =>
    cases hi
    exact ⟨t2, p2, l2, cols Z n, n, m, qs, ps, rfl, e2, f2.mono s78, dZ g', gp, h2.mono s08, gq, fJ hy, Am hy, rfl, fun h => by
     have h : abB (cols Z n) n qs ps = false := h
     unfold stB; rw [h, Bool.and_false]⟩
  refine ⟨q, rfl, ⟨_, SqL.of e3⟩, dO (K := K) (a := q) (xs := [.ref t1, .ref t2]) (fun i σ H' => ∃ (o6 o7 o8 : Option V), σ = [some (.ref a), some (.ref b), some (.ref l1), some (.ref l2), some (.ref p1), some (.ref p2), o6, o7, o8] /\ Same H8 H' /\ ∀ i', i' < i -> fl i' = true)
   ⟨_, _, _, rfl, Same.refl _, fun i' h => absurd h (by omega)⟩ ?_ ?_ ?_⟩
  ·rintro i σ H9 _ ⟨_, _, _, _, s9, _⟩
   exact SqL.of (s9 _ _ e3)
  ·rintro i x σ H9 hi ⟨o6, o7, o8, rfl, s9, hfl⟩
   obtain ⟨t, td, sh, W, kk, nn, ps', qs', rfl, ht, hT, gW, gq', hS, gp', pl, pn, efl, hst⟩ := what i x hi
   have w4 := gW.m4
   refine ⟨t, _, rfl, SqT.of (s9 _ _ ht), rfl, _, _, rfl, _, _, rfl, rfl, ?_⟩
   obtain ⟨tv, htv, ptv⟩ := hT.mono s9
   obtain ⟨sv, hsv, psv⟩ := hS.mono s9
   have tl : tv.length = kk := by rw [ptv.length, List.length_map, gW.rows]
   have svl : sv.length = kk := by rw [psv.length, pl]
   have zg : ∀ q ∈ W.map (fun r => aW r qs'), Sz 1000 q.1 /\ Sz 1000 q.2 := fun q hq => by
    obtain ⟨r, hr', rfl⟩ := List.mem_map.mp hq
    exact ⟨(dD (gW.sz hr') gq').mono (by decide), (dF (gW.sz hr') gq').mono (by decide)⟩
   refine ⟨_, rfl, td, tv, rfl, .inl (SqL.of htv), _, rfl, by omega, by omega, jq (n := tv.length) (fun j σ H' => ∃ (o8 : Option V), σ = [some (.ref a), some (.ref b), some (.ref l1), some (.ref l2), some (.ref p1), some (.ref p2), some (.ref td), some (.ref sh), o8] /\ Same H9 H' /\ ∀ j', j' < j -> (decide (ps'.getD j' (0, 0) = (0, 1)) || jd W qs' j') = true)
    ⟨_, rfl, Same.refl _, fun j' h => absurd h (by omega)⟩ ?_ ?_⟩
   ·rintro j σ H10 hj ⟨o8, rfl, s10, hb⟩
    have ej : (0 : Int) + (j : Int) = (j : Int) := by omega
    rw [ej]
    rw [tl] at hj
    have hsj : j < sv.length := by omega
    obtain ⟨y, ey, yb, eyb, hyb⟩ := psv.get2 (List.getElem?_eq_getElem hsj)
    have my := List.mem_of_getElem? ey
    have ay : atI sv (j : Int) = some (.ref yb) := gP (by rw [List.getElem?_eq_getElem hsj, eyb])
    have gy : ps'.getD j (0, 0) = y := gQ ey
    have y0 := pn y my
    have next : ∀ H', Same H10 H' -> (decide (ps'.getD j (0, 0) = (0, 1)) || jd W qs' j) = true -> ∀ j', j' < j + 1 -> (decide (ps'.getD j' (0, 0) = (0, 1)) || jd W qs' j') = true := fun H' _ h j' hj' => by
     by_cases e : j' = j
     ·rw [e]; exact h
     ·exact hb j' (by omega)
    refine ⟨_, rfl, _, rfl, sh, sv, (j : Int), _, rfl, rfl, SqL.of (s10 _ _ hsv), ay, yb, _, 0, _, rfl, rfl, SqT.of (s10 _ _ hyb), rfl, _, _, rfl, rfl, _, rfl, ?_⟩
    by_cases hpos : 0 < y.1
    rotate_left
    ·refine ifN (by simp; omega) ?_
     refine bK ?_
     exact ⟨_, rfl, s10, next H10 (Same.refl _) (by rw [gy, Hd (gp'.pr y my) (by omega)]; rfl)⟩
    refine ifP (by simpa using hpos) ?_
    have htj : j < tv.length := by omega
    obtain ⟨u, eu, ub, eub, hub⟩ := ptv.get2 (List.getElem?_eq_getElem htj)
    have mu := List.mem_of_getElem? eu
    have au : atI tv (j : Int) = some (.ref ub) := gP (by rw [List.getElem?_eq_getElem htj, eub])
    have euv : u = aW (W.getD j []) qs' := by
     have := gQ (d := ((0 : Int), (0 : Int))) eu
     rw [<- this]
     exact map_getD (fun r => aW r qs') W (0, 0) (by rw [gW.rows]; exact hj)
    refine ⟨_, rfl, td, rfl, ⟨_, SqL.of (s10 _ _ htv)⟩, bw (xs := tv) (fun x y _ => ∀ q, IsFr H9 x q -> y = .bl (ltQ u q)) (fun _ _ _ _ _ h => h) (SqL.of (s10 _ _ htv)) (by rw [tl]; exact Nat.le_of_lt (aO (by omega))) ?_ ?_⟩
    ·intro x hx' H11 s11 Q' q'
     obtain ⟨r, hr', hf⟩ := ptv.mem2 hx'
     obtain ⟨d, rfl, hd⟩ := id hf
     have s1B := s10.trans s11
     exact ⟨_, rfl, _, rfl, td, tv, (j : Int), _, rfl, rfl, SqL.of (s1B _ _ htv), au, _, rfl, ub, d, _, _, _, _, rfl, SqT.of (s1B _ _ hub), SqT.of (s1B _ _ hd), (zg u mu).1, (zg u mu).2, (zg r hr').1, (zg r hr').2, q' _ H11 (Same.refl _) fun q2 h2' => by rw [hf.inj h2']; rfl⟩
    intro ysb H11 s11 prb qb hqb
    have eb := fU (fun q => ltQ u q) prb ptv
    subst eb
    refine ⟨qb, _, rfl, SqL.of aq, ?_⟩
    have eany : (((W.map fun r => aW r qs').map fun q => ltQ u q).any id) = W.any fun r => ltQ (aW (W.getD j []) qs') (aW r qs') := by
     rw [List.any_map, List.any_map, euv]
     rfl
    rw [eany]
    have s1C : Same H10 (upd H11 qb (.lst (((W.map fun r => aW r qs').map fun q => ltQ u q).map V.bl))) := s11.trans (ao hqb)
    generalize upd H11 qb (.lst (((W.map fun r => aW r qs').map fun q => ltQ u q).map V.bl)) = H12 at s1C ⊢
    refine ⟨_, rfl, ?_⟩
    cases hany : W.any fun r => ltQ (aW (W.getD j []) qs') (aW r qs') with
    | true =>
     refine cX ?_
     have e0 : abB W kk ps' qs' = false := by
      unfold abB
      rw [List.all_eq_false]
      refine ⟨j, List.mem_range.mpr hj, ?_⟩
      rw [gy, decide_eq_false (fun e => by rw [e] at hpos; exact absurd hpos (by decide))]
      unfold jd
      rw [hany]
      decide
     have e := hst (by rw [efl]; exact e0)
     rw [e] at k
     exact k H12 ((s08.trans s9).trans (s10.trans s1C))
    | false =>
     refine bK ?_
     exact ⟨_, rfl, s10.trans s1C, next H12 s1C (by unfold jd; rw [hany, Bool.not_false, Bool.or_true])⟩
   ·rintro σ H10 ⟨o8, rfl, s10, hb⟩
    rw [tl] at hb
    refine ⟨_, _, _, rfl, s9.trans s10, fun i' hi' => ?_⟩
    by_cases e : i' = i
    ·rw [e, efl]
     unfold abB
     rw [List.all_eq_true]
     exact fun j' hj' => hb j' (List.mem_range.mp hj')
    ·exact hfl i' (by omega)
  ·rintro σ H9 ⟨o6, o7, o8, rfl, s9, hfl⟩
   have e : stB U Z m n ps qs = true := by
    have a1 : abB U m ps qs = true := hfl 0 (by show 0 < 2; decide)
    have a2 : abB (cols Z n) n qs ps = true := hfl 1 (by show 1 < 2; decide)
    unfold stB
    rw [hx, hy, a1, a2]
    rfl
   rw [e] at k
   exact k H9 (s08.trans s9)
theorem Ao {n j : Nat} (h : j < n) : ixN n (j : Int) = some j := by
 unfold ixN
 rw [if_pos (by omega), if_pos (by omega), Int.toNat_natCast]
theorem yX : ∀ (r : List Int) (j : Nat), j < r.length -> (r.set j (r.getD j 0 + 1)).sum = r.sum + 1
 | x :: r, 0, _ => by
  simp
  omega
 | x :: r, j + 1, h => by
  have := yX r j (by simpa using h)
  simp only [List.set_cons_succ, List.getD_cons_succ, List.sum_cons]
  omega
theorem zM : ∀ (r : List Int), (∀ x ∈ r, 0 <= x /\ x <= 4) -> 0 <= r.sum /\ r.sum <= 4 * (r.length : Int)
 | [], _ => by simp
 | x :: r, h => by
  have h1 := h x (by simp)
  have h2 := zM r fun z hz => h z (by simp [hz])
  simp only [List.sum_cons, List.length_cons]
  omega
theorem rQ : ∀ (r : List Int), (∀ x ∈ r, 0 <= x) -> 0 <= r.sum /\ ∀ x ∈ r, x <= r.sum
 | [], _ => ⟨by simp, fun _ h => nomatch h⟩
 | y :: r, h => by
  have h1 := h y (by simp)
  have h2 := rQ r fun z hz => h z (by simp [hz])
  refine ⟨by simp only [List.sum_cons]; omega, fun x hx => ?_⟩
  simp only [List.sum_cons]
  rcases List.mem_cons.mp hx with e | e
  ·omega
  ·have := h2.2 x e
   omega
def zz : Sp := fun vs H Q _ => ∃ (c : Int) (n : Nat), vs = [.int c, .int n] /\ 1 <= n /\ n <= 4 /\ ∀ p qs H', Same H H' -> H p = none -> IsFrs H' p qs -> GQ qs -> qs.length = n -> Q (.ref p) H'
abbrev kj : Stmt := top 68
theorem wH : FnScope ["_law_cell", "_law_many", "_law_weights"] ["_law_cell", "_law_many"] (aH kj) := ⟨rfl, rfl, rfl, by decide +kernel, rfl, by decide +kernel, by decide +kernel⟩
theorem wG (F : FunM K mg "_law_drawn" kj ["_law_cell", "_law_many"]) (T : Blt mg) (bG : Def P w K mg base "_law_draw" ["_law_cell", "_law_k", "_law_many"] 1 mJ) (bO : Def P w K mg base "_law_made" ["_law_a", "_law_b"] 2 iC) : Def P w K mg base "_law_drawn" ["_law_cell", "_law_many"] 3 zz := by
 have S := wH
 refine Def.of F S (fun vs H Q E h => ?_) (fun f cdv A outer s H vs Q E hr h => ?_)
 ·obtain ⟨c, n, rfl, _⟩ := h
  rfl
 ·obtain ⟨c, n, rfl, n1, n4, k⟩ := h
  refine ⟨_, (aB (aY (i := 2) S.nd rfl (Or.inr rfl) (bj rfl (N' := ["_law_k", "_law_cell"]) (src := [none, some 0]) rfl (cO rfl T.range_ (aa (pv 1) ak aj)) (fun _ _ _ _ _ => (aP (i := 0) (show (["_law_k", "_law_cell"] : List Str).Nodup from by decide +kernel) rfl (Or.inl rfl))) (fun _ _ _ _ _ => bf) (fun _ _ _ _ _ => (aD bG (hr.mono (by decide)) rfl (aa (aX cU (pv 1) (aX jg aA (pv 0))) (aa aA (aa aA ak aG) aG) bz) (he := bz)))))
   (aB (HS (pv 2) (aD bG (hr.mono (by decide)) rfl (aa (pv 0) (aa aA (aa (pv 1) ak aj) aG) aj) (he := aj)) (getL K) aA Jp set_list)
   (aC (aM (bj rfl (N' := ["_law_weight", "_law_weights"]) (src := [none, some 2]) rfl (piL K (pv 2)) (fun _ _ _ _ _ => (aP (i := 0) (show (["_law_weight", "_law_weights"] : List Str).Nodup from by decide +kernel) rfl (Or.inl rfl))) (fun _ _ _ _ _ => bf) (fun _ _ _ _ _ => (aD bO (hr.mono (by decide)) rfl (aa (pv 0) (aa (aK (sumK K) (by rfl) T.sum_ JM (aa (pv 1) ak aj) (he := aj)) ak aN) aj) (he := aj)))))))), ?_⟩
  refine ⟨_, rfl, _, rfl, by omega, by omega, dz (n := n) (fun _ y _ => ∃ x, y = .int x /\ 0 <= x /\ x <= 4) (fun _ _ _ _ _ h => h) (Nat.le_of_lt (aO (by omega))) ?_ ?_⟩
  ·intro j hj H2 s2 Q' q
   have d1 := Fr.draw_nn (c + 31 * (j : Int)) 5 (show (0 : Int) < 5 by decide)
   have d2 := Fr.draw_lt (c + 31 * (j : Int)) 5 (show (0 : Int) < 5 by decide)
   exact ⟨_, rfl, _, rfl, _, _, rfl, rfl, .inl ⟨by decide, by decide⟩, _, _, rfl, rfl, _, _, _, rfl, (by decide), q _ H2 (Same.refl _) ⟨_, rfl, d1, by omega⟩⟩
  ·intro ys H2 s2 pr p hp
   obtain ⟨r, rfl, rl, rb⟩ := ints_of (fun x => 0 <= x /\ x <= 4) pr
   rw [List.length_range] at rl
   have d1 := Fr.draw_nn c 6 (show (0 : Int) < (n : Int) by omega)
   have d2 := Fr.draw_lt c 6 (show (0 : Int) < (n : Int) by omega)
   obtain ⟨j, hj⟩ : ∃ j : Nat, Fr.draw c 6 (n : Int) = (j : Int) := ⟨_, (Int.toNat_of_nonneg d1).symm⟩
   have jn : j < r.length := by omega
   have hpr : upd H2 p (.lst (r.map V.int)) p = some (.lst (r.map V.int)) := aq
   refine ⟨_, rfl, _, rfl, _, rfl, _, _, _, rfl, (by omega), ?_⟩
   rw [hj]
   refine ⟨p, _, _, _, rfl, rfl, SqL.of hpr, iV jn, _, _, rfl, rfl, p, _, _, j, rfl, rfl, hpr, Ao (by rw [List.length_map]; exact jn), ?_⟩
   have ew : (r.map V.int).set j (V.int (r.getD j 0 + 1)) = (r.set j (r.getD j 0 + 1)).map V.int := by rw [List.map_set]
   rw [ew]
   have hs := yX r j jn
   have h4 := zM r rb
   have hn : ∀ x ∈ r.set j (r.getD j 0 + 1), 0 <= x := by
    intro x hx
    rcases List.mem_or_eq_of_mem_set hx with e | e
    ·exact (rb x e).1
    ·have := (rb (r.getD j 0) (List.mem_of_getElem? (Hx 0 jn))).1
     omega
   have hlw : (r.set j (r.getD j 0 + 1)).length = n := by rw [List.length_set, rl]
   generalize r.set j (r.getD j 0 + 1) = ws at *
   have s3 : Same H (upd (upd H2 p (.lst (r.map V.int))) p (.lst (ws.map V.int))) := cM (s2.trans (ao hp)) (s2.free hp)
   have hw : upd (upd H2 p (.lst (r.map V.int))) p (.lst (ws.map V.int)) p = some (.lst (ws.map V.int)) := aq
   generalize upd (upd H2 p (.lst (r.map V.int))) p (.lst (ws.map V.int)) = H3 at s3 hw ⊢
   refine ⟨_, rfl, p, rfl, ⟨_, SqL.of hw⟩, bw (xs := ws.map V.int) (fun x y H' => ∀ i, x = V.int i -> IsFr H' y (Fr.mk i ws.sum)) (fun _ _ _ _ s h i e => (h i e).mono s) (SqL.of hw) (by rw [List.length_map]; exact Nat.le_of_lt (aO (by omega))) ?_ ?_⟩
   ·intro x hx H4 s4 Q' q
    obtain ⟨i, hi, rfl⟩ := List.mem_map.mp hx
    refine ⟨_, rfl, _, rfl, p, ws, rfl, SqL.of (s4 _ _ hw), _, _, rfl, by omega, (show Sz 60 ws.sum from by unfold Sz; omega).mono (by decide), fun t ht => q _ _ (ao ht) fun z e => ?_⟩
    cases e
    exact ⟨t, rfl, aq⟩
   ·intro ys H4 s4 pr t ht
    have pf := mj (fun i => Fr.mk i ws.sum) pr
    have hle := rQ ws hn
    have gq : GQ (mks ws ws.sum) := Ei (by omega) (fun x hx => by
     have h5 := hle.2 x hx
     have h6 := hn x hx
     unfold Sz
     omega) (by unfold Sz; omega) (by omega)
    exact k t (mks ws ws.sum) _ ((s3.trans s4).trans (ao ht)) ((s3.trans s4).free ht) ⟨ys, aq, pf.imp2 fun _ _ z => z.mono (ao ht)⟩ gq (by rw [fj]; exact hlw)
inductive PrE : Expr -> Int × Int -> Prop
 | pos {i k : Int} {j1 j2 : Nat} {p1 p2 p3 : Pos} {x1} : PrE (.Tuple [.Constant (.int i) j1 p1, .Constant (.int k) j2 p2] x1 p3) (i, k)
 | neg {i k : Int} {j1 j2 : Nat} {p0 p1 p2 p3 : Pos} {x1} : PrE (.Tuple [.UnaryOp .USub (.Constant (.int i) j1 p1) p0, .Constant (.int k) j2 p2] x1 p3) (-i, k)
inductive AllPr : List Expr -> List (Int × Int) -> Prop
 | nil : AllPr [] []
 | cons {e : Expr} {p : Int × Int} {es : List Expr} {ps : List (Int × Int)} : PrE e p -> AllPr es ps -> AllPr (e :: es) (p :: ps)
def I_ : List (Int × Int) -> TA
 | [] => fun _ H Q => Q [] H
 | p :: ps => fun σ H Q => ∀ t, H t = none -> I_ ps σ (upd H t (.tup [.int p.1, .int p.2])) (fun xs H' => Q (.ref t :: xs) H')
theorem Dt {X : Cx} {es : List Expr} {ps : List (Int × Int)} (h : AllPr es ps) : PA X es (I_ ps) := by
 induction h with
 | nil => exact ak
 | cons h _ ih =>
  cases h with
  | pos =>
   intro pos pins s σ H Q I q
   exact aa (bH (aa aA (aa aA ak rfl) rfl)) ih rfl pos pins s σ H Q I ⟨(by show 2 <= sizeLine; decide), fun t ht => q t ht⟩
  | neg =>
   intro pos pins s σ H Q I q
   exact aa (bH (aa (xf tD aA) (aa aA ak rfl) rfl)) ih rfl pos pins s σ H Q I ⟨_, rfl, (by show 2 <= sizeLine; decide), fun t ht => q t ht⟩
def OkQ (q : Int × Int) : Prop := Pq q /\ Sz 60 q.1 /\ Sz 60 q.2
theorem J8 {qs : List (Int × Int)} (h : ∀ q ∈ qs, OkQ q) (hl : qs.length <= 8) : GQ qs := ⟨fun q hq => (h q hq).1, fun q hq => (h q hq).2.1, fun q hq => (h q hq).2.2, hl⟩
theorem G5 {qs : List (Int × Int)} (h : GQ qs) : ∀ q ∈ qs, OkQ q := fun q hq => ⟨h.pr q hq, h.s1 q hq, h.s2 q hq⟩
theorem Kg : OkQ (1, 2) := ⟨⟨by decide, by decide⟩, by unfold Sz; decide, by unfold Sz; decide⟩
theorem Cm : OkQ (0, 1) := ⟨⟨by decide, by decide⟩, by unfold Sz; decide, by unfold Sz; decide⟩
theorem Io : OkQ (1, 1) := ⟨⟨by decide, by decide⟩, by unfold Sz; decide, by unfold Sz; decide⟩
theorem GP : OkQ (-1, 2) := ⟨⟨by decide, by decide⟩, by unfold Sz; decide, by unfold Sz; decide⟩
theorem K6 : OkQ (2, 1) := ⟨⟨by decide, by decide⟩, by unfold Sz; decide, by unfold Sz; decide⟩
theorem KJ : OkQ (3, 2) := ⟨⟨by decide, by decide⟩, by unfold Sz; decide, by unfold Sz; decide⟩
theorem d9 {l : Addr} {H : Hp} {a : Addr} {qs : List (Int × Int)} {xs : List V} {o : HO} (hl : H l = some (.lst xs)) (ha : a ≠ l) (h : IsFrs H a qs) : IsFrs (upd H l o) a qs := by
 obtain ⟨vs, e, p⟩ := h
 exact ⟨vs, by rw [aJ ha]; exact e, p.imp2 fun _ _ z => z.at hl⟩
def Al : Sp := fun vs H Q _ => ∃ (a : Addr) (c : Int) (qs : List (Int × Int)), vs = [.ref a, .int c] /\ IsFrs H a qs /\ GQ qs /\ 1 <= qs.length /\ qs.length <= 4 /\ ∀ p qs' H', Same H H' -> H p = none -> IsFrs H' p qs' -> GQ qs' -> qs'.length <= 5 -> Q (.ref p) H'
abbrev lC : Stmt := top 73
theorem xP : FnScope ["_law_mixture_here", "_law_cell", "_law_bent_here", "_law_kind", "_law_at"] ["_law_mixture_here", "_law_cell"] (aH lC) := ⟨rfl, rfl, rfl, by decide +kernel, rfl, by decide +kernel, by decide +kernel⟩
theorem xG (F : FunM K mg "_law_bent" lC ["_law_mixture_here", "_law_cell"]) (T : Blt mg) (bG : Def P w K mg base "_law_draw" ["_law_cell", "_law_k", "_law_many"] 1 mJ) : Def P w K mg base "_law_bent" ["_law_mixture_here", "_law_cell"] 2 Al := by
 have S := xP
 refine Def.of F S (fun vs H Q E h => ?_) (fun f cdv A outer s H vs Q E hr h => ?_)
 ·obtain ⟨a, c, qs, rfl, _⟩ := h
  rfl
 ·obtain ⟨a, c, qs, rfl, hA, gq, q1, q4, k⟩ := h
  obtain ⟨vs, ha, pr⟩ := id hA
  have vl : vs.length = qs.length := pr.length
  refine ⟨_, (aB (aY (i := 2) S.nd rfl (Or.inl rfl) (cu (dH K) (by rfl) T.list_ cD (aa (pv 0) ak aj) (he := aj)))
   (aB (aY (i := 3) S.nd rfl (Or.inl rfl) (aD bG (hr.mono (by decide)) rfl (aa (pv 1) (aa aA (aa aA ak aG) aG) aj) (he := aj)))
   (aB (aY (i := 4) S.nd rfl (Or.inr rfl) (aD bG (hr.mono (by decide)) rfl (aa (pv 1) (aa aA (aa (aK (bU K) (by rfl) T.len_ bx (aa (pv 2) ak aj) (he := aj)) ak aN) aG) aj) (he := aj)))
   (aB (bu (bh eQ (pv 3) aA (a_ _))
    (aC (tX (aQ (ixL K) (cz (Dt (.cons .pos (.cons .pos (.cons .pos (.cons .neg (.cons .pos .nil))))))) (aD bG (hr.mono (by decide)) rfl (aa (pv 1) (aa aA (aa aA ak aG) aG) aj) (he := aj)) (fun _ _ => rfl)) (zB (pv 2) (pv 4) set_list))) aZ)
   (aB (bu (bh eQ (pv 3) aA (a_ _))
    (aC (cN (ik PySem.F.plainAttrs_list PySem.F.slot_list_append PySem.F.type_list_append dh (pv 2) (aa (bH (aa aA (aa aA ak aG) aG)) ak cj)))) aZ)
   (aB (bu (bh eQ (pv 3) aA (a_ _))
    (aC (cN (JF PySem.F.plainAttrs_list PySem.F.slot_list_pop PySem.F.type_list_pop Jl (pv 2)))) aZ)
   (aB (bu (bh eQ (pv 3) aA (a_ _))
    (aC (jV (i := 2) rfl S.nd rfl rfl (N' := ["_law_place", "_law_at"]) (src := [none, some 4]) rfl (cO rfl T.range_ (aa (aK (bU K) (by rfl) T.len_ bx (aa (pv 2) ak aj) (he := aj)) ak aN)) (fun _ _ _ _ _ => (aP (i := 0) (show (["_law_place", "_law_at"] : List Str).Nodup from by decide +kernel) rfl (Or.inl rfl))) (fun _ _ _ _ _ => bf) (fun _ _ _ _ _ => (bH (aa (cu Dn (by rfl) T.int_ ye (aa (dJ eQ (pv 0) (pv 1) (a_ _)) ak tR) (he := tR)) (aa aA ak aG) aN))))) aZ)
   (aB (bu (PW.pt (oU (bh eQ (pv 3) aA (a_ _)) (mG (bh qg (aK (bU K) (by rfl) T.len_ bx (aa (pv 2) ak aj) (he := aj)) aA (a_ _)))))
    (aC (aY (i := 2) S.nd rfl (Or.inl rfl) (aX jj (cz (Dt (.cons .pos (.cons .neg .nil)))) (bj rfl (N' := ["_law_one"]) (src := [none]) rfl (piL K (eV (slL K) (pv 2) (fY aA) gh)) (fun _ _ _ _ _ => (aP (i := 0) (show (["_law_one"] : List Str).Nodup from by decide +kernel) rfl (Or.inl rfl))) (fun _ _ _ _ _ => bf) (fun _ _ _ _ _ => (bH (aa aA (aa aA ak aG) aG))))))) aZ)
   (aC (aM (pv 2))))))))))), ?_⟩
  refine ⟨_, rfl, a, vs, rfl, .inl (SqL.of ha), fun p hp => ?_⟩
  have s1 := ao (o := .lst vs) hp
  have e1 : upd H p (.lst vs) p = some (.lst vs) := aq
  have f1 : IsFrs (upd H p (.lst vs)) p qs := ⟨vs, aq, pr.imp2 fun _ _ z => z.mono s1⟩
  generalize upd H p (.lst vs) = H1 at s1 e1 f1 ⊢
  refine ⟨_, rfl, _, _, _, rfl, (by decide), ?_⟩
  have d1 := Fr.draw_nn c 8 (show (0 : Int) < (vs.length : Int) by omega)
  have d2 := Fr.draw_lt c 8 (show (0 : Int) < (vs.length : Int) by omega)
  obtain ⟨j, hj⟩ : ∃ j : Nat, Fr.draw c 8 (vs.length : Int) = (j : Int) := ⟨_, (Int.toNat_of_nonneg d1).symm⟩
  have jl : j < qs.length := by omega
  refine ⟨_, rfl, _, rfl, p, vs, rfl, .inl (SqL.of e1), _, _, _, rfl, (by omega), ?_⟩
  rw [hj]
  refine oH ?_
  refine bN (fun σ' H' => ∃ (p' : Addr) (qs' : List (Int × Int)), σ' = [some (.ref a), some (.int c), some (.ref p'), some (.int (Fr.draw c 7 9)), some (.int j)] /\ Same H H' /\ H p' = none /\ IsFrs H' p' qs' /\ (∀ q ∈ qs', OkQ q) /\ 1 <= qs'.length /\ qs'.length <= 4) (fun R hR => ?_) ?_
  ·refine ⟨_, rfl, rfl, _, rfl, ?_⟩
   refine lR (fun _ => ?_) (fun _ => hR _ _ ⟨p, qs, rfl, s1, hp, f1, G5 gq, q1, q4⟩)
   refine fun t1 h1 t2 h2 t3 h3 t4 h4 t5 h5 => ⟨(by show 5 <= sizeLine; decide), fun q hq => ?_⟩
   have a1 := ao (o := .tup [.int 1, .int 2]) h1
   have a2 := ao (o := .tup [.int 0, .int 1]) h2
   have a3 := ao (o := .tup [.int 1, .int 1]) h3
   have a4 := ao (o := .tup [.int (-1), .int 2]) h4
   have a5 := ao (o := .tup [.int 2, .int 1]) h5
   have a6 := ao (o := .lst [.ref t1, .ref t2, .ref t3, .ref t4, .ref t5]) hq
   have b5 := a6 _ _ (aq (a := t5) (o := .tup [.int 2, .int 1]))
   have b4 := a6 _ _ (a5 _ _ (aq (a := t4) (o := .tup [.int (-1), .int 2])))
   have b3 := a6 _ _ (a5 _ _ (a4 _ _ (aq (a := t3) (o := .tup [.int 1, .int 1]))))
   have b2 := a6 _ _ (a5 _ _ (a4 _ _ (a3 _ _ (aq (a := t2) (o := .tup [.int 0, .int 1])))))
   have b1 := a6 _ _ (a5 _ _ (a4 _ _ (a3 _ _ (a2 _ _ (aq (a := t1) (o := .tup [.int 1, .int 2]))))))
   have b6 := aq (H := upd (upd (upd (upd (upd H1 t1 (.tup [.int 1, .int 2])) t2 (.tup [.int 0, .int 1])) t3 (.tup [.int 1, .int 1])) t4 (.tup [.int (-1), .int 2])) t5 (.tup [.int 2, .int 1])) (a := q) (o := .lst [.ref t1, .ref t2, .ref t3, .ref t4, .ref t5])
   have sX := ((((a1.trans a2).trans a3).trans a4).trans a5).trans a6
   generalize upd (upd (upd (upd (upd (upd H1 t1 (.tup [.int 1, .int 2])) t2 (.tup [.int 0, .int 1])) t3 (.tup [.int 1, .int 1])) t4 (.tup [.int (-1), .int 2])) t5 (.tup [.int 2, .int 1])) q (.lst [.ref t1, .ref t2, .ref t3, .ref t4, .ref t5]) = H2 at b1 b2 b3 b4 b5 b6 sX ⊢
   have c1 := Fr.draw_nn c 9 (show (0 : Int) < 5 by decide)
   have c2 := Fr.draw_lt c 9 (show (0 : Int) < 5 by decide)
   have pick : ∃ v y, atI ([.ref t1, .ref t2, .ref t3, .ref t4, .ref t5] : List V) (Fr.draw c 9 5) = some v /\ IsFr H2 v y /\ OkQ y := by
    generalize Fr.draw c 9 5 = d at c1 c2
    have : d = 0 \/ d = 1 \/ d = 2 \/ d = 3 \/ d = 4 := by omega
    rcases this with rfl | rfl | rfl | rfl | rfl
    ·exact ⟨_, _, rfl, ⟨t1, rfl, b1⟩, Kg⟩
    ·exact ⟨_, _, rfl, ⟨t2, rfl, b2⟩, Cm⟩
    ·exact ⟨_, _, rfl, ⟨t3, rfl, b3⟩, Io⟩
    ·exact ⟨_, _, rfl, ⟨t4, rfl, b4⟩, GP⟩
    ·exact ⟨_, _, rfl, ⟨t5, rfl, b5⟩, K6⟩
   obtain ⟨v, y, hv, fy, oy⟩ := pick
   have e2 := sX _ _ e1
   refine ⟨_, rfl, _, _, _, rfl, (by decide), q, _, _, v, rfl, rfl, SqL.of b6, hv, ?_⟩
   refine ⟨_, rfl, _, rfl, p, vs, (j : Int), j, rfl, rfl, e2, Ao (by omega), ?_⟩
   obtain ⟨vs', ev, pv⟩ := f1.mono sX
   rw [e2] at ev
   cases ev
   refine hR _ _ ⟨p, qs.set j y, rfl, cM (s1.trans sX) hp, hp, ⟨_, aq, Paired.set2 (fy.at e2) j (pv.imp2 fun _ _ z => z.at e2)⟩, fun x hx => ?_, by rw [List.length_set]; exact q1, by rw [List.length_set]; exact q4⟩
   rcases List.mem_or_eq_of_mem_set hx with z | z
   ·exact G5 gq x z
   ·rw [z]; exact oy
  rintro σ' H2 ⟨p2, qs2, rfl, s2, hp2, f2, o2, l2, u2⟩
  refine bN (fun σ' H' => ∃ (p' : Addr) (qs' : List (Int × Int)), σ' = [some (.ref a), some (.int c), some (.ref p'), some (.int (Fr.draw c 7 9)), some (.int j)] /\ Same H H' /\ H p' = none /\ IsFrs H' p' qs' /\ (∀ q ∈ qs', OkQ q) /\ 1 <= qs'.length /\ qs'.length <= 5) (fun R hR => ?_) ?_
  ·refine ⟨_, rfl, rfl, _, rfl, ?_⟩
   refine lR (fun _ => ?_) (fun _ => hR _ _ ⟨p2, qs2, rfl, s2, hp2, f2, o2, l2, by omega⟩)
   obtain ⟨zs, ez, pz⟩ := id f2
   have zl : zs.length = qs2.length := pz.length
   refine ⟨_, rfl, .inl ⟨rfl, _, SqL.of ez⟩, (by show 2 <= sizeLine; decide), fun tp htp => ?_⟩
   have sT := ao (o := .tup [.int 0, .int 1]) htp
   have hT : upd H2 tp (.tup [.int 0, .int 1]) tp = some (.tup [.int 0, .int 1]) := aq
   generalize upd H2 tp (.tup [.int 0, .int 1]) = H3 at sT hT ⊢
   have e3 := sT _ _ ez
   refine ⟨p2, zs, .ref tp, rfl, rfl, e3, aO (by omega), ?_⟩
   refine hR _ _ ⟨p2, qs2 ++ [(0, 1)], rfl, cM (s2.trans sT) hp2, hp2, ⟨_, aq, (pz.imp2 fun _ _ z => (z.mono sT).at e3).app2 (.cons (IsFr.at e3 ⟨tp, rfl, hT⟩) .nil)⟩, fun x hx => ?_, by rw [List.length_append]; omega, by rw [List.length_append, List.length_singleton]; omega⟩
   rcases List.mem_append.mp hx with z | z
   ·exact o2 x z
   ·rw [List.mem_singleton.mp z]; exact Cm
  rintro σ' H3 ⟨p3, qs3, rfl, s3, hp3, f3, o3, l3, u3⟩
  clear f2 o2 l2 u2 hp2 s2 f1
  refine bN (fun σ' H' => ∃ (p' : Addr) (qs' : List (Int × Int)), σ' = [some (.ref a), some (.int c), some (.ref p'), some (.int (Fr.draw c 7 9)), some (.int j)] /\ Same H H' /\ H p' = none /\ IsFrs H' p' qs' /\ (∀ q ∈ qs', OkQ q) /\ qs'.length <= 5) (fun R hR => ?_) ?_
  ·refine ⟨_, rfl, rfl, _, rfl, ?_⟩
   refine lR (fun _ => ?_) (fun _ => hR _ _ ⟨p3, qs3, rfl, s3, hp3, f3, o3, u3⟩)
   obtain ⟨zs, ez, pz⟩ := id f3
   have zl : zs.length = qs3.length := pz.length
   have hlast : zs.length - 1 < zs.length := by omega
   refine ⟨_, rfl, .inl ⟨rfl, _, SqL.of ez⟩, p3, zs, _, rfl, rfl, ez, List.getElem?_eq_getElem hlast, ?_⟩
   refine hR _ _ ⟨p3, qs3.take (zs.length - 1), rfl, cM s3 hp3, hp3, ⟨_, aq, ?_⟩, fun x hx => o3 x (List.mem_of_mem_take hx), by rw [List.length_take]; omega⟩
   rw [List.dropLast_eq_take]
   exact qw _ (pz.imp2 fun _ _ z => z.at ez)
  rintro σ' H4 ⟨p4, qs4, rfl, s4, hp4, f4, o4, u4⟩
  clear f3 o3 l3 u3 hp3 s3
  refine bN (fun σ' H' => ∃ (p' : Addr) (qs' : List (Int × Int)), σ' = [some (.ref a), some (.int c), some (.ref p'), some (.int (Fr.draw c 7 9)), some (.int j)] /\ Same H H' /\ H p' = none /\ IsFrs H' p' qs' /\ (∀ q ∈ qs', OkQ q) /\ qs'.length <= 5) (fun R hR => ?_) ?_
  ·refine ⟨_, rfl, rfl, _, rfl, ?_⟩
   refine lR (fun _ => ?_) (fun _ => hR _ _ ⟨p4, qs4, rfl, s4, hp4, f4, o4, u4⟩)
   obtain ⟨zs, ez, pz⟩ := id f4
   have zl : zs.length = qs4.length := pz.length
   refine ⟨_, rfl, p4, zs, rfl, .inl (SqL.of ez), _, rfl, by omega, by omega, dz (n := zs.length) (fun (i : Nat) y H' => ∃ q, IsFr H' y q /\ OkQ q) (fun _ _ _ _ s h => let ⟨q, h1, h2⟩ := h; ⟨q, h1.mono s, h2⟩) (Nat.le_of_lt (aO (by omega))) ?_ ?_⟩
   ·intro i hi H5 s5 Q' q
    refine ⟨_, rfl, _, rfl, rfl, .inr ⟨_, rfl, (by show 2 <= sizeLine; decide), fun t ht => ?_⟩⟩
    refine q _ _ (ao ht) ⟨((if decide (V.int (i : Int) = V.int (j : Int)) = true then 1 else 0), 1), ⟨t, rfl, aq⟩, ?_⟩
    split
    ·exact Io
    ·exact Cm
   ·intro ys H5 s5 pr5 l hl
    have hex : ∃ qs' : List (Int × Int), Paired (IsFr H5) ys qs' /\ (∀ q ∈ qs', OkQ q) /\ qs'.length = zs.length := by
     have go : ∀ {l : List Nat} {ys : List V}, Paired (fun (_ : Nat) y => ∃ q, IsFr H5 y q /\ OkQ q) l ys -> ∃ qs' : List (Int × Int), Paired (IsFr H5) ys qs' /\ (∀ q ∈ qs', OkQ q) /\ qs'.length = l.length := by
      intro l ys h
      induction h with
      | nil => exact ⟨[], .nil, (fun q h => absurd h (by simp)), rfl⟩
      | cons h t ih =>
       obtain ⟨q, h1, h2⟩ := h
       obtain ⟨qs', i1, i2, i3⟩ := ih
       refine ⟨q :: qs', .cons h1 i1, fun x hx => ?_, by simp [i3]⟩
       rcases List.mem_cons.mp hx with e | e
       ·rw [e]; exact h2
       ·exact i2 x e
     obtain ⟨qs', i1, i2, i3⟩ := go pr5
     exact ⟨qs', i1, i2, by rw [i3, List.length_range]⟩
    obtain ⟨qs', i1, i2, i3⟩ := hex
    exact hR _ _ ⟨l, qs', rfl, (s4.trans s5).trans (ao hl), (s4.trans s5).free hl, ⟨ys, aq, i1.imp2 fun _ _ z => z.mono (ao hl)⟩, i2, by omega⟩
  rintro σ' H5 ⟨p5, qs5, rfl, s5, hp5, f5, o5, u5⟩
  clear f4 o4 u4 hp4 s4
  refine bN (fun σ' H' => ∃ (p' : Addr) (qs' : List (Int × Int)), σ' = [some (.ref a), some (.int c), some (.ref p'), some (.int (Fr.draw c 7 9)), some (.int j)] /\ Same H H' /\ H p' = none /\ IsFrs H' p' qs' /\ (∀ q ∈ qs', OkQ q) /\ qs'.length <= 5) (fun R hR => ?_) ?_
  ·obtain ⟨zs, ez, pz⟩ := id f5
   have zl : zs.length = qs5.length := pz.length
   have stay := hR _ _ ⟨p5, qs5, rfl, s5, hp5, f5, o5, u5⟩
   refine ⟨_, rfl, rfl, _, rfl, ?_⟩
   refine lR (fun _ => ?_) (fun hf => ?_)
   rotate_left
   ·refine bK ?_
    exact stay
   refine ⟨_, rfl, p5, zs, rfl, .inl (SqL.of ez), _, _, rfl, rfl, _, rfl, ?_⟩
   refine lR (fun h1 => ?_) (fun _ => stay)
   have h2' : (1 : Int) < (zs.length : Int) := by simpa using h1
   have h2 : 1 < zs.length := by omega
   refine fun t1 ht1 t2 ht2 => ⟨(by show 2 <= sizeLine; decide), fun q hq => ?_⟩
   have a1 := ao (o := .tup [.int 3, .int 2]) ht1
   have a2 := ao (o := .tup [.int (-1), .int 2]) ht2
   have a3 := ao (o := .lst [.ref t1, .ref t2]) hq
   have b2 := a3 _ _ (aq (a := t2) (o := .tup [.int (-1), .int 2]))
   have b1 := a3 _ _ (a2 _ _ (aq (a := t1) (o := .tup [.int 3, .int 2])))
   have b3 := aq (H := upd (upd H5 t1 (.tup [.int 3, .int 2])) t2 (.tup [.int (-1), .int 2])) (a := q) (o := .lst [.ref t1, .ref t2])
   have sX := (a1.trans a2).trans a3
   generalize upd (upd (upd H5 t1 (.tup [.int 3, .int 2])) t2 (.tup [.int (-1), .int 2])) q (.lst [.ref t1, .ref t2]) = H6 at b1 b2 b3 sX ⊢
   refine ⟨_, rfl, _, rfl, p5, zs, rfl, SqL.of (sX _ _ ez), fun q1' hq1 => ?_⟩
   have ed : cP zs (some 2) none = zs.drop 2 := iy (k := 2) (by decide) (by omega)
   rw [ed]
   have a4 := ao (o := .lst (zs.drop 2)) hq1
   have e4 : upd H6 q1' (.lst (zs.drop 2)) q1' = some (.lst (zs.drop 2)) := aq
   generalize upd H6 q1' (.lst (zs.drop 2)) = H7 at a4 e4 ⊢
   refine ⟨q1', rfl, ⟨_, SqL.of e4⟩, bw (xs := zs.drop 2) (fun _ y H' => IsFr H' y (0, 1)) (fun _ _ _ _ s h => h.mono s) (SqL.of e4) (by rw [List.length_drop]; exact Nat.le_of_lt (aO (by omega))) ?_ ?_⟩
   ·intro x hx H8 s8 Q' q'
    exact ⟨(by show 2 <= sizeLine; decide), fun t ht => q' _ _ (ao ht) ⟨t, rfl, aq⟩⟩
   ·intro ys H8 s8 pr8 l hl
    have p8 : Paired (IsFr H8) ys (List.replicate ys.length ((0 : Int), (1 : Int))) := by
     have go : ∀ {xs ys : List V}, Paired (fun _ y => IsFr H8 y (0, 1)) xs ys -> Paired (IsFr H8) ys (List.replicate ys.length ((0 : Int), (1 : Int))) := by
      intro xs ys h
      induction h with
      | nil => exact .nil
      | cons h t ih => exact .cons h ih
     exact go pr8
    have yl : ys.length <= 3 := by rw [<- pr8.length, List.length_drop]; omega
    have sL := ao (o := .lst ys) hl
    have eL : upd H8 l (.lst ys) l = some (.lst ys) := aq
    have eq' := sL _ _ (s8 _ _ (a4 _ _ b3))
    generalize upd H8 l (.lst ys) = H9 at sL eL eq' ⊢
    have s69 := (a4.trans s8).trans sL
    refine ⟨q, l, _, _, rfl, rfl, eq', eL, (by show 2 + ys.length <= sizeLine; exact Nat.le_of_lt (aO (by omega))), fun r hr' => ?_⟩
    have sR := ao (o := .lst ([.ref t1, .ref t2] ++ ys)) hr'
    have s59 := sX.trans s69
    refine hR _ _ ⟨r, [(3, 2), (-1, 2)] ++ List.replicate ys.length (0, 1), rfl, (s5.trans s59).trans sR, (s5.trans s59).free hr', ⟨_, aq, ?_⟩, fun x hx => ?_, by rw [List.length_append, List.length_replicate]; show 2 + ys.length <= 5; omega⟩
    ·refine Paired.imp2 (F := IsFr H9) ?_ fun _ _ z => z.mono sR
     exact (Paired.cons ⟨t1, rfl, s69 _ _ b1⟩ (.cons ⟨t2, rfl, s69 _ _ b2⟩ .nil)).app2 (p8.imp2 fun _ _ z => z.mono sL)
    ·rcases List.mem_append.mp hx with z | z
     ·rcases List.mem_cons.mp z with z | z
      ·rw [z]; exact KJ
      ·rw [List.mem_singleton.mp z]; exact GP
     ·rw [(List.mem_replicate.mp z).2]; exact Cm
  rintro σ' H6 ⟨p6, qs6, rfl, s6, hp6, f6, o6, u6⟩
  exact ⟨_, rfl, k p6 qs6 H6 s6 hp6 f6 (J8 o6 (by omega)) u6⟩
theorem Em {H : Hp} (b : Bool) : Rep K H (.bl b) (.bl b) := by unfold Rep; rfl
def vq : Sp := fun vs H Q _ => ∃ b : Bool, vs = [.bl b, .bl b] /\ Q (.bl true) H
abbrev lN : Stmt := top 74
theorem yU : FnScope ["_law_told", "_law_due"] ["_law_told", "_law_due"] (aH lN) := ⟨rfl, rfl, rfl, by decide +kernel, rfl, by decide +kernel, by decide +kernel⟩
theorem yC (F : FunM K mg "_law_says" lN ["_law_told", "_law_due"]) (T : Blt mg) : Def P w K mg base "_law_says" ["_law_told", "_law_due"] 1 vq := by
 have S := yU
 refine Def.of F S (fun vs H Q E h => ?_) (fun f cdv A outer s H vs Q E hr h => ?_)
 ·obtain ⟨b, rfl, _⟩ := h
  rfl
 ·obtain ⟨b, rfl, k⟩ := h
  refine ⟨_, (aC (aM (jo (aK (jG K) (by rfl) T.isinstance_ bR (aa (pv 0) (aa (dU (v := .ty "bool") rfl T.bool_ vz rfl) ak aj) aj) (he := aj)) (gR (dJ (Bx K hr.units) (pv 0) (pv 1) (a_ _)))))), ?_⟩
  refine ⟨_, rfl, _, _, _, _, rfl, TyOf.bl _, rfl, _, rfl, ?_⟩
  refine cX ?_
  refine ⟨_, rfl, _, rfl, _, _, Em _, Em _, rfl, Nat.zero_le _, ?_⟩
  rw [eH]
  exact k
theorem dX {H : Hp} {a : Addr} {qs : List (Int × Int)} (h : IsFrs H a qs) : Rep K H (.lst (qs.map frD)) (.ref a) := by
 obtain ⟨vs, e, p⟩ := h
 unfold Rep
 exact ⟨a, vs, rfl, SqL.of e, rK p⟩
theorem iG (qs : List (Int × Int)) : di (.lst (qs.map frD)) (.lst (qs.map frD)) = true := mQ qs qs
theorem jW (qs : List (Int × Int)) : dN (.lst (qs.map frD)) <= 40 := by
 rw [lV]
 have := pD qs
 omega
def qC : Sp := fun vs H Q _ => ∃ (a l1 l2 u : Addr) (c : Int) (U : List (List Int)) (m n : Nat) (ps qs : List (Int × Int)) (v : Int × Int), vs = [.ref a, .int c, .ref l1, .ref l2, .ref u] /\ IsTab H a U /\ Gd U m n /\ IsFrs H l1 ps /\ GQ ps /\ IsFrs H l2 qs /\ GQ qs /\ H u = some (.tup [.int v.1, .int v.2]) /\ Pq v /\ Sz 1000 v.1 /\ Sz 1000 v.2 /\ ∀ H', Same H H' -> Q (.bl true) H'
abbrev gK : Stmt := top 75
theorem qj : FnScope ["_law_table_here", "_law_cell", "_law_mine", "_law_theirs", "_law_value", "_law_handed", "_law_answer", "_law_row", "_law_answers_here"] ["_law_table_here", "_law_cell", "_law_mine", "_law_theirs", "_law_value"] (aH gK) := ⟨rfl, rfl, rfl, by decide +kernel, rfl, by decide +kernel, by decide +kernel⟩
theorem qm {CS CB CE : Addr} (F : FunM K mg "_law_one_right" gK ["_law_table_here", "_law_cell", "_law_mine", "_law_theirs", "_law_value"]) (T : Blt mg) (C_Solved : Cl K mg "Solved" ["value", "mine", "theirs"] [] CS) (C_Beaten : Cl K mg "Beaten" ["mixture"] [] CB) (C_Best : Cl K mg "Best" ["mixture"] [] CE)
  (d_ : DefC P w K mg base CS "__init__" ["self", "value", "mine", "theirs"] 1 (qQ CS)) (jB : DefC P w K mg base CB "__init__" ["self", "mixture"] 1 (m8 CB)) (lJ : DefC P w K mg base CE "__init__" ["self", "mixture"] 1 (m8 CE))
  (iW : DefC P w K mg base CS "shows" ["self", "table"] 7 (v4 CS)) (iK : DefC P w K mg base CB "shows" ["self", "table", "row"] 8 (wF CB)) (kh : DefC P w K mg base CE "shows" ["self", "table", "row"] 8 (wB CE))
  (dB : Def P w K mg base "_law_says" ["_law_told", "_law_due"] 1 vq) (jx : Def P w K mg base "_law_solved" ["_law_table_here", "_law_found"] 5 (rW CS)) (kJ : Def P w K mg base "_law_beats" ["_law_table_here", "_law_row", "_law_mixture_here"] 5 vI) (iY : Def P w K mg base "_law_answers" ["_law_table_here", "_law_row", "_law_mixture_here"] 5 yN) :
  Def P w K mg base "_law_one_right" ["_law_table_here", "_law_cell", "_law_mine", "_law_theirs", "_law_value"] 9 qC := by
 have S := qj
 refine Def.of F S (fun vs H Q E h => ?_) (fun f cdv A outer s H vs Q E hr h => ?_)
 ·obtain ⟨a, l1, l2, u, c, U, m, n, ps, qs, v, rfl, _⟩ := h
  rfl
 ·obtain ⟨a, l1, l2, u, c, U, m, n, ps, qs, v, rfl, hU, g, f1, gp, f2, gq, hu, pqv, zv1, zv2, k⟩ := h
  have c0 := C_Solved.no "value" (by simp)
  have c1 := C_Solved.no "mine" (by simp)
  have c2 := C_Solved.no "theirs" (by simp)
  have cb := C_Beaten.no "mixture" (by simp)
  have ce := C_Best.no "mixture" (by simp)
  have m1 := g.m1
  have plen := gp.len
  have qlen := gq.len
  obtain ⟨z1, e1, p1⟩ := id f1
  obtain ⟨z2, e2, p2⟩ := id f2
  have z1l : z1.length <= 8 := by rw [p1.length]; exact plen
  have z2l : z2.length <= 8 := by rw [p2.length]; exact qlen
  refine ⟨_, (aB (aY (i := 5) S.nd rfl (Or.inl rfl) (cz (aa (cu (dH K) (by rfl) T.list_ cD (aa (pv 2) ak aj) (he := aj)) (aa (cu (dH K) (by rfl) T.list_ cD (aa (pv 3) ak aj) (he := aj)) ak aN) aN)))
   (aB (aY (i := 6) S.nd rfl (Or.inl rfl) (iU d_ C_Solved (hr.mono (by decide)) rfl (aa (pv 4) (aa (aQ (ixL K) (pv 5) aA (fun _ _ => rfl)) (aa (aQ (ixL K) (pv 5) aA (fun _ _ => rfl)) ak aF) aF) aj) (he := aj)))
   (aB (cN (ik PySem.F.plainAttrs_list PySem.F.slot_list_append PySem.F.type_list_append dh (aQ (ixL K) (pv 5) aA (fun _ _ => rfl)) (aa (bH (aa aA (aa aA ak aG) aG)) ak cj)))
   (aB (cN (ik PySem.F.plainAttrs_list PySem.F.slot_list_append PySem.F.type_list_append dh (aQ (ixL K) (pv 5) aA (fun _ _ => rfl)) (aa (bH (aa aA (aa aA ak aG) aG)) ak cj)))
   (aB (bu (PW.pt (cR (bh (jM K hr.units) (bB (pv 6) rfl) (pv 2) (a_ _)) (cR (bh (jM K hr.units) (bB (pv 6) rfl) (pv 3) (a_ _)) (cH (bh (jM K hr.units) (bB (pv 6) rfl) (pv 4) (a_ _))))))
    (aC (aM bQ)) aZ)
   (aB (bu (bJ (bA (aD dB (hr.mono (by decide)) rfl (aa (nR iW C_Solved (hr.mono (by decide)) (pv 6) (aa (pv 0) ak aj) (hst := aj)) (aa (aD jx (hr.mono (by decide)) rfl (aa (pv 0) (aa (pv 6) ak aj) aj) (he := aj)) ak aN) aN) (he := aN))))
    (aC (aM bQ)) aZ)
   (aB (aY (i := 7) S.nd rfl (Or.inl rfl) (aX eN (pv 1) (aK (bU K) (by rfl) T.len_ bx (aa (pv 0) ak aj) (he := aj))))
   (aB (aY (i := 5) S.nd rfl (Or.inl rfl) (cz (aa (cu (dH K) (by rfl) T.list_ cD (aa (pv 2) ak aj) (he := aj)) (aa (cu (dH K) (by rfl) T.list_ cD (aa (pv 3) ak aj) (he := aj)) ak aN) aN)))
   (aB (aY (i := 8) S.nd rfl (Or.inl rfl) (cz (aa (iU jB C_Beaten (hr.mono (by decide)) rfl (aa (aQ (ixL K) (pv 5) aA (fun _ _ => rfl)) ak aF) (he := aF)) (aa (iU lJ C_Best (hr.mono (by decide)) rfl (aa (aQ (ixL K) (pv 5) aA (fun _ _ => rfl)) ak aF) (he := aF)) ak aN) aN)))
   (aB (cN (ik PySem.F.plainAttrs_list PySem.F.slot_list_append PySem.F.type_list_append dh (aQ (ixL K) (pv 5) aA (fun _ _ => rfl)) (aa (bH (aa aA (aa aA ak aG) aG)) ak cj)))
   (aB (cN (ik PySem.F.plainAttrs_list PySem.F.slot_list_append PySem.F.type_list_append dh (aQ (ixL K) (pv 5) aA (fun _ _ => rfl)) (aa (bH (aa aA (aa aA ak aG) aG)) ak cj)))
   (aB (bu (PW.pt (cR (bh (jM K hr.units) (bB (aQ (ixL K) (pv 8) aA (fun _ _ => rfl)) rfl) (pv 2) (a_ _)) (cH (bh (jM K hr.units) (bB (aQ (ixL K) (pv 8) aA (fun _ _ => rfl)) rfl) (pv 3) (a_ _)))))
    (aC (aM bQ)) aZ)
   (aB (bu (bJ (bA (aD dB (hr.mono (by decide)) rfl (aa (nR iK C_Beaten (hr.mono (by decide)) (aQ (ixL K) (pv 8) aA (fun _ _ => rfl)) (aa (pv 0) (aa (pv 7) ak aj) aj) (hst := aj)) (aa (aD kJ (hr.mono (by decide)) rfl (aa (pv 0) (aa (pv 7) (aa (pv 2) ak aj) aj) aj) (he := aj)) ak aN) aN) (he := aN))))
    (aC (aM bQ)) aZ)
   (aC (aM (aD dB (hr.mono (by decide)) rfl (aa (nR kh C_Best (hr.mono (by decide)) (aQ (ixL K) (pv 8) aA (fun _ _ => rfl)) (aa (pv 0) (aa (pv 7) ak aj) aj) (hst := aj)) (aa (aD iY (hr.mono (by decide)) rfl (aa (pv 0) (aa (pv 7) (aa (pv 3) ak aj) aj) aj) (he := aj)) ak aN) aN) (he := aN))))))))))))))))), ?_⟩
  refine ⟨_, rfl, l1, z1, rfl, .inl (SqL.of e1), fun h1 hh1 => ?_⟩
  have sA := ao (o := .lst z1) hh1
  have eA : upd H h1 (.lst z1) h1 = some (.lst z1) := aq
  generalize upd H h1 (.lst z1) = HA at sA eA ⊢
  refine ⟨_, rfl, l2, z2, rfl, .inl (SqL.of (sA _ _ e2)), fun h2 hh2 => ?_⟩
  have n12 : h1 ≠ h2 := fun e => by rw [<- e, eA] at hh2; cases hh2
  have hh2' := sA.free hh2
  have sB := ao (o := .lst z2) hh2
  have eB : upd HA h2 (.lst z2) h2 = some (.lst z2) := aq
  have eA' := sB _ _ eA
  generalize upd HA h2 (.lst z2) = HB at sB eB eA' ⊢
  refine ⟨(by show 2 <= sizeLine; decide), fun hd hhd => ?_⟩
  have sC := ao (o := .lst [.ref h1, .ref h2]) hhd
  have ehd : upd HB hd (.lst [.ref h1, .ref h2]) hd = some (.lst [.ref h1, .ref h2]) := aq
  have nh1 : h1 ≠ hd := fun e => by rw [<- e, eA'] at hhd; cases hhd
  have nh2 : h2 ≠ hd := fun e => by rw [<- e, eB] at hhd; cases hhd
  have eAC := sC _ _ eA'
  have eBC := sC _ _ eB
  have s0 := (sA.trans sB).trans sC
  generalize upd HB hd (.lst [.ref h1, .ref h2]) = HC at sC ehd eAC eBC s0 ⊢
  have f1C := f1.mono s0
  have f2C := f2.mono s0
  obtain ⟨_, y1, p1C⟩ := f1C
  rw [s0 _ _ e1] at y1
  cases y1
  obtain ⟨_, y2, p2C⟩ := f2C
  rw [s0 _ _ e2] at y2
  cases y2
  refine ⟨_, rfl, _, rfl, hd, _, 0, _, rfl, rfl, SqL.of ehd, rfl, _, rfl, hd, _, 1, _, rfl, rfl, SqL.of ehd, rfl, ?_⟩
  intro x dx nx ndx nex
  have sm0 : Same HC (upd (upd HC dx (.own x)) x (.ins CS dx [])) := fun b o e => by
   rw [aJ (aV e nx), aJ (aV e ndx)]
   exact e
  refine ⟨x, dx, u, h1, h2, z1, z2, rfl, aq, sm0 _ _ eAC, sm0 _ _ eBC, fun k1 k2 HU n1' n2' k12 hl1 hl2 hins kp => ⟨rfl, ?_⟩⟩
  have sU : Same HC HU := fun b o e => kp b o (sm0 b o e) (aV e nx)
  have nk1 := sm0.free n1'
  have nk2 := sm0.free n2'
  have k1h1 : k1 ≠ h1 := fun e => by rw [e, eAC] at nk1; cases nk1
  have k1h2 : k1 ≠ h2 := fun e => by rw [e, eBC] at nk1; cases nk1
  have k2h1 : k2 ≠ h1 := fun e => by rw [e, eAC] at nk2; cases nk2
  have k2h2 : k2 ≠ h2 := fun e => by rw [e, eBC] at nk2; cases nk2
  have xh1 : x ≠ h1 := fun e => by rw [e, eAC] at nx; cases nx
  have xh2 : x ≠ h2 := fun e => by rw [e, eBC] at nx; cases nx
  have fk1 : IsFrs HU k1 ps := ⟨z1, hl1, p1C.imp2 fun _ _ z => z.mono sU⟩
  have fk2 : IsFrs HU k2 qs := ⟨z2, hl2, p2C.imp2 fun _ _ z => z.mono sU⟩
  have s0U := s0.trans sU
  have e1U := sU _ _ eAC
  have e2U := sU _ _ eBC
  have ehU := sU _ _ ehd
  refine oH ?_
  refine bN (fun σ' H' => σ' = [some (.ref a), some (.int c), some (.ref l1), some (.ref l2), some (.ref u), some (.ref hd), some (.ref x), none, none] /\ Same H H' /\ H' hd = some (.lst [.ref h1, .ref h2]) /\ H' h2 = some (.lst z2) /\ H' x = some (.ins CS dx (gH u k1 k2)) /\ IsFrs H' k1 ps /\ IsFrs H' k2 qs) (fun R hR => ?_) ?_
  ·refine ⟨_, rfl, hd, _, 0, _, rfl, rfl, SqL.of ehU, rfl, .inl ⟨rfl, _, SqL.of e1U⟩, (by show 2 <= sizeLine; decide), fun tp htp => ?_⟩
   have sT := ao (o := .tup [.int 0, .int 1]) htp
   generalize upd HU tp (.tup [.int 0, .int 1]) = HV at sT ⊢
   have e1V := sT _ _ e1U
   refine ⟨h1, z1, .ref tp, rfl, rfl, e1V, aO (by omega), ?_⟩
   exact hR _ _ ⟨rfl, cM (s0U.trans sT) hh1, by rw [aJ nh1.symm]; exact sT _ _ ehU, by rw [aJ n12.symm]; exact sT _ _ e2U, by rw [aJ xh1]; exact sT _ _ hins, d9 e1V k1h1 (fk1.mono sT), d9 e1V k2h1 (fk2.mono sT)⟩
  rintro σ' HV ⟨rfl, sV, ehV, e2V, insV, fk1V, fk2V⟩
  clear fk1 fk2 hl1 hl2 hins
  refine bN (fun σ' H' => σ' = [some (.ref a), some (.int c), some (.ref l1), some (.ref l2), some (.ref u), some (.ref hd), some (.ref x), none, none] /\ Same H H' /\ H' x = some (.ins CS dx (gH u k1 k2)) /\ IsFrs H' k1 ps /\ IsFrs H' k2 qs) (fun R hR => ?_) ?_
  ·refine ⟨_, rfl, hd, _, 1, _, rfl, rfl, SqL.of ehV, rfl, .inl ⟨rfl, _, SqL.of e2V⟩, (by show 2 <= sizeLine; decide), fun tp htp => ?_⟩
   have sT := ao (o := .tup [.int 0, .int 1]) htp
   generalize upd HV tp (.tup [.int 0, .int 1]) = HW at sT ⊢
   have e2W := sT _ _ e2V
   refine ⟨h2, z2, .ref tp, rfl, rfl, e2W, aO (by omega), ?_⟩
   exact hR _ _ ⟨rfl, cM (sV.trans sT) hh2', by rw [aJ xh2]; exact sT _ _ insV, d9 e2W k1h2 (fk1V.mono sT), d9 e2W k2h2 (fk2V.mono sT)⟩
  rintro σ' HW ⟨rfl, sW, insW, fk1W, fk2W⟩
  clear fk1V fk2V insV
  refine bN (fun σ' H' => σ' = [some (.ref a), some (.int c), some (.ref l1), some (.ref l2), some (.ref u), some (.ref hd), some (.ref x), none, none] /\ H' = HW) (fun R hR => ?_) ?_
  ·refine ⟨_, rfl, x, CS, dx, _, _, rfl, insW, C_Solved.cl, c1, gM u k1 k2, _, rfl, _, _, dX fk1W, dX (f1.mono sW), iG ps, jW ps, _, rfl, ?_⟩
   refine jU (eH _) ?_
   refine ⟨_, rfl, x, CS, dx, _, _, rfl, insW, C_Solved.cl, c2, e_ u k1 k2, _, rfl, _, _, dX fk2W, dX (f2.mono sW), iG qs, jW qs, _, rfl, ?_⟩
   refine jU (eH _) ?_
   refine ⟨_, rfl, x, CS, dx, _, _, rfl, insW, C_Solved.cl, c0, bZ u k1 k2, _, rfl, _, _, bV (sW _ _ hu), bV (sW _ _ hu), rfl, (by show 1 <= 40; decide), _, rfl, ?_⟩
   refine jU (eH _) ?_
   exact hR _ _ ⟨rfl, rfl⟩
  rintro σ' H' ⟨rfl, rfl⟩
  refine bN (fun σ' H' => σ' = [some (.ref a), some (.int c), some (.ref l1), some (.ref l2), some (.ref u), some (.ref hd), some (.ref x), none, none] /\ Same H H') (fun R hR => ?_) ?_
  ·refine ⟨_, rfl, x, dx, _, rfl, insW, Hg _ _ _ (by decide +kernel) (by decide +kernel) (by decide +kernel), _, rfl, x, dx, a, u, k1, k2, U, m, n, v, ps, qs, rfl, insW, sW _ _ hu, pqv, zv1, zv2, hU.mono sW, g, fk1W, gp, fk2W, gq, fun HX sX => ?_⟩
   refine ⟨_, rfl, _, rfl, x, dx, a, u, k1, k2, U, m, n, v, ps, qs, rfl, sX _ _ insW, (sW.trans sX) _ _ hu, pqv, zv1, zv2, hU.mono (sW.trans sX), g, fk1W.mono sX, gp, fk2W.mono sX, gq, fun HY sY => ?_⟩
   refine ⟨_, rfl, _, rfl, ?_⟩
   refine bK ?_
   exact hR _ _ ⟨rfl, (sW.trans sX).trans sY⟩
  rintro σ' HX ⟨rfl, sX⟩
  clear insW fk1W fk2W
  obtain ⟨va, ha, pa⟩ := id (hU.mono sX)
  have al : va.length = m := by rw [pa.length, g.rows]
  refine ⟨_, rfl, _, rfl, a, va, rfl, .inl (SqL.of ha), _, _, rfl, rfl, (by show (0 : Int) < (va.length : Int); omega), ?_⟩
  have r1 := Int.emod_nonneg c (show (va.length : Int) ≠ 0 by omega)
  have r2 := Int.emod_lt_of_pos c (show (0 : Int) < (va.length : Int) by omega)
  obtain ⟨row, hrow⟩ : ∃ row : Nat, c % (va.length : Int) = (row : Int) := ⟨_, (Int.toNat_of_nonneg r1).symm⟩
  have rowm : row < m := by omega
  show fW 7 (V.int (c % (va.length : Int))) _ _ _
  rw [hrow]
  refine oH ?_
  refine bN (fun σ' H' => ∃ (g1 g2 gd : Addr), σ' = [some (.ref a), some (.int c), some (.ref l1), some (.ref l2), some (.ref u), some (.ref gd), some (.ref x), some (.int row), none] /\ Same H H' /\ H g1 = none /\ H g2 = none /\ g1 ≠ g2 /\ g1 ≠ gd /\ g2 ≠ gd /\ H' gd = some (.lst [.ref g1, .ref g2]) /\ H' g1 = some (.lst z1) /\ H' g2 = some (.lst z2)) (fun R hR => ?_) ?_
  ·refine ⟨_, rfl, l1, z1, rfl, .inl (SqL.of (sX _ _ e1)), fun g1 hg1 => ?_⟩
   have tA := ao (o := .lst z1) hg1
   have uA : upd HX g1 (.lst z1) g1 = some (.lst z1) := aq
   generalize upd HX g1 (.lst z1) = JA at tA uA ⊢
   refine ⟨_, rfl, l2, z2, rfl, .inl (SqL.of ((sX.trans tA) _ _ e2)), fun g2 hg2 => ?_⟩
   have m12 : g1 ≠ g2 := fun e => by rw [<- e, uA] at hg2; cases hg2
   have hg2' := (sX.trans tA).free hg2
   have tB := ao (o := .lst z2) hg2
   have uB : upd JA g2 (.lst z2) g2 = some (.lst z2) := aq
   have uA' := tB _ _ uA
   generalize upd JA g2 (.lst z2) = JB at tB uB uA' ⊢
   refine ⟨(by show 2 <= sizeLine; decide), fun gd hgd => ?_⟩
   have tC := ao (o := .lst [.ref g1, .ref g2]) hgd
   exact hR _ _ ⟨g1, g2, gd, rfl, ((sX.trans tA).trans tB).trans tC, sX.free hg1, hg2', m12, (fun e => by rw [<- e, uA'] at hgd; cases hgd), (fun e => by rw [<- e, uB] at hgd; cases hgd), aq, tC _ _ uA', tC _ _ uB⟩
  rintro σ' JC ⟨g1, g2, gd, rfl, sJ, hg1, hg2, m12, ng1, ng2, egd, u1, u2⟩
  obtain ⟨_, y1, p1J⟩ := f1.mono sJ
  rw [sJ _ _ e1] at y1
  cases y1
  obtain ⟨_, y2, p2J⟩ := f2.mono sJ
  rw [sJ _ _ e2] at y2
  cases y2
  refine bN (fun σ' H' => ∃ (xb db xe de k1 k2 ad : Addr), σ' = [some (.ref a), some (.int c), some (.ref l1), some (.ref l2), some (.ref u), some (.ref gd), some (.ref x), some (.int row), some (.ref ad)] /\ Same JC H' /\ ad ≠ g1 /\ ad ≠ g2 /\ k1 ≠ g1 /\ k1 ≠ g2 /\ k2 ≠ g1 /\ k2 ≠ g2 /\ H' ad = some (.lst [.ref xb, .ref xe]) /\ H' xb = some (.ins CB db (iz k1)) /\ H' xe = some (.ins CE de (iz k2)) /\ IsFrs H' k1 ps /\ IsFrs H' k2 qs) (fun R hR => ?_) ?_
  ·refine ⟨_, rfl, gd, _, 0, _, rfl, rfl, SqL.of egd, rfl, ?_⟩
   intro xb db nxb ndb nexb
   have sm1 : Same JC (upd (upd JC db (.own xb)) xb (.ins CB db [])) := fun b o e => by
    rw [aJ (aV e nxb), aJ (aV e ndb)]
    exact e
   refine ⟨xb, db, g1, z1, rfl, aq, sm1 _ _ u1, fun k1 HP nk1 hk1 insb kp => ⟨rfl, ?_⟩⟩
   have sP : Same JC HP := fun b o e => kp b o (sm1 b o e) (aV e nxb)
   refine ⟨_, rfl, gd, _, 1, _, rfl, rfl, SqL.of (sP _ _ egd), rfl, ?_⟩
   intro xe de nxe nde nexe
   have sm2 : Same HP (upd (upd HP de (.own xe)) xe (.ins CE de [])) := fun b o e => by
    rw [aJ (aV e nxe), aJ (aV e nde)]
    exact e
   refine ⟨xe, de, g2, z2, rfl, aq, sm2 _ _ (sP _ _ u2), fun k2 HQ nk2 hk2 inse kq => ⟨rfl, ?_⟩⟩
   have sQ : Same HP HQ := fun b o e => kq b o (sm2 b o e) (aV e nxe)
   refine ⟨(by show 2 <= sizeLine; decide), fun ad had => ?_⟩
   have sD := ao (o := .lst [.ref xb, .ref xe]) had
   have sJQ := sP.trans sQ
   have k1n := sm1.free nk1
   have k2n := (sP.trans sm2).free nk2
   refine hR _ _ ⟨xb, db, xe, de, k1, k2, ad, rfl, sJQ.trans sD, ?_, ?_, ?_, ?_, ?_, ?_, aq, sD _ _ (sQ _ _ insb), sD _ _ inse, ⟨z1, sD _ _ (sQ _ _ hk1), p1J.imp2 fun _ _ z => (z.mono sJQ).mono sD⟩, ⟨z2, sD _ _ hk2, p2J.imp2 fun _ _ z => (z.mono sJQ).mono sD⟩⟩
   ·exact fun e => by rw [e, sJQ _ _ u1] at had; cases had
   ·exact fun e => by rw [e, sJQ _ _ u2] at had; cases had
   ·exact fun e => by rw [e, u1] at k1n; cases k1n
   ·exact fun e => by rw [e, u2] at k1n; cases k1n
   ·exact fun e => by rw [e, u1] at k2n; cases k2n
   ·exact fun e => by rw [e, u2] at k2n; cases k2n
  rintro σ' JD ⟨xb, db, xe, de, k1', k2', ad, rfl, sD, ad1, ad2, q11, q12, q21, q22, ead, insb, inse, fb, fe⟩
  have xb1 : xb ≠ g1 := fB insb (sD _ _ u1) (by intro z; cases z)
  have xb2 : xb ≠ g2 := fB insb (sD _ _ u2) (by intro z; cases z)
  have xe1 : xe ≠ g1 := fB inse (sD _ _ u1) (by intro z; cases z)
  have xe2 : xe ≠ g2 := fB inse (sD _ _ u2) (by intro z; cases z)
  refine bN (fun σ' H' => σ' = [some (.ref a), some (.int c), some (.ref l1), some (.ref l2), some (.ref u), some (.ref gd), some (.ref x), some (.int row), some (.ref ad)] /\ Same H H' /\ H' gd = some (.lst [.ref g1, .ref g2]) /\ H' g2 = some (.lst z2) /\ H' ad = some (.lst [.ref xb, .ref xe]) /\ H' xb = some (.ins CB db (iz k1')) /\ H' xe = some (.ins CE de (iz k2')) /\ IsFrs H' k1' ps /\ IsFrs H' k2' qs) (fun R hR => ?_) ?_
  ·refine ⟨_, rfl, gd, _, 0, _, rfl, rfl, SqL.of (sD _ _ egd), rfl, .inl ⟨rfl, _, SqL.of (sD _ _ u1)⟩, (by show 2 <= sizeLine; decide), fun tp htp => ?_⟩
   have sT := ao (o := .tup [.int 0, .int 1]) htp
   generalize upd JD tp (.tup [.int 0, .int 1]) = JE at sT ⊢
   have sDT := sD.trans sT
   have u1E := sDT _ _ u1
   refine ⟨g1, z1, .ref tp, rfl, rfl, u1E, aO (by omega), ?_⟩
   exact hR _ _ ⟨rfl, cM (sJ.trans sDT) hg1, by rw [aJ ng1.symm]; exact sDT _ _ egd, by rw [aJ m12.symm]; exact sDT _ _ u2, by rw [aJ ad1]; exact sT _ _ ead, by rw [aJ xb1]; exact sT _ _ insb, by rw [aJ xe1]; exact sT _ _ inse, d9 u1E q11 (fb.mono sT), d9 u1E q21 (fe.mono sT)⟩
  rintro σ' JE ⟨rfl, sE, egE, u2E, eadE, insbE, inseE, fbE, feE⟩
  clear insb inse fb fe ead
  refine bN (fun σ' H' => σ' = [some (.ref a), some (.int c), some (.ref l1), some (.ref l2), some (.ref u), some (.ref gd), some (.ref x), some (.int row), some (.ref ad)] /\ Same H H' /\ H' ad = some (.lst [.ref xb, .ref xe]) /\ H' xb = some (.ins CB db (iz k1')) /\ H' xe = some (.ins CE de (iz k2')) /\ IsFrs H' k1' ps /\ IsFrs H' k2' qs) (fun R hR => ?_) ?_
  ·refine ⟨_, rfl, gd, _, 1, _, rfl, rfl, SqL.of egE, rfl, .inl ⟨rfl, _, SqL.of u2E⟩, (by show 2 <= sizeLine; decide), fun tp htp => ?_⟩
   have sT := ao (o := .tup [.int 0, .int 1]) htp
   generalize upd JE tp (.tup [.int 0, .int 1]) = JG at sT ⊢
   have u2G := sT _ _ u2E
   refine ⟨g2, z2, .ref tp, rfl, rfl, u2G, aO (by omega), ?_⟩
   exact hR _ _ ⟨rfl, cM (sE.trans sT) hg2, by rw [aJ ad2]; exact sT _ _ eadE, by rw [aJ xb2]; exact sT _ _ insbE, by rw [aJ xe2]; exact sT _ _ inseE, d9 u2G q12 (fbE.mono sT), d9 u2G q22 (feE.mono sT)⟩
  rintro σ' JG ⟨rfl, sG, eadG, insbG, inseG, fbG, feG⟩
  clear insbE inseE fbE feE eadE
  refine bN (fun σ' H' => σ' = [some (.ref a), some (.int c), some (.ref l1), some (.ref l2), some (.ref u), some (.ref gd), some (.ref x), some (.int row), some (.ref ad)] /\ H' = JG) (fun R hR => ?_) ?_
  ·refine ⟨_, rfl, ad, _, 0, _, rfl, rfl, SqL.of eadG, rfl, xb, CB, db, _, _, rfl, insbG, C_Beaten.cl, cb, gD k1', _, rfl, _, _, dX fbG, dX (f1.mono sG), iG ps, jW ps, _, rfl, ?_⟩
   refine jU (eH _) ?_
   refine ⟨_, rfl, ad, _, 1, _, rfl, rfl, SqL.of eadG, rfl, xe, CE, de, _, _, rfl, inseG, C_Best.cl, ce, gD k2', _, rfl, _, _, dX feG, dX (f2.mono sG), iG qs, jW qs, _, rfl, ?_⟩
   refine jU (eH _) ?_
   exact hR _ _ ⟨rfl, rfl⟩
  rintro σ' H' ⟨rfl, eJ⟩
  obtain rfl := eJ.symm
  refine bN (fun σ' H' => σ' = [some (.ref a), some (.int c), some (.ref l1), some (.ref l2), some (.ref u), some (.ref gd), some (.ref x), some (.int row), some (.ref ad)] /\ Same JG H') (fun R hR => ?_) ?_
  ·refine ⟨_, rfl, ad, _, 0, _, rfl, rfl, SqL.of eadG, rfl, xb, db, _, rfl, insbG, Bm _ (by decide +kernel), _, rfl, _, rfl, xb, db, a, k1', U, m, n, row, ps, rfl, insbG, hU.mono sG, g, rowm, fbG, gp, fun JH sH => ?_⟩
   refine ⟨_, rfl, _, rfl, _, rfl, a, l1, U, m, n, row, ps, rfl, hU.mono (sG.trans sH), g, rowm, f1.mono (sG.trans sH), gp, fun JI sI => ?_⟩
   refine ⟨_, rfl, _, rfl, ?_⟩
   refine bK ?_
   exact hR _ _ ⟨rfl, sH.trans sI⟩
  rintro σ' JI ⟨rfl, sI⟩
  refine ⟨_, rfl, ad, _, 1, _, rfl, rfl, SqL.of (sI _ _ eadG), rfl, xe, de, _, rfl, sI _ _ inseG, Bm _ (by decide +kernel), _, rfl, _, rfl, xe, de, a, k2', U, m, n, row, qs, rfl, sI _ _ inseG, hU.mono (sG.trans sI), g, rowm, feG.mono sI, gq, fun JK sK => ?_⟩
  refine ⟨_, rfl, _, rfl, _, rfl, a, l2, U, m, n, row, qs, rfl, hU.mono ((sG.trans sI).trans sK), g, rowm, f2.mono ((sG.trans sI).trans sK), gq, fun JL sL => ?_⟩
  exact ⟨_, rfl, k JL (((sG.trans sI).trans sK).trans sL)⟩
theorem Aq {U : List (List Int)} {m n : Nat} {R C : List Nat} (g : Gd U m n) (g2 : Gm.Good2 m n R C) (k : Gm.Corner U m n R C) : bT (bW U n R C).1 n = true /\ GQ (bW U n R C).1 := by
 have hS : 0 < Gm.smM U R C := Gm.sgn_pos k.ne
 obtain ⟨a1, a2, a3⟩ := j6 g g2 k.ne k.pos
 exact ⟨Ge hS a3 (mF ..) a1 a2, a3⟩
theorem Ha {x d : Int} (h : Sz 900 x) (d1 : 0 <= d) (d2 : d < 3) : Sz 1000 (x + d - 1) := by
 have h1 : Sz 900 (d - 1) := by
  refine Sz.mono (a := 9) ?_ (by decide)
  unfold Sz
  omega
 have := (h.add h1).mono (show 901 <= 1000 by decide)
 rwa [show x + d - 1 = x + (d - 1) by omega]
theorem G4 {x : Int} (h1 : 0 <= x) (h2 : x < 3) (u v z : V) : (x = 0 /\ atI [u, v, z] x = some u) \/ (x = 1 /\ atI [u, v, z] x = some v) \/ (x = 2 /\ atI [u, v, z] x = some z) := by
 have : x = 0 \/ x = 1 \/ x = 2 := by omega
 rcases this with rfl | rfl | rfl
 ·exact .inl ⟨rfl, rfl⟩
 ·exact .inr (.inl ⟨rfl, rfl⟩)
 ·exact .inr (.inr ⟨rfl, rfl⟩)
abbrev jO : Stmt := top 76
theorem Jd : FnScope ["_law_script", "_law_rows", "_law_columns", "_law_one", "_law_other", "_law_first", "_law_second", "_law_at", "_law_cell", "_law_mine", "_law_theirs", "_law_value", "_law_handed", "_law_answer"] ["_law_script"] (aH jO) := ⟨rfl, rfl, rfl, by decide +kernel, rfl, by decide +kernel, by decide +kernel⟩
theorem Jc {f CS CT : Addr} {fd : FuncData} (F : Fun K "law" "law" jO f fd) (T : Blt mg) (C_Solved : Cl K mg "Solved" ["value", "mine", "theirs"] [] CS) (C_Settled : Cl K mg "Settled" ["mine", "theirs"] [] CT)
  (cW : Def P w K mg base "_law_cell_at" ["_law_script", "_law_k"] 1 (Bl K)) (bG : Def P w K mg base "_law_draw" ["_law_cell", "_law_k", "_law_many"] 1 mJ) (gZ : Def P w K mg base "_law_table" ["_law_cell", "_law_rows", "_law_columns"] 2 vL) (rM : Def P w K mg base "solved" ["table"] 11 (wj CS)) (oN : Def P w K mg base "settled" ["one", "other"] 11 (rT CT))
  (gU : Def P w K mg base "_law_drawn" ["_law_cell", "_law_many"] 3 zz) (jc : Def P w K mg base "_law_bent" ["_law_mixture_here", "_law_cell"] 2 Al) (bO : Def P w K mg base "_law_made" ["_law_a", "_law_b"] 2 iC) (gF : Def P w K mg base "_law_one_right" ["_law_table_here", "_law_cell", "_law_mine", "_law_theirs", "_law_value"] 9 qC)
  (dI : DefC P w K mg base CT "__init__" ["self", "mine", "theirs"] 1 (qM CT)) (h_ : DefC P w K mg base CT "shows" ["self", "one", "other"] 9 (wu CT)) (iD : Def P w K mg base "_law_settled" ["_law_one", "_law_other", "_law_mine", "_law_theirs"] 5 xR) (dB : Def P w K mg base "_law_says" ["_law_told", "_law_due"] 1 vq) : FnOk P w K mg base CX0 13 f fd ["_law_script"] (ur K) := by
 have S := Jd
 refine F.ok S (fun vs H Q E h => ?_) (fun cdv A outer s H vs Q E hr h => ?_)
 ·obtain ⟨a, ns, rfl, _⟩ := h
  rfl
 ·obtain ⟨a, ns, rfl, hS, hlen, k⟩ := h
  have c0 := C_Solved.no "value" (by simp)
  have c1 := C_Solved.no "mine" (by simp)
  have c2 := C_Solved.no "theirs" (by simp)
  have d1 := C_Settled.no "mine" (by simp)
  have d2 := C_Settled.no "theirs" (by simp)
  refine ⟨_, (aB (tQ (i := 1) (j := 2) rfl S.nd rfl rfl (by decide) rfl rfl (aa (aX cU aA (aX eN (aD cW (hr.mono (by decide)) rfl (aa (pv 0) (aa aA ak aG) aj) (he := aj)) aA)) (aa (aX cU aA (aX eN (aX lZ (aD cW (hr.mono (by decide)) rfl (aa (pv 0) (aa aA ak aG) aj) (he := aj)) aA) aA)) ak bz) bz) rfl)
   (aB (aY (i := 3) S.nd rfl (Or.inl rfl) (aD gZ (hr.mono (by decide)) rfl (aa (aD cW (hr.mono (by decide)) rfl (aa (pv 0) (aa aA ak aG) aj) (he := aj)) (aa (pv 1) (aa (pv 2) ak aj) aj) aN) (he := aN)))
   (aB (aY (i := 4) S.nd rfl (Or.inl rfl) (aD gZ (hr.mono (by decide)) rfl (aa (aD cW (hr.mono (by decide)) rfl (aa (pv 0) (aa aA ak aG) aj) (he := aj)) (aa (pv 1) (aa (pv 2) ak aj) aj) aN) (he := aN)))
   (aB (tQ (i := 5) (j := 6) rfl S.nd rfl rfl (by decide) rfl rfl (aa (aD rM (hr.mono (by decide)) rfl (aa (pv 3) ak aj) (he := aj)) (aa (aD oN (hr.mono (by decide)) rfl (aa (pv 3) (aa (pv 4) ak aj) aj) (he := aj)) ak aN) aN) rfl)
   (aB (cJ PassesOwn.never rfl (cO rfl T.range_ (aa aA ak aG)) (aP (i := 7) S.nd rfl (Or.inl rfl))
    (aB (aY (i := 8) S.nd rfl (Or.inl rfl) (aX cU (aD cW (hr.mono (by decide)) rfl (aa (pv 0) (aa (aX cU aA (pv 7)) ak bz) aj) (he := aj)) (aX jg aA (pv 7))))
   (aB (aY (i := 9) S.nd rfl (Or.inl rfl) (aQ (ixL K) (cz (aa (aD gU (hr.mono (by decide)) rfl (aa (pv 8) (aa (pv 1) ak aj) aj) (he := aj)) (aa (bB (pv 5) rfl) (aa (bB (pv 6) rfl) ak aR) aR) aN)) (aX eN (pv 8) aA) (fun _ _ => rfl)))
   (aB (aY (i := 10) S.nd rfl (Or.inl rfl) (aQ (ixL K) (cz (aa (aD gU (hr.mono (by decide)) rfl (aa (aX cU (pv 8) aA) (aa (pv 2) ak aj) bz) (he := bz)) (aa (bB (pv 5) rfl) (aa (bB (pv 6) rfl) ak aR) aR) aN)) (aX eN (aX lZ (pv 8) aA) aA) (fun _ _ => rfl)))
   (aB (tQ (i := 9) (j := 10) rfl S.nd rfl rfl (by decide) rfl rfl (aa (aD jc (hr.mono (by decide)) rfl (aa (pv 9) (aa (pv 8) ak aj) aj) (he := aj)) (aa (aD jc (hr.mono (by decide)) rfl (aa (pv 10) (aa (aX lZ (pv 8) aA) ak bz) aj) (he := aj)) ak aN) aN) rfl)
   (aB (aY (i := 11) S.nd rfl (Or.inl rfl) (aD bO (hr.mono (by decide)) rfl (aa (aX mD (aX cU (aQ (ixT K) (bB (pv 5) rfl) aA (fun _ _ => rfl)) (aD bG (hr.mono (by decide)) rfl (aa (pv 8) (aa aA (aa aA ak aG) aG) aj) (he := aj))) aA) (aa (aQ (ixT K) (bB (pv 5) rfl) aA (fun _ _ => rfl)) ak aF) bz) (he := bz)))
   (aB (bu (bJ (bA (aD gF (hr.mono (by decide)) rfl (aa (pv 3) (aa (pv 8) (aa (pv 9) (aa (pv 10) (aa (pv 11) ak aj) aj) aj) aj) aj) (he := aj))))
    (aC (aM bQ)) aZ)
   (aB (aY (i := 12) S.nd rfl (Or.inl rfl) (cz (aa (cu (dH K) (by rfl) T.list_ cD (aa (pv 9) ak aj) (he := aj)) (aa (cu (dH K) (by rfl) T.list_ cD (aa (pv 10) ak aj) (he := aj)) ak aN) aN)))
   (aB (aY (i := 13) S.nd rfl (Or.inl rfl) (iU dI C_Settled (hr.mono (by decide)) rfl (aa (aQ (ixL K) (pv 12) aA (fun _ _ => rfl)) (aa (aQ (ixL K) (pv 12) aA (fun _ _ => rfl)) ak aF) aF) (he := aF)))
   (aB (cN (ik PySem.F.plainAttrs_list PySem.F.slot_list_append PySem.F.type_list_append dh (aQ (ixL K) (pv 12) aA (fun _ _ => rfl)) (aa (bH (aa aA (aa aA ak aG) aG)) ak cj)))
   (aB (cN (ik PySem.F.plainAttrs_list PySem.F.slot_list_append PySem.F.type_list_append dh (aQ (ixL K) (pv 12) aA (fun _ _ => rfl)) (aa (bH (aa aA (aa aA ak aG) aG)) ak cj)))
   (aB (bu (PW.pt (cR (bh (jM K hr.units) (bB (pv 13) rfl) (pv 9) (a_ _)) (cH (bh (jM K hr.units) (bB (pv 13) rfl) (pv 10) (a_ _)))))
    (aC (aM bQ)) aZ)
   (aC (bu (bJ (bA (aD dB (hr.mono (by decide)) rfl (aa (nR h_ C_Settled (hr.mono (by decide)) (pv 13) (aa (pv 3) (aa (pv 4) ak aj) aj) (hst := aj)) (aa (aD iD (hr.mono (by decide)) rfl (aa (pv 3) (aa (pv 4) (aa (pv 9) (aa (pv 10) ak aj) aj) aj) aj) (he := aj)) ak aN) aN) (he := aN))))
    (aC (aM bQ)) aZ))))))))))))))
   (aC (aM bQ))))))), ?_⟩
  refine bN (fun σ' H' => ∃ m n : Nat, σ' = [some (.ref a), some (.int m), some (.int n), none, none, none, none, none, none, none, none, none, none, none] /\ Same H H' /\ 1 <= m /\ m <= 3 /\ 1 <= n /\ n <= 3) (fun R hR => ?_) ?_
  ·refine ⟨_, rfl, a, ns, 0, rfl, hS, by decide, _, _, rfl, rfl, (by show (0 : Int) < 3; decide), _, _, rfl, rfl, _, rfl, a, ns, 0, rfl, hS, by decide, _, _, rfl, rfl, ⟨by decide, by decide⟩, _, _, rfl, rfl, (by show (0 : Int) < 3; decide), _, _, rfl, rfl, _, _, rfl, ?_⟩
   generalize ns.getD (0 : Int).toNat 0 = c
   have a1 := Int.emod_nonneg c (show (3 : Int) ≠ 0 by decide)
   have a2 := Int.emod_lt_of_pos c (show (0 : Int) < 3 by decide)
   have b1 := Int.emod_nonneg (c / 3) (show (3 : Int) ≠ 0 by decide)
   have b2 := Int.emod_lt_of_pos (c / 3) (show (0 : Int) < 3 by decide)
   obtain ⟨m, hm⟩ : ∃ m : Nat, 1 + c % 3 = (m : Int) := ⟨(1 + c % 3).toNat, by omega⟩
   obtain ⟨n, hn⟩ : ∃ n : Nat, 1 + c / 3 % 3 = (n : Int) := ⟨(1 + c / 3 % 3).toNat, by omega⟩
   refine hR _ _ ⟨m, n, ?_, Same.refl _, by omega, by omega, by omega, by omega⟩
   rw [<- hm, <- hn]
   rfl
  rintro σ' H0 ⟨m, n, rfl, s0, m1, m3, n1, n3⟩
  have hS0 := s0.seq hS
  refine ⟨_, rfl, a, ns, 1, rfl, hS0, by decide, _, rfl, _, rfl, _, m, n, rfl, m1, by omega, n1, by omega, fun t U H1 s1 hU gG => ?_⟩
  refine ⟨_, rfl, a, ns, 2, rfl, s1.seq hS0, by decide, _, rfl, _, rfl, _, m, n, rfl, m1, by omega, n1, by omega, fun t' W H2 s2 hW gW => ?_⟩
  have g := iM gG
  have g' := iM gW
  have hU2 := hU.mono s2
  refine oH ?_
  refine bN (fun σ' H' => ∃ (x dx u l1 l2 x' dx' k1 k2 : Addr) (v0 : Int × Int) (p1 p2 q1 q2 : List (Int × Int)), σ' = [some (.ref a), some (.int m), some (.int n), some (.ref t), some (.ref t'), some (.ref x), some (.ref x'), none, none, none, none, none, none, none] /\ Same H2 H' /\
    H' x = some (.ins CS dx (gH u l1 l2)) /\ H' u = some (.tup [.int v0.1, .int v0.2]) /\ 0 < v0.2 /\ Sz 900 v0.1 /\ Sz 900 v0.2 /\ IsFrs H' l1 p1 /\ IsFrs H' l2 q1 /\ GQ p1 /\ GQ q1 /\ p1.length = m /\ q1.length = n /\
    H' x' = some (.ins CT dx' (iI k1 k2)) /\ IsFrs H' k1 p2 /\ IsFrs H' k2 q2 /\ GQ p2 /\ GQ q2 /\ p2.length = m /\ q2.length = n) (fun R0 hR0 => ?_) ?_
  ·refine ⟨_, rfl, ⟨t, U, m, n, rfl, gG, hU2⟩, t, U, m, n, rfl, hU2, g, fun x dx u l1 l2 H3 N Z ys X xs s3 nx nl1 nl2 n12 hins hu f1 f2 sol => ?_⟩
   refine ⟨_, rfl, _, rfl, t, t', U, W, m, n, rfl, hU2.mono s3, gG, hW.mono s3, gW, fun x' dx' k1 k2 H4 R C R' C' s4 nx' nk1 nk2 n12' hins' fk1 fk2 g2 kc g2' kc' hok => ?_⟩
   obtain ⟨mx1, gq1⟩ := Aq (dZ g') g2' kc'
   obtain ⟨mx2, gq2⟩ := Aq g g2 kc
   refine ⟨_, _, rfl, ?_⟩
   exact hR0 _ _ ⟨x, dx, u, l1, l2, x', dx', k1, k2, Fr.mk N Z, _, _, _, _, rfl, s3.trans s4, s4 _ _ hins, s4 _ _ hu, Fr.mk_pos sol.pos, sol.w1, sol.w2, f1.mono s4, f2.mono s4, sol.gx, sol.gy, by rw [fj]; exact sol.lx, by rw [fj]; exact sol.ly, hins', fk1, fk2, gq1, gq2, fJ mx1, fJ mx2⟩
  rintro σ' H4 ⟨x, dx, u, l1, l2, x', dx', k1, k2, v0, p1, p2, q1, q2, rfl, s4, ins, hu, v0p, w1, w2, f1, f2, gp1, gq1, lp1, lq1, ins', fk1, fk2, gp2, gq2, lp2, lq2⟩
  have hU4 := hU2.mono s4
  have hW4 := hW.mono s4
  have hS4 := ((s0.trans s1).trans (s2.trans s4)).seq hS
  clear hU hW hU2
  refine ⟨_, rfl, by decide, by decide, jq (n := 4) (fun i σ H' => ∃ (o7 o8 o9 o10 o11 o12 o13 : Option V), σ = [some (.ref a), some (.int m), some (.int n), some (.ref t), some (.ref t'), some (.ref x), some (.ref x'), o7, o8, o9, o10, o11, o12, o13] /\ Same H4 H')
   ⟨_, _, _, _, _, _, _, rfl, Same.refl _⟩ ?_ ?_⟩
  ·rintro i σ H5 hi ⟨o7, o8, o9, o10, o11, o12, o13, rfl, s5⟩
   refine bN (fun σ' H' => ∃ c : Int, σ' = [some (.ref a), some (.int m), some (.int n), some (.ref t), some (.ref t'), some (.ref x), some (.ref x'), some (.int (0 + (i : Int))), some (.int c), o9, o10, o11, o12, o13] /\ Same H4 H') (fun R hR => ?_) ?_
   ·exact ⟨_, rfl, _, rfl, _, _, rfl, rfl, a, ns, 3 + (0 + (i : Int)), rfl, s5.seq hS4, by omega, _, rfl, _, _, rfl, rfl, .inl ⟨by decide, by decide⟩, _, _, rfl, rfl, hR _ _ ⟨_, rfl, s5⟩⟩
   rintro σ' H6 ⟨c, rfl, s6⟩
   have a1 := Int.emod_nonneg c (show (3 : Int) ≠ 0 by decide)
   have a2 := Int.emod_lt_of_pos c (show (0 : Int) < 3 by decide)
   have b1 := Int.emod_nonneg (c / 3) (show (3 : Int) ≠ 0 by decide)
   have b2 := Int.emod_lt_of_pos (c / 3) (show (0 : Int) < 3 by decide)
   refine bN (fun σ' H' => ∃ (p : Addr) (ps : List (Int × Int)), σ' = [some (.ref a), some (.int m), some (.int n), some (.ref t), some (.ref t'), some (.ref x), some (.ref x'), some (.int (0 + (i : Int))), some (.int c), some (.ref p), o10, o11, o12, o13] /\ Same H4 H' /\ IsFrs H' p ps /\ GQ ps /\ ps.length = m) (fun R hR => ?_) ?_
   ·refine ⟨_, rfl, _, rfl, c, m, rfl, m1, by omega, fun z qz H7 s7 nz fz gz lz => ?_⟩
    have s47 := s6.trans s7
    refine ⟨_, rfl, x, CS, dx, _, _, rfl, s47 _ _ ins, C_Solved.cl, c1, gM u l1 l2, _, rfl, x', CT, dx', _, _, rfl, s47 _ _ ins', C_Settled.cl, d1, jk k1 k2, (by show 3 <= sizeLine; decide), fun q hq => ?_⟩
    have sq := ao (o := .lst [.ref z, .ref l1, .ref k1]) hq
    have eq : upd H7 q (.lst [.ref z, .ref l1, .ref k1]) q = some (.lst [.ref z, .ref l1, .ref k1]) := aq
    generalize upd H7 q (.lst [.ref z, .ref l1, .ref k1]) = H8 at sq eq ⊢
    have s48 := s47.trans sq
    rcases G4 a1 a2 (.ref z) (.ref l1) (.ref k1) with ⟨_, hv⟩ | ⟨_, hv⟩ | ⟨_, hv⟩
    ·exact ⟨_, rfl, _, _, rfl, rfl, (by show (0 : Int) < 3; decide), q, _, _, _, rfl, rfl, SqL.of eq, hv, hR _ _ ⟨z, qz, rfl, s48, fz.mono sq, gz, lz⟩⟩
    ·exact ⟨_, rfl, _, _, rfl, rfl, (by show (0 : Int) < 3; decide), q, _, _, _, rfl, rfl, SqL.of eq, hv, hR _ _ ⟨l1, p1, rfl, s48, f1.mono s48, gp1, lp1⟩⟩
    ·exact ⟨_, rfl, _, _, rfl, rfl, (by show (0 : Int) < 3; decide), q, _, _, _, rfl, rfl, SqL.of eq, hv, hR _ _ ⟨k1, p2, rfl, s48, fk1.mono s48, gp2, lp2⟩⟩
   rintro σ' H7 ⟨p, ps, rfl, s7, fp, gp, lp⟩
   refine bN (fun σ' H' => ∃ (p' : Addr) (qs : List (Int × Int)), σ' = [some (.ref a), some (.int m), some (.int n), some (.ref t), some (.ref t'), some (.ref x), some (.ref x'), some (.int (0 + (i : Int))), some (.int c), some (.ref p), some (.ref p'), o11, o12, o13] /\ Same H7 H' /\ IsFrs H' p' qs /\ GQ qs /\ qs.length = n) (fun R hR => ?_) ?_
   ·refine ⟨_, rfl, _, _, rfl, rfl, _, rfl, c + 5, n, rfl, n1, by omega, fun z qz H8 s8 nz fz gz lz => ?_⟩
    have s48 := s7.trans s8
    refine ⟨_, rfl, x, CS, dx, _, _, rfl, s48 _ _ ins, C_Solved.cl, c2, e_ u l1 l2, _, rfl, x', CT, dx', _, _, rfl, s48 _ _ ins', C_Settled.cl, d2, gr k1 k2, (by show 3 <= sizeLine; decide), fun q hq => ?_⟩
    have sq := ao (o := .lst [.ref z, .ref l2, .ref k2]) hq
    have eq : upd H8 q (.lst [.ref z, .ref l2, .ref k2]) q = some (.lst [.ref z, .ref l2, .ref k2]) := aq
    generalize upd H8 q (.lst [.ref z, .ref l2, .ref k2]) = H9 at sq eq ⊢
    have s79 := s8.trans sq
    have s49 := s48.trans sq
    rcases G4 b1 b2 (.ref z) (.ref l2) (.ref k2) with ⟨_, hv⟩ | ⟨_, hv⟩ | ⟨_, hv⟩
    ·exact ⟨_, rfl, _, _, rfl, rfl, ⟨by decide, by decide⟩, _, _, rfl, rfl, (by show (0 : Int) < 3; decide), q, _, _, _, rfl, rfl, SqL.of eq, hv, hR _ _ ⟨z, qz, rfl, s79, fz.mono sq, gz, lz⟩⟩
    ·exact ⟨_, rfl, _, _, rfl, rfl, ⟨by decide, by decide⟩, _, _, rfl, rfl, (by show (0 : Int) < 3; decide), q, _, _, _, rfl, rfl, SqL.of eq, hv, hR _ _ ⟨l2, q1, rfl, s79, f2.mono s49, gq1, lq1⟩⟩
    ·exact ⟨_, rfl, _, _, rfl, rfl, ⟨by decide, by decide⟩, _, _, rfl, rfl, (by show (0 : Int) < 3; decide), q, _, _, _, rfl, rfl, SqL.of eq, hv, hR _ _ ⟨k2, q2, rfl, s79, fk2.mono s49, gq2, lq2⟩⟩
   rintro σ' H8 ⟨p', qs, rfl, s8, fq, gq, lq⟩
   refine bN (fun σ' H' => ∃ (b1 b2 : Addr) (es fs : List (Int × Int)), σ' = [some (.ref a), some (.int m), some (.int n), some (.ref t), some (.ref t'), some (.ref x), some (.ref x'), some (.int (0 + (i : Int))), some (.int c), some (.ref b1), some (.ref b2), o11, o12, o13] /\ Same H4 H' /\ IsFrs H' b1 es /\ GQ es /\ IsFrs H' b2 fs /\ GQ fs) (fun R hR => ?_) ?_
   ·refine ⟨_, rfl, _, rfl, p, c, ps, rfl, fp.mono s8, gp, by omega, by omega, fun z1 e1 H9 s9 _ fe ge _ => ?_⟩
    refine ⟨_, rfl, _, rfl, _, _, rfl, rfl, ⟨by decide, by decide⟩, p', _, qs, rfl, fq.mono s9, gq, by omega, by omega, fun z2 e2 H10 s10 _ fe2 ge2 _ => ?_⟩
    exact ⟨_, _, rfl, hR _ _ ⟨z1, z2, e1, e2, rfl, ((s7.trans s8).trans s9).trans s10, fe.mono s10, ge, fe2, ge2⟩⟩
   rintro σ' H9 ⟨y1, y2, es, fs, rfl, s9, fe, ge, ff, gf⟩
   clear fp gp lp fq gq lq s7 s8
   have r1 := Fr.draw_nn c 1 (show (0 : Int) < 3 by decide)
   have r2 := Fr.draw_lt c 1 (show (0 : Int) < 3 by decide)
   have ins9 := s9 _ _ ins
   have hu9 := s9 _ _ hu
   refine bN (fun σ' H' => ∃ (y : Addr) (v : Int × Int), σ' = [some (.ref a), some (.int m), some (.int n), some (.ref t), some (.ref t'), some (.ref x), some (.ref x'), some (.int (0 + (i : Int))), some (.int c), some (.ref y1), some (.ref y2), some (.ref y), o12, o13] /\ Same H9 H' /\ H' y = some (.tup [.int v.1, .int v.2]) /\ Pq v /\ Sz 1000 v.1 /\ Sz 1000 v.2) (fun R hR => ?_) ?_
   ·refine ⟨_, rfl, x, CS, dx, _, _, rfl, ins9, C_Solved.cl, c0, bZ u l1 l2, u, _, 0, _, rfl, rfl, SqT.of hu9, rfl, _, rfl, c, 1, 3, rfl, by decide, _, _, rfl, rfl, _, _, rfl, rfl, _, rfl, x, CS, dx, _, _, rfl, ins9, C_Solved.cl, c0, bZ u l1 l2, u, _, 1, _, rfl, rfl, SqT.of hu9, rfl, ?_⟩
    refine ⟨_, _, rfl, v0p, w2.mono (by decide), fun y hy => ?_⟩
    exact hR _ _ ⟨y, _, rfl, ao hy, aq, Pq.of v0p, (Ha w1 r1 r2).fst v0p, (w2.mono (by decide)).snd v0p⟩
   rintro σ' HA ⟨y, v, rfl, sA, hy, pqv, zv1, zv2⟩
   have s4A := s9.trans sA
   refine bN (fun σ' H' => σ' = [some (.ref a), some (.int m), some (.int n), some (.ref t), some (.ref t'), some (.ref x), some (.ref x'), some (.int (0 + (i : Int))), some (.int c), some (.ref y1), some (.ref y2), some (.ref y), o12, o13] /\ Same H9 H') (fun R hR => ?_) ?_
   ·refine ⟨_, rfl, _, rfl, _, rfl, _, rfl, _, rfl, t, y1, y2, y, c, U, m, n, es, fs, v, rfl, hU4.mono s4A, g, fe.mono sA, ge, ff.mono sA, gf, hy, pqv, zv1, zv2, fun HB sB => ⟨_, rfl, ?_⟩⟩
    refine bK ?_
    exact hR _ _ ⟨rfl, sA.trans sB⟩
   rintro σ' HB ⟨rfl, sB⟩
   clear sA s4A hy
   have s4B := s9.trans sB
   have feB := fe.mono sB
   have ffB := ff.mono sB
   obtain ⟨z1, e1, pz1⟩ := id feB
   obtain ⟨z2, e2, pz2⟩ := id ffB
   have z1l : z1.length <= 8 := by rw [pz1.length]; exact ge.len
   have z2l : z2.length <= 8 := by rw [pz2.length]; exact gf.len
   refine bN (fun σ' H' => ∃ (g1 g2 gd : Addr), σ' = [some (.ref a), some (.int m), some (.int n), some (.ref t), some (.ref t'), some (.ref x), some (.ref x'), some (.int (0 + (i : Int))), some (.int c), some (.ref y1), some (.ref y2), some (.ref y), some (.ref gd), o13] /\ Same HB H' /\ HB g1 = none /\ HB g2 = none /\ g1 ≠ g2 /\ g1 ≠ gd /\ g2 ≠ gd /\ H' gd = some (.lst [.ref g1, .ref g2]) /\ H' g1 = some (.lst z1) /\ H' g2 = some (.lst z2)) (fun R hR => ?_) ?_
   ·refine ⟨_, rfl, y1, z1, rfl, .inl (SqL.of e1), fun g1 hg1 => ?_⟩
    have tA := ao (o := .lst z1) hg1
    have uA : upd HB g1 (.lst z1) g1 = some (.lst z1) := aq
    generalize upd HB g1 (.lst z1) = JA at tA uA ⊢
    refine ⟨_, rfl, y2, z2, rfl, .inl (SqL.of (tA _ _ e2)), fun g2 hg2 => ?_⟩
    have m12 : g1 ≠ g2 := fun e => by rw [<- e, uA] at hg2; cases hg2
    have hg2' := tA.free hg2
    have tB := ao (o := .lst z2) hg2
    have uB : upd JA g2 (.lst z2) g2 = some (.lst z2) := aq
    have uA' := tB _ _ uA
    generalize upd JA g2 (.lst z2) = JB at tB uB uA' ⊢
    refine ⟨(by show 2 <= sizeLine; decide), fun gd hgd => ?_⟩
    have tC := ao (o := .lst [.ref g1, .ref g2]) hgd
    exact hR _ _ ⟨g1, g2, gd, rfl, (tA.trans tB).trans tC, hg1, hg2', m12, (fun e => by rw [<- e, uA'] at hgd; cases hgd), (fun e => by rw [<- e, uB] at hgd; cases hgd), aq, tC _ _ uA', tC _ _ uB⟩
   rintro σ' JC ⟨g1, g2, gd, rfl, sJ, hg1, hg2, m12, ng1, ng2, egd, u1, u2⟩
   obtain ⟨_, y1', p1J⟩ := feB.mono sJ
   rw [sJ _ _ e1] at y1'
   cases y1'
   obtain ⟨_, y2', p2J⟩ := ffB.mono sJ
   rw [sJ _ _ e2] at y2'
   cases y2'
   refine bN (fun σ' H' => ∃ (xb db h1 h2 : Addr), σ' = [some (.ref a), some (.int m), some (.int n), some (.ref t), some (.ref t'), some (.ref x), some (.ref x'), some (.int (0 + (i : Int))), some (.int c), some (.ref y1), some (.ref y2), some (.ref y), some (.ref gd), some (.ref xb)] /\ Same JC H' /\ h1 ≠ g1 /\ h1 ≠ g2 /\ h2 ≠ g1 /\ h2 ≠ g2 /\ H' xb = some (.ins CT db (iI h1 h2)) /\ IsFrs H' h1 es /\ IsFrs H' h2 fs) (fun R hR => ?_) ?_
   ·refine ⟨_, rfl, gd, _, 0, _, rfl, rfl, SqL.of egd, rfl, _, rfl, gd, _, 1, _, rfl, rfl, SqL.of egd, rfl, ?_⟩
    intro xb db nxb ndb nexb
    have sm1 : Same JC (upd (upd JC db (.own xb)) xb (.ins CT db [])) := fun b o e => by
     rw [aJ (aV e nxb), aJ (aV e ndb)]
     exact e
    refine ⟨xb, db, g1, g2, z1, z2, rfl, aq, sm1 _ _ u1, sm1 _ _ u2, fun h1 h2 HP nh1 nh2 h12 hh1 hh2 insb kp => ⟨rfl, ?_⟩⟩
    have sP : Same JC HP := fun b o e => kp b o (sm1 b o e) (aV e nxb)
    have k1n := sm1.free nh1
    have k2n := sm1.free nh2
    refine hR _ _ ⟨xb, db, h1, h2, rfl, sP, ?_, ?_, ?_, ?_, insb, ⟨z1, hh1, p1J.imp2 fun _ _ z => z.mono sP⟩, ⟨z2, hh2, p2J.imp2 fun _ _ z => z.mono sP⟩⟩
    ·exact fun e => by rw [e, u1] at k1n; cases k1n
    ·exact fun e => by rw [e, u2] at k1n; cases k1n
    ·exact fun e => by rw [e, u1] at k2n; cases k2n
    ·exact fun e => by rw [e, u2] at k2n; cases k2n
   rintro σ' JD ⟨xb, db, h1, h2, rfl, sD, q11, q12, q21, q22, insb, fb, fc⟩
   have xb1 : xb ≠ g1 := fB insb (sD _ _ u1) (by intro z; cases z)
   have xb2 : xb ≠ g2 := fB insb (sD _ _ u2) (by intro z; cases z)
   have sBD := sJ.trans sD
   refine bN (fun σ' H' => σ' = [some (.ref a), some (.int m), some (.int n), some (.ref t), some (.ref t'), some (.ref x), some (.ref x'), some (.int (0 + (i : Int))), some (.int c), some (.ref y1), some (.ref y2), some (.ref y), some (.ref gd), some (.ref xb)] /\ Same HB H' /\ H' gd = some (.lst [.ref g1, .ref g2]) /\ H' g2 = some (.lst z2) /\ H' xb = some (.ins CT db (iI h1 h2)) /\ IsFrs H' h1 es /\ IsFrs H' h2 fs) (fun R hR => ?_) ?_
   ·refine ⟨_, rfl, gd, _, 0, _, rfl, rfl, SqL.of (sD _ _ egd), rfl, .inl ⟨rfl, _, SqL.of (sD _ _ u1)⟩, (by show 2 <= sizeLine; decide), fun tp htp => ?_⟩
    have sT := ao (o := .tup [.int 0, .int 1]) htp
    generalize upd JD tp (.tup [.int 0, .int 1]) = JE at sT ⊢
    have sDT := sD.trans sT
    have u1E := sDT _ _ u1
    refine ⟨g1, z1, .ref tp, rfl, rfl, u1E, aO (by omega), ?_⟩
    exact hR _ _ ⟨rfl, cM (sJ.trans sDT) hg1, by rw [aJ ng1.symm]; exact sDT _ _ egd, by rw [aJ m12.symm]; exact sDT _ _ u2, by rw [aJ xb1]; exact sT _ _ insb, d9 u1E q11 (fb.mono sT), d9 u1E q21 (fc.mono sT)⟩
   rintro σ' JE ⟨rfl, sE, egE, u2E, insbE, fbE, fcE⟩
   clear insb fb fc
   refine bN (fun σ' H' => σ' = [some (.ref a), some (.int m), some (.int n), some (.ref t), some (.ref t'), some (.ref x), some (.ref x'), some (.int (0 + (i : Int))), some (.int c), some (.ref y1), some (.ref y2), some (.ref y), some (.ref gd), some (.ref xb)] /\ Same HB H' /\ H' xb = some (.ins CT db (iI h1 h2)) /\ IsFrs H' h1 es /\ IsFrs H' h2 fs) (fun R hR => ?_) ?_
   ·refine ⟨_, rfl, gd, _, 1, _, rfl, rfl, SqL.of egE, rfl, .inl ⟨rfl, _, SqL.of u2E⟩, (by show 2 <= sizeLine; decide), fun tp htp => ?_⟩
    have sT := ao (o := .tup [.int 0, .int 1]) htp
    generalize upd JE tp (.tup [.int 0, .int 1]) = JG at sT ⊢
    have u2G := sT _ _ u2E
    refine ⟨g2, z2, .ref tp, rfl, rfl, u2G, aO (by omega), ?_⟩
    exact hR _ _ ⟨rfl, cM (sE.trans sT) hg2, by rw [aJ xb2]; exact sT _ _ insbE, d9 u2G q12 (fbE.mono sT), d9 u2G q22 (fcE.mono sT)⟩
   rintro σ' JG ⟨rfl, sG, insG, fbG, fcG⟩
   clear insbE fbE fcE
   refine bN (fun σ' H' => σ' = [some (.ref a), some (.int m), some (.int n), some (.ref t), some (.ref t'), some (.ref x), some (.ref x'), some (.int (0 + (i : Int))), some (.int c), some (.ref y1), some (.ref y2), some (.ref y), some (.ref gd), some (.ref xb)] /\ H' = JG) (fun R hR => ?_) ?_
   ·refine ⟨_, rfl, xb, CT, db, _, _, rfl, insG, C_Settled.cl, d1, jk h1 h2, _, rfl, _, _, dX fbG, dX (feB.mono sG), iG es, jW es, _, rfl, ?_⟩
    refine jU (eH _) ?_
    refine ⟨_, rfl, xb, CT, db, _, _, rfl, insG, C_Settled.cl, d2, gr h1 h2, _, rfl, _, _, dX fcG, dX (ffB.mono sG), iG fs, jW fs, _, rfl, ?_⟩
    refine jU (eH _) ?_
    exact hR _ _ ⟨rfl, rfl⟩
   rintro σ' H' ⟨rfl, rfl⟩
   have s4G := s4B.trans sG
   refine ⟨_, rfl, xb, db, _, rfl, insG, Hn _ _ (by decide +kernel) (by decide +kernel), _, rfl, _, rfl, xb, db, t, t', h1, h2, U, W, m, n, es, fs, rfl, insG, hU4.mono s4G, gG, hW4.mono s4G, gW, fbG, ge, fcG, gf, fun HX sX => ?_⟩
   have s4X := s4G.trans sX
   refine ⟨_, rfl, _, rfl, _, rfl, _, rfl, t, t', y1, y2, U, W, m, n, es, fs, rfl, hU4.mono s4X, g, hW4.mono s4X, g', feB.mono (sG.trans sX), ge, ffB.mono (sG.trans sX), gf, fun HY sY => ?_⟩
   refine ⟨_, rfl, _, rfl, ?_⟩
   refine bK ?_
   exact ⟨_, _, _, _, _, _, _, rfl, s4X.trans sY⟩
  ·rintro σ H5 ⟨o7, o8, o9, o10, o11, o12, o13, rfl, s5⟩
   exact k _
end
theorem all_mk {l : PySem.W.OpenLaw} {w : World} {K : PySem.W.Frag} {h : Heap} {mg : Str -> Option Value} {fa fL A_Solved A_Beaten A_Best A_Settled : Addr} (X : K.In h) (G : h.Ns mainGlobals mg) (hfa : mg "law" = some (.ref fa))
  {od an : Option Addr} {sl : Array (Option Value)} {oc kV dc pm cd ct : Value}
  (F0 : FunM K mg "is_whole" nQ ["thing"])
  (F1 : FunM K mg "is_within" lA ["number"])
  (F2 : FunM K mg "is_row" rG ["thing"])
  (F3 : FunM K mg "is_table" nM ["thing"])
  (F4 : FunM K mg "check_table" jw ["thing"])
  (F5 : FunM K mg "_law_cell_at" iR ["_law_script", "_law_k"])
  (F6 : FunM K mg "_law_draw" lu ["_law_cell", "_law_k", "_law_many"])
  (F7 : FunM K mg "_law_table" j4 ["_law_cell", "_law_rows", "_law_columns"])
  (F8 : FunM K mg "greatest_divisor" fP ["a", "b"])
  (F9 : FunM K mg "made" zN ["a", "b"])
  (F10 : FunM K mg "plus" xV ["one", "other"])
  (F11 : FunM K mg "times" vy ["one", "other"])
  (F12 : FunM K mg "below" uD ["one", "other"])
  (F13 : FunM K mg "is_fraction" ju ["thing"])
  (F14 : FunM K mg "is_share" m5 ["thing"])
  (F15 : FunM K mg "is_mixture" kI ["thing", "count"])
  (F16 : FunM K mg "_law_common" jN ["_law_one", "_law_other"])
  (F17 : FunM K mg "weighed" pF ["values", "mixture"])
  (F18 : FunM K mg "row_gets" m7 ["row", "mixture"])
  (F19 : FunM K mg "all_get" pC ["rows", "mixture"])
  (F20 : FunM K mg "column_of" lK ["table", "column"])
  (F21 : FunM K mg "columns_of" j9 ["table"])
  (F22 : FunM K mg "from_other_side" gj ["table"])
  (F23 : FunM K mg "determinant" gA ["square"])
  (F24 : FunM K mg "with_column" jA ["square", "column", "numbers"])
  (F25 : FunM K mg "solution" nY ["square", "numbers"])
  (F26 : FunM K mg "choices" oJ ["count"])
  (F27 : FunM K mg "spread" rz ["shares", "places", "count"])
  (F28 : FunM K mg "level" u_ ["table", "rows", "columns"])
  (F29 : FunM K mg "corner" qL ["table", "rows", "columns"])
  (F30 : FunM K mg "corners_of" j_ ["table"])
  (F31 : FunM K mg "lowest" qR ["corners"])
  (F32 : FunC K A_Solved "__init__" "Solved.__init__" jJ ["self", "value", "mine", "theirs"])
  (F33 : FunM K mg "evened" qK ["table"])
  (F34 : FunM K mg "solved" qG ["table"])
  (F35 : FunM K mg "_law_made" lB ["_law_a", "_law_b"])
  (F36 : FunM K mg "_law_less" lH ["_law_one", "_law_other"])
  (F37 : FunM K mg "_law_sum" nO ["_law_worths", "_law_shares"])
  (F38 : FunM K mg "_law_across" jE ["_law_table_here"])
  (F39 : FunM K mg "_law_mixture" iJ ["_law_mixture_here", "_law_many"])
  (F40 : FunM K mg "are_mixtures" iu ["table", "mine", "theirs"])
  (F41 : FunC K A_Solved "shows" "Solved.shows" iT ["self", "table"])
  (F42 : FunM K mg "_law_solved" jD ["_law_table_here", "_law_found"])
  (F43 : FunM K mg "greatest" mY ["values"])
  (F44 : FunM K mg "best_rows" lw ["table", "theirs"])
  (F45 : FunC K A_Beaten "__init__" "Beaten.__init__" jK ["self", "mixture"])
  (F46 : FunC K A_Best "__init__" "Best.__init__" lO ["self", "mixture"])
  (F47 : FunC K A_Best "shows" "Best.shows" kW ["self", "table", "row"])
  (F48 : FunC K A_Beaten "shows" "Beaten.shows" iZ ["self", "table", "row"])
  (F49 : FunM K mg "_law_beats" jZ ["_law_table_here", "_law_row", "_law_mixture_here"])
  (F50 : FunM K mg "_law_answers" i_ ["_law_table_here", "_law_row", "_law_mixture_here"])
  (F51 : FunM K mg "shared" qO ["mixture"])
  (F52 : FunM K mg "all_among" lM ["cards", "others"])
  (F53 : FunC K A_Settled "__init__" "Settled.__init__" iB ["self", "mine", "theirs"])
  (F54 : FunM K mg "of_same_counts" gB ["one", "other"])
  (F55 : FunM K mg "check_alike" jy ["one", "other"])
  (F56 : FunM K mg "all_best" nA ["table", "mine", "theirs"])
  (F57 : FunC K A_Settled "shows" "Settled.shows" g_ ["self", "one", "other"])
  (F58 : FunM K mg "answered_corners" fK ["table"])
  (F59 : FunM K mg "settled" pL ["one", "other"])
  (F60 : FunM K mg "_law_settled" iH ["_law_one", "_law_other", "_law_mine", "_law_theirs"])
  (F61 : FunM K mg "_law_drawn" kj ["_law_cell", "_law_many"])
  (F62 : FunM K mg "_law_bent" lC ["_law_mixture_here", "_law_cell"])
  (F63 : FunM K mg "_law_says" lN ["_law_told", "_law_due"])
  (F64 : FunM K mg "_law_one_right" gK ["_law_table_here", "_law_cell", "_law_mine", "_law_theirs", "_law_value"])
  (aL : PySem.W.nsIn K mainGlobals "law" = some (some (.ref fL))) (lL : K.lookup fL = some ⟨oc, od, .func (PySem.W.fnOf "law" "law" (fu jO) (dC jO) (aH jO) .none kV dc pm an cd ct), sl⟩) (cL : PySem.W.codeIn K cd "law" = true) (kL : PySem.W.keepIn K (.ref fL) = true)
  (aC_Solved : PySem.W.nsIn K mainGlobals "Solved" = some (some (.ref A_Solved))) (pg_Solved : PySem.W.plainGet K A_Solved Str.empty = true) (hd_Solved : PySem.W.hasDictIn K A_Solved = true) (po_Solved : PySem.W.plainOver K A_Solved = true) (sa_Solved : PySem.W.findIn K (.ref A_Solved) "__setattr__" = some (some (.builtin "object.__setattr__"))) (mk_Solved : PySem.W.makesIn K A_Solved = true) (kc_Solved : PySem.W.keepIn K (.ref A_Solved) = true)
  (no_Solved_value : PySem.W.findIn K (.ref A_Solved) "value" = some none)
  (no_Solved_mine : PySem.W.findIn K (.ref A_Solved) "mine" = some none)
  (no_Solved_theirs : PySem.W.findIn K (.ref A_Solved) "theirs" = some none)
  (aC_Beaten : PySem.W.nsIn K mainGlobals "Beaten" = some (some (.ref A_Beaten))) (pg_Beaten : PySem.W.plainGet K A_Beaten Str.empty = true) (hd_Beaten : PySem.W.hasDictIn K A_Beaten = true) (po_Beaten : PySem.W.plainOver K A_Beaten = true) (sa_Beaten : PySem.W.findIn K (.ref A_Beaten) "__setattr__" = some (some (.builtin "object.__setattr__"))) (mk_Beaten : PySem.W.makesIn K A_Beaten = true) (kc_Beaten : PySem.W.keepIn K (.ref A_Beaten) = true)
  (no_Beaten_mixture : PySem.W.findIn K (.ref A_Beaten) "mixture" = some none)
  (aC_Best : PySem.W.nsIn K mainGlobals "Best" = some (some (.ref A_Best))) (pg_Best : PySem.W.plainGet K A_Best Str.empty = true) (hd_Best : PySem.W.hasDictIn K A_Best = true) (po_Best : PySem.W.plainOver K A_Best = true) (sa_Best : PySem.W.findIn K (.ref A_Best) "__setattr__" = some (some (.builtin "object.__setattr__"))) (mk_Best : PySem.W.makesIn K A_Best = true) (kc_Best : PySem.W.keepIn K (.ref A_Best) = true)
  (no_Best_mixture : PySem.W.findIn K (.ref A_Best) "mixture" = some none)
  (aC_Settled : PySem.W.nsIn K mainGlobals "Settled" = some (some (.ref A_Settled))) (pg_Settled : PySem.W.plainGet K A_Settled Str.empty = true) (hd_Settled : PySem.W.hasDictIn K A_Settled = true) (po_Settled : PySem.W.plainOver K A_Settled = true) (sa_Settled : PySem.W.findIn K (.ref A_Settled) "__setattr__" = some (some (.builtin "object.__setattr__"))) (mk_Settled : PySem.W.makesIn K A_Settled = true) (kc_Settled : PySem.W.keepIn K (.ref A_Settled) = true)
  (no_Settled_mine : PySem.W.findIn K (.ref A_Settled) "mine" = some none)
  (no_Settled_theirs : PySem.W.findIn K (.ref A_Settled) "theirs" = some none)
  (z0 : PySem.W.nsIn K mainGlobals "abs" = some none)
  (z1 : PySem.W.nsIn K mainGlobals "all" = some none)
  (z2 : PySem.W.nsIn K mainGlobals "any" = some none)
  (z3 : PySem.W.nsIn K mainGlobals "bool" = some none)
  (z4 : PySem.W.nsIn K mainGlobals "enumerate" = some none)
  (z5 : PySem.W.nsIn K mainGlobals "int" = some none)
  (z6 : PySem.W.nsIn K mainGlobals "isinstance" = some none)
  (z7 : PySem.W.nsIn K mainGlobals "len" = some none)
  (z8 : PySem.W.nsIn K mainGlobals "list" = some none)
  (z9 : PySem.W.nsIn K mainGlobals "range" = some none)
  (z10 : PySem.W.nsIn K mainGlobals "sum" = some none)
  (z11 : PySem.W.nsIn K mainGlobals "tuple" = some none)
  (z12 : PySem.W.nsIn K mainGlobals "zip" = some none)
  {ti0 : Tok} (y0 : PySem.W.nsIn K mainGlobals "LEAST_NUMBER" = some (some (.int (-100) ti0)))
  {ti1 : Tok} (y1 : PySem.W.nsIn K mainGlobals "MOST_CARDS" = some (some (.int (4) ti1)))
  {ti2 : Tok} (y2 : PySem.W.nsIn K mainGlobals "MOST_NUMBER" = some (some (.int (100) ti2)))
  : ∃ fd : FuncData, (∀ (s : Shared) (v : Value), BindsTo s fd ⟨[v], []⟩ [("_law_script", v)]) /\ ∀ base : Heap, K.In base -> base.Ns mainGlobals mg -> FnOk l.prog w K mg base CX0 13 fa fd ["_law_script"] (ur K) := by
 have e := hfa.symm.trans (PySem.W.mg_of X G aL)
 cases e
 have T : Blt mg := { abs_ := PySem.W.mg_none_of X G z0, all_ := PySem.W.mg_none_of X G z1, any_ := PySem.W.mg_none_of X G z2, bool_ := PySem.W.mg_none_of X G z3, enumerate_ := PySem.W.mg_none_of X G z4, int_ := PySem.W.mg_none_of X G z5, isinstance_ := PySem.W.mg_none_of X G z6, len_ := PySem.W.mg_none_of X G z7, list_ := PySem.W.mg_none_of X G z8, range_ := PySem.W.mg_none_of X G z9, sum_ := PySem.W.mg_none_of X G z10, tuple_ := PySem.W.mg_none_of X G z11, zip_ := PySem.W.mg_none_of X G z12, LEAST_NUMBER := ⟨_, PySem.W.mg_of X G y0⟩, MOST_CARDS := ⟨_, PySem.W.mg_of X G y1⟩, MOST_NUMBER := ⟨_, PySem.W.mg_of X G y2⟩ }
 have C_Solved : Cl K mg "Solved" ["value", "mine", "theirs"] [] A_Solved := ⟨⟨pg_Solved, hd_Solved, po_Solved, sa_Solved⟩, (fun f hf => by rcases List.mem_cons.mp hf with e | hf; (rw [e]; exact no_Solved_value); rcases List.mem_cons.mp hf with e | hf; (rw [e]; exact no_Solved_mine); rcases List.mem_cons.mp hf with e | hf; (rw [e]; exact no_Solved_theirs); cases hf), PySem.W.mg_of X G aC_Solved, mk_Solved, kc_Solved⟩
 have C_Beaten : Cl K mg "Beaten" ["mixture"] [] A_Beaten := ⟨⟨pg_Beaten, hd_Beaten, po_Beaten, sa_Beaten⟩, (fun f hf => by rcases List.mem_cons.mp hf with e | hf; (rw [e]; exact no_Beaten_mixture); cases hf), PySem.W.mg_of X G aC_Beaten, mk_Beaten, kc_Beaten⟩
 have C_Best : Cl K mg "Best" ["mixture"] [] A_Best := ⟨⟨pg_Best, hd_Best, po_Best, sa_Best⟩, (fun f hf => by rcases List.mem_cons.mp hf with e | hf; (rw [e]; exact no_Best_mixture); cases hf), PySem.W.mg_of X G aC_Best, mk_Best, kc_Best⟩
 have C_Settled : Cl K mg "Settled" ["mine", "theirs"] [] A_Settled := ⟨⟨pg_Settled, hd_Settled, po_Settled, sa_Settled⟩, (fun f hf => by rcases List.mem_cons.mp hf with e | hf; (rw [e]; exact no_Settled_mine); rcases List.mem_cons.mp hf with e | hf; (rw [e]; exact no_Settled_theirs); cases hf), PySem.W.mg_of X G aC_Settled, mk_Settled, kc_Settled⟩
 have FL := zF (st := jO) lL cL kL
 refine ⟨PySem.W.fnOf "law" "law" (fu jO) (dC jO) (aH jO) .none kV dc pm an cd ct, fun s v => .of_eq rfl, fun base _ _ => ?_⟩
 have eU := zX (P := l.prog) (w := w) (base := base) F0 T
 have lG := yj (P := l.prog) (w := w) (base := base) F1 T
 have qU := Ew (P := l.prog) (w := w) (base := base) F2 T eU lG
 have m9 := Aa (P := l.prog) (w := w) (base := base) F3 T qU
 have dj := uP (P := l.prog) (w := w) (base := base) F4 T m9
 have cW := uw (P := l.prog) (w := w) (base := base) F5 T
 have bG := xF (P := l.prog) (w := w) (base := base) F6 T
 have gZ := wX (P := l.prog) (w := w) (base := base) F7 T bG
 have cC := ou (P := l.prog) (w := w) (base := base) F8 T
 have ie := Hq (P := l.prog) (w := w) (base := base) F9 T cC
 have mz := Hh (P := l.prog) (w := w) (base := base) F10 T ie
 have uy := Gx (P := l.prog) (w := w) (base := base) F11 T ie
 have b_ := FJ (P := l.prog) (w := w) (base := base) F12 T
 have d8 := uH (P := l.prog) (w := w) (base := base) F13 T eU cC
 have mZ := z_ (P := l.prog) (w := w) (base := base) F14 T d8 b_
 have cA := wN (P := l.prog) (w := w) (base := base) F15 T mZ mz
 have jz := uO (P := l.prog) (w := w) (base := base) F16 T
 have pK := CJ (P := l.prog) (w := w) (base := base) F17 T mz uy
 have nT := Ai (P := l.prog) (w := w) (base := base) F18 T pK
 have cG := Ca (P := l.prog) (w := w) (base := base) F19 T nT
 have lF := yS (P := l.prog) (w := w) (base := base) F20 T
 have bL := wO (P := l.prog) (w := w) (base := base) F21 T lF
 have gk := pA (P := l.prog) (w := w) (base := base) F22 T bL
 have dW := uJ (P := l.prog) (w := w) (base := base) F23 T
 have jL := vf (P := l.prog) (w := w) (base := base) F24 T
 have nJ := Ae (P := l.prog) (w := w) (base := base) F25 T dW jL ie
 have kZ := Cz (P := l.prog) (w := w) (base := base) F26 T
 have rH := En (P := l.prog) (w := w) (base := base) F27 T
 have vm := Fx (P := l.prog) (w := w) (base := base) F28 T nJ
 have qY := Dm (P := l.prog) (w := w) (base := base) F29 T vm b_ rH cG
 have dM := wW (P := l.prog) (w := w) (base := base) F30 T kZ qY
 have mX := De (P := l.prog) (w := w) (base := base) F31 T b_
 have d_ := uR (P := l.prog) (w := w) (base := base) F32 T C_Solved
 have rm := D_ (P := l.prog) (w := w) (base := base) F33 T C_Solved mX dM gk d_
 have rM := Fe (P := l.prog) (w := w) (base := base) F34 T dj rm
 have bO := xZ (P := l.prog) (w := w) (base := base) F35 T jz
 have bY := yP (P := l.prog) (w := w) (base := base) F36 T
 have bM := zP (P := l.prog) (w := w) (base := base) F37 T bO
 have cB := uX (P := l.prog) (w := w) (base := base) F38 T
 have bD := tH (P := l.prog) (w := w) (base := base) F39 T bO bM
 have dG := uq (P := l.prog) (w := w) (base := base) F40 T cA
 have iW := rP (P := l.prog) (w := w) (base := base) F41 T C_Solved d8 dG b_ cG bL
 have jx := vA (P := l.prog) (w := w) (base := base) F42 T C_Solved bD bO bY bM cB
 have m6 := Ag (P := l.prog) (w := w) (base := base) F43 T b_
 have cZ := zm (P := l.prog) (w := w) (base := base) F44 T cG m6
 have jB := vg (P := l.prog) (w := w) (base := base) F45 T C_Beaten
 have lJ := yg (P := l.prog) (w := w) (base := base) F46 T C_Best
 have kh := wK (P := l.prog) (w := w) (base := base) F47 T C_Best cA cZ
 have iK := tE (P := l.prog) (w := w) (base := base) F48 T C_Beaten cA cG bL b_
 have kJ := wV (P := l.prog) (w := w) (base := base) F49 T bD bY bM cB
 have iY := rR (P := l.prog) (w := w) (base := base) F50 T bD bY bM
 have iw := Dl (P := l.prog) (w := w) (base := base) F51 T
 have eG := yR (P := l.prog) (w := w) (base := base) F52 T
 have dI := tW (P := l.prog) (w := w) (base := base) F53 T C_Settled
 have cV := qp (P := l.prog) (w := w) (base := base) F54 T
 have jF := uU (P := l.prog) (w := w) (base := base) F55 T dj cV
 have jQ := Aj (P := l.prog) (w := w) (base := base) F56 T eG iw cZ
 have h_ := qI (P := l.prog) (w := w) (base := base) F57 T C_Settled cV dG jQ bL
 have eE := oF (P := l.prog) (w := w) (base := base) F58 T dM iw cZ
 have oN := Ce (P := l.prog) (w := w) (base := base) F59 T C_Settled jF eE bL eG dI
 have iD := tu (P := l.prog) (w := w) (base := base) F60 T bD bM cB bY
 have gU := wG (P := l.prog) (w := w) (base := base) F61 T bG bO
 have jc := xG (P := l.prog) (w := w) (base := base) F62 T bG
 have dB := yC (P := l.prog) (w := w) (base := base) F63 T
 have gF := qm (P := l.prog) (w := w) (base := base) F64 T C_Solved C_Beaten C_Best d_ jB lJ iW iK kh dB jx kJ iY
 exact Jc FL T C_Solved C_Settled cW bG gZ rM oN gU jc bO gF dI h_ iD dB
theorem walk {l : PySem.W.OpenLaw} {q : Program} {loose : List Str} {XP : (Str -> Option Value) -> Heap -> Prop} {YP : World -> Heap -> Prop} {d : DefRec} {K : Params -> PySem.W.Frag} (hn : l.most = some 63) (hdf : d.params.defaults = [])
  (hY : ∀ (w : World) (h : Heap), YP w h -> (K w.params).In h)
  (F : ∀ (w : World) (mg : Str -> Option Value) (fa : Addr) (h : Heap), (K w.params).In h -> h.Ns mainGlobals mg -> mg d.name = some (.ref fa) ->
   ∃ fd : FuncData, (∀ (s : Shared) (u : Value), BindsTo s fd ⟨[u], []⟩ [("_law_script", u)]) /\ ∀ base : Heap, (K w.params).In base -> base.Ns mainGlobals mg -> FnOk l.prog w (K w.params) mg base CX0 13 fa fd ["_law_script"] (ur (K w.params))) :
  PySem.W.WalkO q loose XP YP l.row.toRowW d [] (fun f vs => PySem.call f vs) :=
 L2.walk_of (n := 63) (k := 13) (x := "_law_script") (CX := fun _ => CX0) (sp := fun w => ur (K w.params)) hn (by decide) hdf ⟨rfl, by decide, by decide⟩ hY F (fun _ _ a ns hl _ hS => ⟨a, ns, rfl, hS, hl, fun _ => rfl⟩) fun _ _ _ _ _ z => z
end K11
namespace PySem.W.Fast
def tw1608209260914999294:=0
def tw5950123099672812598:=0
def tw1953938186383063234:=0
def tw11813080480544247882:=0
def tw1587409515443738300:=0
def tw15711398288687759184:=0
def tw9415525366523510557:=0
def tw16293766117546768144:=0
def tw8975355047984548570:=0
def tw9023551339897098041:=0
def tw4140874129916709826:=0
def tw12766883353179029541:=0
def tw11043826224880706381:=0
def tw3486792076126356563:=0
def tw14022710764447605172:=0
def tw12226975292271332369:=0
def tw14331759142539884144:=0
def tw6232847991762934470:=0
def tw11288218737197179939:=0
def tw5675677806945346424:=0
def tw13503546470343440902:=0
def tw3561329388109786997:=0
def tw17709130987643469298:=0
def tw6250865101186880040:=0
def tw8914327901869813613:=0
def tw11939000152328322029:=0
def tw15596275186861417869:=0
def tw6618717154139296293:=0
def tw6185093283635149031:=0
def tw3247500128933655933:=0
def tw17757837779193930045:=0
def tw17169294374814741413:=0
def tw1702747377466248158:=0
def tw7255780265275443698:=0
def tw17604974741590949245:=0
def tw14519368454104558905:=0
def tw7117299311846938758:=0
def tw17281034138048781120:=0
def tw5983900960196186865:=0
def tw15391456518014913683:=0
def tw5975195351565993564:=0
def tw10891522205221192574:=0
def tw15833977143996680469:=0
def tw16555512170156928553:=0
def tw5905295528661016148:=0
def tw16256329366710410281:=0
def tw9082625174817405095:=0
def tw7947065624272655438:=0
def tw7545644255594512522:=0
def tw6388595583808705522:=0
def tw1950935471010426410:=0
def tw14556938287918182757:=0
def tw8893219431914622204:=0
def tw8361489865164593202:=0
def tw10594477988564474779:=0
def tw3160813543122421188:=0
def tw1133307103403366814:=0
def tw9695717544149080186:=0
def tw2314090624590090231:=0
def tw15446112998334142380:=0
def tw4992682054607072301:=0
def tw12137344422229343832:=0
def tw13437689363417618391:=0
def tw8332442474742445008:=0
def tw8780329174672286761:=0
def tw7900114691723786059:=0
def tw5022675584419047715:=0
def tw15605537721940666149:=0
def tw2817987499576368143:=0
def tw4969930477208519329:=0
def tw16234868561660423822:=0
def tw13532857253537492658:=0
def tw12408093596357303052:=0
def tw6599608954762077795:=0
def tw5804285003278291404:=0
def tw7699312862080700902:=0
def tw807144638285133437:=0
def tw16765303070221230885:=0
def tw5757459853801815053:=0
def tw18085566288847541006:=0
def tw7615127241950235596:=0
def tw9250771451433193677:=0
def tw2539113772605406383:=0
def tw2648253223176661810:=0
def tw11576301470199696188:=0
def tw5061532101462613708:=0
def tw13752762428428593987:=0
def tw1453927187479341093:=0
def tw522123190935004023:=0
def tw11915911667153579249:=0
def tw401627384091748192:=0
def tw1760320954553615068:=0
def tw12549086241847394643:=0
def tw14726152986600534372:=0
def tw11754257425516554577:=0
def tw10950330607513371691:=0
def tw9731443047664708439:=0
def tw12999200600321342475:=0
def tw13004734775634311444:=0
def tw4664413708907438169:=0
def tw10712126166194245335:=0
def tw7134320755654782276:=0
def tw864784790826849055:=0
def tw12466578469074944197:=0
def tw4549075573033200644:=0
def tw13875965862270727388:=0
def tw9816957160318653817:=0
def tw9905257506000231446:=0
def tw8901158620438930233:=0
def tw2475447038834677722:=0
def tw285465241188435102:=0
def tw6911986935077697701:=0
def tw3681416031613840078:=0
def tw8652640617008111502:=0
def tw13936476779986582104:=0
def tw15722866643032790361:=0
def tw8840457845363051640:=0
def tw3512636882234175818:=0
def tw8232412038631100796:=0
def tw627311418611293317:=0
def tw1839986014334063815:=0
def tw8221607969952665248:=0
def tw3825540774731398834:=0
def tw5063032406686285926:=0
def tw5420035928057547824:=0
def tw4438289634751080746:=0
def tw3604448189967173473:=0
def tw16392367254758529305:=0
def tw5765449588436550273:=0
def tw13398532540787754205:=0
def tw9880818117529558547:=0
def tw346695791576920903:=0
def tw1997468268241613268:=0
def tw17782253136355376549:=0
def tw11762028712131993298:=0
def tw142431710556917340:=0
def tw3164401671530328505:=0
def tw2112146145803880084:=0
def tw9497062476001680978:=0
def tw2901322107783695445:=0
def tw8482578898780043100:=0
def tw10101798394263265802:=0
def tw10501718385996942467:=0
def tw1432792225015547655:=0
def tw17156473201463584656:=0
def tw12313972762056171268:=0
def tw9846567411865647283:=0
def tw2123912305276887086:=0
def tw15442142826802107586:=0
def tw5030991835338289414:=0
def tw13332460770487959118:=0
def tw16284450067793237907:=0
def tw5709504282163727813:=0
def tw15878104296567572420:=0
def tw12942986192571515732:=0
def tw5779752946293949253:=0
def tw13050083842390906997:=0
def tw12306192085041272107:=0
def tw7403187272765949233:=0
def tw3481264318932099172:=0
def tw9506218588134873451:=0
def tw2130310569344221400:=0
def tw16484406577877314886:=0
def tw3796314576642226299:=0
def tw7179111090241280657:=0
def tw10805537662274006080:=0
def tw2376162198608561827:=0
def tw793250705087784669:=0
def tw4742037524598295514:=0
def tw114285333311693680:=0
def tw16770040959308475254:=0
def tw11348663804288206765:=0
def tw10152291850069838126:=0
def tw15847039286214528906:=0
def tw5143531458679333657:=0
def tw3150868475671370228:=0
def tw17570162726873088175:=0
def tw9048723197471646134:=0
def tw5310076193263414766:=0
def tw195986686914578916:=0
def tw4551531385836543504:=0
def tw10122117698772397716:=0
def tw9749391000888716356:=0
def tw921986263497816437:=0
def tw9621203491112476888:=0
def tw10127174012780718371:=0
def tw15256464509589423504:=0
def tw11051496201472697923:=0
def tw9864769031310969584:=0
def tw3019470653015529304:=0
def tw13259456896506323791:=0
def tw5984045399208393808:=0
def tw15908462995826922005:=0
def tw4613837685353065005:=0
def tw10744297516340258099:=0
def tw11356925751329318835:=0
def tw13986062971280753586:=0
def tw13722620173245653853:=0
def tw16983427961547289509:=0
def tw7001497382666163490:=0
def tw5440471539391645943:=0
def tw14820961141941238077:=0
def tw12266276831333208684:=0
def tw16390903367598365400:=0
def tw1455723492654071615:=0
def tw13512124577032003801:=0
def tw6286292128974666876:=0
def tw12413502492308924926:=0
def tw12775736110421368291:=0
def tw7764227341208864965:=0
def tw15562522877990857516:=0
def tw3342414427830686297:=0
def tw15452101802424505019:=0
def tw7872186715570459131:=0
def tw1652258939482452755:=0
def tw13518398313946190361:=0
def tw2845150976061179347:=0
def tw3952226002011204479:=0
def tw8823060373349835193:=0
def tw6280630389236333187:=0
def tw559256650361741286:=0
def tw3893343814386906707:=0
def tw5291185374457739259:=0
def tw17404483780832253415:=0
def tw5012990165271423815:=0
def tw11180937662081806033:=0
def tw6103913780189611548:=0
def tw16936517411469506963:=0
def tw12015024742609639755:=0
def tw13546493721132885254:=0
def tw11963641223551022725:=0
def tw11212613704391105888:=0
def tw18212875011636525691:=0
def tw5065271951735951480:=0
def tw3210878009068984470:=0
def tw8457428448062503860:=0
def tw18217500863658603017:=0
def tw9401293545150491817:=0
def tw485377571119392268:=0
def tw9660326872834664480:=0
def tw18084105330347614867:=0
def tw13489664145695579156:=0
def tw12582733100348209878:=0
def tw17874823384889089021:=0
def tw14259282952414494422:=0
def tw7566338083228592751:=0
def tw7796718242807380776:=0
def tw9973021180570873114:=0
def tw7967187529234991829:=0
def tw8198427677742890749:=0
def tw16557427498177664789:=0
def tw18404831225980898056:=0
def tw6123753847475711870:=0
def tw2433305579634529742:=0
def tw4039725775641153619:=0
def tw18219925895644979644:=0
def tw11260148862072310279:=0
def tw15545969058588084707:=0
def tw6327301113535378449:=0
def tw14220477877246397327:=0
def tw10743569703517155172:=0
def tw3670590245483564240:=0
def tw5127591851256298030:=0
def tw4212186976037240061:=0
def tw13486619030571330437:=0
def tw7062057126056149188:=0
def tw12380551505859303070:=0
def tw11448129525249611112:=0
def tw569567190670333792:=0
def tw17034860327190294661:=0
def tw16071408460927676879:=0
def tw9052002704713418004:=0
def tw10000049557997512426:=0
def tw4696851131762822210:=0
def tw7697977209054391421:=0
def tw11620150167097824004:=0
def tw4791449229515853278:=0
def tw11377632318354770030:=0
def tw4604851720900166061:=0
def tw14027808308063263115:=0
def tw14880066856317854823:=0
def tw13273049164939779798:=0
def tw10699954287059736543:=0
def tw13113248625744705808:=0
def tw15425670220003555605:=0
def tw5088770376024297701:=0
def tw16525252642915384513:=0
def tw8525125444469337160:=0
def tw1077425315251536811:=0
def tw1733185950733391524:=0
def tw399457984609730301:=0
def tw18012213478111435504:=0
def tw3314478742879872935:=0
def tw2121997690066725063:=0
def tw18108224713859025757:=0
def tw302510750638069364:=0
def tw9007737353914849393:=0
def tw2077939763507739353:=0
def tw13700903350307224915:=0
def tw1059607224975825770:=0
def tw8566052939632749306:=0
def tw7076490840929219113:=0
def tw4131129999641157421:=0
def tw11337971471826066501:=0
def tw13429930426374758336:=0
def tw17226361294593991520:=0
def tw2501535040582842727:=0
def tw1878195971859346344:=0
def tw4353503939466665752:=0
def tw13600506459735265220:=0
def tw11458572114719458923:=0
def tw13202843685504202738:=0
def tw4683075082573985076:=0
def tw12111743471059351149:=0
def tw1205724921395926832:=0
def tw11766906024101253441:=0
def tw9284080746315240207:=0
def tw7050716934370160562:=0
def tw9672793453367000010:=0
def tw16648066484861774830:=0
def tw16888100338530516576:=0
def tw17227216955873908061:=0
def tw15418611919938831917:=0
def tw2894418738809185756:=0
def tw4068299197510481278:=0
def tw8852505735234167520:=0
def tw11335046713609065666:=0
def tw1896417881116215509:=0
def tw15646797483265149761:=0
def tw3184582607797702215:=0
def tw15363323200995486431:=0
def tw11568312101150733714:=0
def tw15821357780135939385:=0
def tw8309364767968651149:=0
def tw6784355545836580078:=0
def tw11970208996615775764:=0
def tw10602669476159776307:=0
def tw10840518299705445907:=0
def tw8156573896736503714:=0
def tw8954101580531001028:=0
def tw8161556218202123698:=0
def tw4005819996332297694:=0
def tw12488447210539569109:=0
def tw9913596736214314777:=0
def tw6125989405303091659:=0
def tw12971618090672051781:=0
def tw10529810772525036074:=0
def tw16902486824811833014:=0
def tw16807877419693747048:=0
def tw16183843851329417876:=0
def tw3465354896975200620:=0
def tw14045841736366342248:=0
def tw12834576308211898823:=0
def tw17526493445898287572:=0
def tw5135458089481395440:=0
def tw4364510029344005823:=0
def tw6282217661062554700:=0
def tw8498236261391492334:=0
def tw2589401532006465628:=0
def tw13223962869866328251:=0
def tw9633649154400938546:=0
def tw14342060446553417970:=0
def tw10767482305905645104:=0
def tw8923839242718947339:=0
def tw14606807730366875065:=0
def tw730648750248577354:=0
def tw8103991971595062560:=0
def tw3693865907260214350:=0
def tw8906596134146945316:=0
def tw13704623371801622137:=0
def tw6558550162121154646:=0
def tw5672653139712330934:=0
def tw17412364662202720860:=0
def tw14889641517184976411:=0
def tw1321947018024455263:=0
def tw15421337686833997949:=0
def tw2864927150842486896:=0
def tw8511770764394904170:=0
def tw11721915083147843049:=0
def tw16889127092191163501:=0
def tw15826887129378500627:=0
def tw1982718645288064342:=0
def tw6973277252342891003:=0
def tw14483816362901667509:=0
def tw11857303780183322147:=0
def tw2459999580644160512:=0
def tw1915872594853097410:=0
def tw2017671006162482387:=0
def tw16174293379456110692:=0
def tw10767706446184488221:=0
def tw2521202763271494378:=0
def tw16111589967583965167:=0
def tw15649507462194911515:=0
def tw17333120513793903246:=0
def tw12886733619163599205:=0
def tw15815364583524023077:=0
def tw3608292280298395687:=0
def tw16374508017912503802:=0
def tw119116121791213094:=0
def tw18087419908446237796:=0
def tw14766160018484320408:=0
def tw18343357912697579370:=0
def tw15552029358193345016:=0
def tw10837030772725185796:=0
def tw5732984819314678935:=0
def tw13857348614509360118:=0
def tw4458352402387647624:=0
def tw10094960725859134019:=0
def tw5020096719276828100:=0
def tw5137810120787927514:=0
def tw13416067356617515439:=0
def tw17805737987457602659:=0
def tw8329396539683802921:=0
def tw9506065966895385932:=0
def tw1293087105755080510:=0
def tw11409380110716619437:=0
def tw1088375858052194050:=0
def tw6469832899094298105:=0
def tw10228925611117355736:=0
def tw14389776680787339381:=0
def tw6925085020038351185:=0
def tw8851378776547599744:=0
def tw13562725577626385847:=0
def tw444303608594312208:=0
def tw16603277626286624704:=0
def tw4373268777091380774:=0
def tw13899692151642778664:=0
def tw14071378038673851754:=0
def tw5573906856178703359:=0
def tw5581478897425199192:=0
def tw17083503508455933575:=0
def tw7623202887331171598:=0
def tw532468766821777311:=0
def tw2797573593053148908:=0
def tw1734103157158435522:=0
def tw6620476170087231728:=0
def tw514963709740711814:=0
def tw16474838324122693274:=0
def tw12693854160197125383:=0
def tw13604718710619001091:=0
def tw846363612751555618:=0
def tw8335916061421999594:=0
def tw8511895580064728468:=0
def tw624257604764231457:=0
def tw9584382713626259145:=0
def tw4715740204688093731:=0
def tw17114939709798106657:=0
def tw13746749326604856953:=0
def tw4655042920527253164:=0
def tw4844638276289666965:=0
def tw12255909392205723608:=0
def tw13425370201891827563:=0
def tw17783419460712956200:=0
def tw5524102422665394268:=0
def tw14448708836533300394:=0
def tw11807793151313495859:=0
def tw3454034994877442553:=0
def tw1161395779852729564:=0
def tw16116550257762277550:=0
def tw11887174421625807293:=0
def tw7571204715172226997:=0
def tw17284221388034434181:=0
def tw3024877378555134029:=0
def tw15528072139786258791:=0
def tw5918988810080635843:=0
def tw14128627661045810944:=0
def tw7483464105753413387:=0
def tw14973142957020910555:=0
def tw329672481229946429:=0
def tw16531509086123336114:=0
def tw15937489032892202887:=0
def tw15000057911172845452:=0
def tw8354358419783531947:=0
def tw10350421721551262343:=0
def tw7972638940766334405:=0
def tw9243199264463637122:=0
def tw3015913596648834748:=0
def tw4526286624874624979:=0
def tw6960862455719686433:=0
def tw9181334539800073152:=0
def tw12535510760557141311:=0
def tw10438099626047949685:=0
def tw13820953299339049095:=0
def tw10008205919357520162:=0
def tw10503300502851000898:=0
def tw16001654848307965973:=0
def tw10061266966648516469:=0
def tw7984245875827279659:=0
end PySem.W.Fast
open PySem PySem.W PyProof.Rows
set_option maxRecDepth 100000 in
set_option maxHeartbeats 0 in
theorem PySem.Challenge.cw_unseen_k11_answers_by_hand_holds : PySem.Challenge.rw_unseen_k11_answers_by_hand.Holds := by
 w_on; o_law; k_head; (case hw => w_witness2)
 k_fill
 refine K11.walk (l := PySem.Challenge.rw_unseen_k11_answers_by_hand) rfl rfl (fun w h Y => PySem.W.kIn_of Y) ?F
 case F =>
  intro w mg fa h KX G hmg
  refine' K11.all_mk KX G hmg (L2.fun_m KX G ?_ ?_ ?_ ?_ (fun _ _ _ _ _ _ us hl => match us, hl with | [_], _ => rfl)) (L2.fun_m KX G ?_ ?_ ?_ ?_ (fun _ _ _ _ _ _ us hl => match us, hl with | [_], _ => rfl)) (L2.fun_m KX G ?_ ?_ ?_ ?_ (fun _ _ _ _ _ _ us hl => match us, hl with | [_], _ => rfl)) (L2.fun_m KX G ?_ ?_ ?_ ?_ (fun _ _ _ _ _ _ us hl => match us, hl with | [_], _ => rfl)) (L2.fun_m KX G ?_ ?_ ?_ ?_ (fun _ _ _ _ _ _ us hl => match us, hl with | [_], _ => rfl)) (L2.fun_m KX G ?_ ?_ ?_ ?_ (fun _ _ _ _ _ _ us hl => match us, hl with | [_, _], _ => rfl)) (L2.fun_m KX G ?_ ?_ ?_ ?_ (fun _ _ _ _ _ _ us hl => match us, hl with | [_, _, _], _ => rfl)) (L2.fun_m KX G ?_ ?_ ?_ ?_ (fun _ _ _ _ _ _ us hl => match us, hl with | [_, _, _], _ => rfl)) (L2.fun_m KX G ?_ ?_ ?_ ?_ (fun _ _ _ _ _ _ us hl => match us, hl with | [_, _], _ => rfl)) (L2.fun_m KX G ?_ ?_ ?_ ?_ (fun _ _ _ _ _ _ us hl => match us, hl with | [_, _], _ => rfl)) (L2.fun_m KX G ?_ ?_ ?_ ?_ (fun _ _ _ _ _ _ us hl => match us, hl with | [_, _], _ => rfl)) (L2.fun_m KX G ?_ ?_ ?_ ?_ (fun _ _ _ _ _ _ us hl => match us, hl with | [_, _], _ => rfl)) (L2.fun_m KX G ?_ ?_ ?_ ?_ (fun _ _ _ _ _ _ us hl => match us, hl with | [_, _], _ => rfl)) (L2.fun_m KX G ?_ ?_ ?_ ?_ (fun _ _ _ _ _ _ us hl => match us, hl with | [_], _ => rfl)) (L2.fun_m KX G ?_ ?_ ?_ ?_ (fun _ _ _ _ _ _ us hl => match us, hl with | [_], _ => rfl)) (L2.fun_m KX G ?_ ?_ ?_ ?_ (fun _ _ _ _ _ _ us hl => match us, hl with | [_, _], _ => rfl)) (L2.fun_m KX G ?_ ?_ ?_ ?_ (fun _ _ _ _ _ _ us hl => match us, hl with | [_, _], _ => rfl)) (L2.fun_m KX G ?_ ?_ ?_ ?_ (fun _ _ _ _ _ _ us hl => match us, hl with | [_, _], _ => rfl)) (L2.fun_m KX G ?_ ?_ ?_ ?_ (fun _ _ _ _ _ _ us hl => match us, hl with | [_, _], _ => rfl)) (L2.fun_m KX G ?_ ?_ ?_ ?_ (fun _ _ _ _ _ _ us hl => match us, hl with | [_, _], _ => rfl)) (L2.fun_m KX G ?_ ?_ ?_ ?_ (fun _ _ _ _ _ _ us hl => match us, hl with | [_, _], _ => rfl)) (L2.fun_m KX G ?_ ?_ ?_ ?_ (fun _ _ _ _ _ _ us hl => match us, hl with | [_], _ => rfl)) (L2.fun_m KX G ?_ ?_ ?_ ?_ (fun _ _ _ _ _ _ us hl => match us, hl with | [_], _ => rfl)) (L2.fun_m KX G ?_ ?_ ?_ ?_ (fun _ _ _ _ _ _ us hl => match us, hl with | [_], _ => rfl)) (L2.fun_m KX G ?_ ?_ ?_ ?_ (fun _ _ _ _ _ _ us hl => match us, hl with | [_, _, _], _ => rfl)) (L2.fun_m KX G ?_ ?_ ?_ ?_ (fun _ _ _ _ _ _ us hl => match us, hl with | [_, _], _ => rfl)) (L2.fun_m KX G ?_ ?_ ?_ ?_ (fun _ _ _ _ _ _ us hl => match us, hl with | [_], _ => rfl)) (L2.fun_m KX G ?_ ?_ ?_ ?_ (fun _ _ _ _ _ _ us hl => match us, hl with | [_, _, _], _ => rfl)) (L2.fun_m KX G ?_ ?_ ?_ ?_ (fun _ _ _ _ _ _ us hl => match us, hl with | [_, _, _], _ => rfl)) (L2.fun_m KX G ?_ ?_ ?_ ?_ (fun _ _ _ _ _ _ us hl => match us, hl with | [_, _, _], _ => rfl)) (L2.fun_m KX G ?_ ?_ ?_ ?_ (fun _ _ _ _ _ _ us hl => match us, hl with | [_], _ => rfl)) (L2.fun_m KX G ?_ ?_ ?_ ?_ (fun _ _ _ _ _ _ us hl => match us, hl with | [_], _ => rfl)) (L2.fun_c ?_ ?_ ?_ ?_ ?_ (fun _ _ _ _ _ _ us hl => match us, hl with | [_, _, _, _], _ => rfl)) (L2.fun_m KX G ?_ ?_ ?_ ?_ (fun _ _ _ _ _ _ us hl => match us, hl with | [_], _ => rfl)) (L2.fun_m KX G ?_ ?_ ?_ ?_ (fun _ _ _ _ _ _ us hl => match us, hl with | [_], _ => rfl)) (L2.fun_m KX G ?_ ?_ ?_ ?_ (fun _ _ _ _ _ _ us hl => match us, hl with | [_, _], _ => rfl)) (L2.fun_m KX G ?_ ?_ ?_ ?_ (fun _ _ _ _ _ _ us hl => match us, hl with | [_, _], _ => rfl)) (L2.fun_m KX G ?_ ?_ ?_ ?_ (fun _ _ _ _ _ _ us hl => match us, hl with | [_, _], _ => rfl)) (L2.fun_m KX G ?_ ?_ ?_ ?_ (fun _ _ _ _ _ _ us hl => match us, hl with | [_], _ => rfl)) (L2.fun_m KX G ?_ ?_ ?_ ?_ (fun _ _ _ _ _ _ us hl => match us, hl with | [_, _], _ => rfl)) (L2.fun_m KX G ?_ ?_ ?_ ?_ (fun _ _ _ _ _ _ us hl => match us, hl with | [_, _, _], _ => rfl)) (L2.fun_c ?_ ?_ ?_ ?_ ?_ (fun _ _ _ _ _ _ us hl => match us, hl with | [_, _], _ => rfl)) (L2.fun_m KX G ?_ ?_ ?_ ?_ (fun _ _ _ _ _ _ us hl => match us, hl with | [_, _], _ => rfl)) (L2.fun_m KX G ?_ ?_ ?_ ?_ (fun _ _ _ _ _ _ us hl => match us, hl with | [_], _ => rfl)) (L2.fun_m KX G ?_ ?_ ?_ ?_ (fun _ _ _ _ _ _ us hl => match us, hl with | [_, _], _ => rfl)) (L2.fun_c ?_ ?_ ?_ ?_ ?_ (fun _ _ _ _ _ _ us hl => match us, hl with | [_, _], _ => rfl)) (L2.fun_c ?_ ?_ ?_ ?_ ?_ (fun _ _ _ _ _ _ us hl => match us, hl with | [_, _], _ => rfl)) (L2.fun_c ?_ ?_ ?_ ?_ ?_ (fun _ _ _ _ _ _ us hl => match us, hl with | [_, _, _], _ => rfl)) (L2.fun_c ?_ ?_ ?_ ?_ ?_ (fun _ _ _ _ _ _ us hl => match us, hl with | [_, _, _], _ => rfl)) (L2.fun_m KX G ?_ ?_ ?_ ?_ (fun _ _ _ _ _ _ us hl => match us, hl with | [_, _, _], _ => rfl)) (L2.fun_m KX G ?_ ?_ ?_ ?_ (fun _ _ _ _ _ _ us hl => match us, hl with | [_, _, _], _ => rfl)) (L2.fun_m KX G ?_ ?_ ?_ ?_ (fun _ _ _ _ _ _ us hl => match us, hl with | [_], _ => rfl)) (L2.fun_m KX G ?_ ?_ ?_ ?_ (fun _ _ _ _ _ _ us hl => match us, hl with | [_, _], _ => rfl)) (L2.fun_c ?_ ?_ ?_ ?_ ?_ (fun _ _ _ _ _ _ us hl => match us, hl with | [_, _, _], _ => rfl)) (L2.fun_m KX G ?_ ?_ ?_ ?_ (fun _ _ _ _ _ _ us hl => match us, hl with | [_, _], _ => rfl)) (L2.fun_m KX G ?_ ?_ ?_ ?_ (fun _ _ _ _ _ _ us hl => match us, hl with | [_, _], _ => rfl)) (L2.fun_m KX G ?_ ?_ ?_ ?_ (fun _ _ _ _ _ _ us hl => match us, hl with | [_, _, _], _ => rfl)) (L2.fun_c ?_ ?_ ?_ ?_ ?_ (fun _ _ _ _ _ _ us hl => match us, hl with | [_, _, _], _ => rfl)) (L2.fun_m KX G ?_ ?_ ?_ ?_ (fun _ _ _ _ _ _ us hl => match us, hl with | [_], _ => rfl)) (L2.fun_m KX G ?_ ?_ ?_ ?_ (fun _ _ _ _ _ _ us hl => match us, hl with | [_, _], _ => rfl)) (L2.fun_m KX G ?_ ?_ ?_ ?_ (fun _ _ _ _ _ _ us hl => match us, hl with | [_, _, _, _], _ => rfl)) (L2.fun_m KX G ?_ ?_ ?_ ?_ (fun _ _ _ _ _ _ us hl => match us, hl with | [_, _], _ => rfl)) (L2.fun_m KX G ?_ ?_ ?_ ?_ (fun _ _ _ _ _ _ us hl => match us, hl with | [_, _], _ => rfl)) (L2.fun_m KX G ?_ ?_ ?_ ?_ (fun _ _ _ _ _ _ us hl => match us, hl with | [_, _], _ => rfl)) (L2.fun_m KX G ?_ ?_ ?_ ?_ (fun _ _ _ _ _ _ us hl => match us, hl with | [_, _, _, _, _], _ => rfl)) ?_ ?_ ?_ ?_ ?aC_Solved ?_ ?_ ?_ ?_ ?_ ?_ ?_ ?_ ?_ ?aC_Beaten ?_ ?_ ?_ ?_ ?_ ?_ ?_ ?aC_Best ?_ ?_ ?_ ?_ ?_ ?_ ?_ ?aC_Settled ?_ ?_ ?_ ?_ ?_ ?_ ?_ ?_ ?_ ?_ ?_ ?_ ?_ ?_ ?_ ?_ ?_ ?_ ?_ ?_ ?_ ?_ ?_ ?_
  (case aC_Solved => k_is)
  (case aC_Beaten => k_is)
  (case aC_Best => k_is)
  (case aC_Settled => k_is)
  all_goals (try (first | k_is | kit_is))
#print axioms PySem.Challenge.cw_unseen_k11_answers_by_hand_holds
