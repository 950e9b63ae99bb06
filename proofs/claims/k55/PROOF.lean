import PyProof.Rows.All
import Wide.All
import OpenK.AllK
import Wide.FinOn
import Lean
import PyProof.EqAt
import PyProof.EqKinds
import PyProof.TupleCall
import PyProof.EqLayable
import KE.KSortTup
import PyProof.AttrMissHeap
import KE.KDictOf
import PySem.Challenge.RW_nightbook_k55_papers_looked_at
set_option Elab.async false
set_option linter.all false
set_option maxRecDepth 100000
set_option maxHeartbeats 4000000
set_option exponentiation.threshold 40000
open Nat (reduceAdd reduceLT reduceLeDiff reduceEqDiff)
open Int (reduceLE reduceEq)
theorem dTr {p : Prop} [Decidable p] (h : p) : decide p = true := decide_eq_true h
theorem dFa {p : Prop} [Decidable p] (h : ¬ p) : decide p = false := decide_eq_false h
theorem lMp {α β : Type} {f : α → β} {l : List α} : (l.map f).length = l.length := List.length_map f

namespace L2
open PySem PySem.Spec PyProof.Rows
abbrev Key := Sum Int Str
def keyIs : Key → Value → Bool
 | .inl k, v => Value.isInt k v
 | .inr x, v => Value.isStrOf x v
def keyH (w : World) : Key → Int
 | .inl k => hashInt k
 | .inr x => hashStr w x
theorem keyIs_shape : ∀ {k : Key} {v : Value}, keyIs k v = true → (∃ i t, k = Sum.inl i ∧ v = Value.int i t) ∨ (∃ x t, k = Sum.inr x ∧ v = Value.str x t)
 | .inl i, v, h => by
  obtain ⟨t, e⟩ := Value.isInt_shape (k := i) (v := v) h
  exact .inl ⟨i, t, rfl, e⟩
 | .inr x, v, h => by
  obtain ⟨t, e⟩ := Value.isStrOf_shape (x := x) (v := v) h
  exact .inr ⟨x, t, rfl, e⟩
theorem key_ll (a b : Int) : decide ((Sum.inl a : Key) = Sum.inl b) = (a == b) := by
 by_cases e : a = b
 ·subst e; simp
 ·have h : ¬ (Sum.inl a : Key) = Sum.inl b := fun q => e (Sum.inl.inj q)
  rw [dFa h]
  exact (beq_eq_false_iff_ne.mpr e).symm
theorem key_rr (a b : Str) : decide ((Sum.inr a : Key) = Sum.inr b) = decide (a = b) := by
 by_cases e : a = b
 ·subst e; simp
 ·have h : ¬ (Sum.inr a : Key) = Sum.inr b := fun q => e (Sum.inr.inj q)
  rw [dFa h, dFa e]
theorem key_lr (a : Int) (b : Str) : decide ((Sum.inl a : Key) = Sum.inr b) = false := dFa (fun q => nomatch q)
theorem key_rl (a : Str) (b : Int) : decide ((Sum.inr a : Key) = Sum.inl b) = false := dFa (fun q => nomatch q)
def mixKind (prog : Program) (w : World) : PySem.KeyKind prog w Key where
 is := keyIs
 hash := keyH w
 inj := fun v a b ha hb => by
  rcases keyIs_shape ha with ⟨i, t, rfl, rfl⟩ | ⟨x, t, rfl, rfl⟩
  ·rcases keyIs_shape hb with ⟨j, u, rfl, e⟩ | ⟨y, u, rfl, e⟩
   ·injection e with e1 _; rw [e1]
   ·exact nomatch e
  ·rcases keyIs_shape hb with ⟨j, u, rfl, e⟩ | ⟨y, u, rfl, e⟩
   ·exact nomatch e
   ·injection e with e1 _; rw [e1]
 byValue := fun k v h => by
  rcases keyIs_shape h with ⟨i, t, rfl, rfl⟩ | ⟨x, t, rfl, rfl⟩ <;> rfl
 pyHash := fun hv h => by
  rcases keyIs_shape hv with ⟨i, t, rfl, rfl⟩ | ⟨x, t, rfl, rfl⟩
  ·exact wpAny_pyHash_int h
  ·exact wpAny_pyHash_str h
 eqBool := fun hu hv h => by
  rcases keyIs_shape hu with ⟨i, t, rfl, rfl⟩ | ⟨x, t, rfl, rfl⟩
  ·rcases keyIs_shape hv with ⟨j, u, rfl, rfl⟩ | ⟨y, u, rfl, rfl⟩
   ·rw [key_ll] at h; exact wpAny_eqBool_int h
   ·rw [key_lr] at h; exact SeqAt.EqAt.int_str i t y u _ _ _ _ h
  ·rcases keyIs_shape hv with ⟨j, u, rfl, rfl⟩ | ⟨y, u, rfl, rfl⟩
   ·rw [key_rl] at h; exact SeqAt.EqAt.str_int x t j u _ _ _ _ h
   ·rw [key_rr] at h; exact wpAny_eqBool_str h
 «strs» := fun k x t v h => by
  rcases keyIs_shape h with ⟨i, u, rfl, e⟩ | ⟨y, u, rfl, e⟩
  ·exact nomatch e
  ·injection e with e1 _
   subst e1
   cases v <;> rfl
end L2
namespace L2
open PySem PySem.Spec PyProof.Rows
inductive V where
 | non | bl (b : Bool) | int (i : Int) | str (x : Str) | byt (b : Array UInt8) | flt (b : UInt64) | ref (a : Addr) | ty (n : String)
 deriving DecidableEq
def RelV : V → Value → Prop
 | .non, u => u = Value.none
 | .bl b, u => u = Value.bool b
 | .int i, u => ∃ t, u = Value.int i t
 | .str x, u => ∃ t, u = Value.str x t
 | .byt b, u => ∃ t, u = Value.bytes b t
 | .flt b, u => ∃ t, u = Value.float b t
 | .ref a, u => u = Value.ref a
 | .ty n, u => u = Value.type n
abbrev Vals : List V → List Value → Prop := Paired RelV
theorem Vals.length {xs : List V} {us : List Value} (r : Vals xs us) : xs.length = us.length := Paired.length r
theorem Vals.get : ∀ {xs : List V} {us : List Value} {i : Nat} {x : V}, Vals xs us → xs[i]? = some x → ∃ u, us[i]? = some u ∧ RelV x u
 | _, _, _, _, .nil, e => by simp at e
 | _, _, 0, _, .cons r _, e => by simp at e; subst e; exact ⟨_, rfl, r⟩
 | _, _, i + 1, x, .cons _ t, e => by
  obtain ⟨u, h1, h2⟩ := Vals.get (i := i) (x := x) t (by simpa using e)
  exact ⟨u, by simpa using h1, h2⟩
theorem Vals.set {x : V} {u : Value} (r : RelV x u) : ∀ {xs : List V} {us : List Value} (i : Nat), Vals xs us → Vals (xs.set i x) (us.set i u)
 | _, _, _, .nil => .nil
 | _, _, 0, .cons _ t => .cons r t
 | _, _, i + 1, .cons q t => .cons q (Vals.set r i t)
theorem Vals.append : ∀ {xs ys : List V} {us ws : List Value}, Vals xs us → Vals ys ws → Vals (xs ++ ys) (us ++ ws)
 | _, _, _, _, .nil, s => s
 | _, _, _, _, .cons r t, s => .cons r (Vals.append t s)
theorem Vals.take : ∀ {xs : List V} {us : List Value} (n : Nat), Vals xs us → Vals (xs.take n) (us.take n)
 | _, _, 0, _ => .nil
 | _, _, _ + 1, .nil => .nil
 | _, _, n + 1, .cons r t => .cons r (Vals.take n t)
theorem Vals.drop : ∀ {xs : List V} {us : List Value} (n : Nat), Vals xs us → Vals (xs.drop n) (us.drop n)
 | _, _, 0, r => r
 | _, _, _ + 1, .nil => .nil
 | _, _, n + 1, .cons _ t => Vals.drop n t
def RelO : Option V → Option Value → Prop
 | some v, some u => RelV v u
 | none, none => True
 | _, _ => False
def KV {κ : Type} : List (κ × V) → List (κ × Value) → Prop := Paired fun (p : κ × V) (q : κ × Value) => p.1 = q.1 ∧ RelV p.2 q.2
def kV : Key → V
 | .inl i => .int i
 | .inr x => .str x
inductive HO where
 /-- a list -/
 | lst (xs : List V)
 /-- a tuple (never changes) -/
 | tup (xs : List V)
 /-- a dict whose keys are ints and texts; one whose keys are tuples of ints and texts (the empty one is both) -/
 | dK (kvs : List (Key × V)) | dT (kvs : List (List Key × V))
 /-- a set of ints: its members, its size -/
 | set (S : Int → Bool) (n : Nat)
 /-- an instance of the class at C, its dict at dx, its attributes -/
 | ins (C dx : Addr) (fs : List (Str × V))
 /-- the dict of the instance at x -/
 | own (x : Addr)
 /-- the dict of an exception -/
 | xd (fs : List (Str × V))
 /-- a bound method, f of x -/
 | met (f x : Addr)
 /-- a range object lo, lo + 1, .. below hi -/
 | rng (lo hi : Int)
 /-- a thing that is known to the object (the script; a dict while a loop walks it): read, never written while it is so -/
 | frz (o : Obj) (u : HO)
 /-- a code object's table -/
 | tbl (q : Str) (p : Pos)
 /-- any other thing, by what is true of its one object (a def of one's own: SetO a S n := HO.ext fun h => ..) -/
 | ext (φ : Heap → Prop)
abbrev Hp := Addr → Option HO
def upd (H : Hp) (a : Addr) (o : HO) : Hp := fun b => if b = a then some o else H b
theorem upd_same {H : Hp} {a : Addr} {o : HO} : upd H a o a = some o := by unfold upd; rw [if_pos rfl]
theorem upd_ne {H : Hp} {a b : Addr} {o : HO} (h : b ≠ a) : upd H a o b = H b := by unfold upd; rw [if_neg h]
theorem ne_of {H : Hp} {a b : Addr} {o u : HO} (h : H a = some o) (h' : H b = some u) (d : o ≠ u) : a ≠ b := by
 intro e; subst e; rw [h] at h'; exact d (Option.some.inj h')
theorem ne_of_none {H : Hp} {a b : Addr} {o : HO} (h : H a = some o) (h' : H b = none) : a ≠ b := by
 intro e; subst e; rw [h] at h'; cases h'
section
variable (P : Program) (w : World)
def ObjOk (H : Hp) (h : Heap) (a : Addr) : HO → Prop
 | .lst xs => xs.length ≤ sizeLine ∧ ∃ (its : List Value) (n : Nat), Vals xs its ∧ h.get? a = some { cls := .type "list", data := .seq its.toArray n }
 | .tup xs => xs.length ≤ sizeLine ∧ ∃ its : List Value, Vals xs its ∧ IsTup h a its.toArray
 | .dK kvs => kvs.length ≤ sizeLine ∧ (a == sysModules) = false ∧ ∃ vs, KV kvs vs ∧ h.DictOf (mixKind P w) a vs
 | .dT kvs => kvs.length ≤ sizeLine ∧ (a == sysModules) = false ∧ ∃ xs : List (List Key × Addr × Value),
  Paired (fun (p : List Key × V) (q : List Key × Addr × Value) => p.1 = q.1 ∧ H q.2.1 = some (.tup (p.1.map kV)) ∧ RelV p.2 q.2.2) kvs xs ∧
  ∃ o es ep, h.get? a = some o ∧ o.ExactDict ∧ o.data = .dict es ep ∧ es.toList = xs.map (entryOfKey (tupleKind (mixKind P w))) ∧ (xs.map (·.1)).Nodup
 | .set S n => h.SetOf (intKind P w) a S n
 | .ins C dx fs => H dx = some (.own a) ∧ fs.length ≤ 1000 ∧ dx ≠ a ∧ h.get? a = some (PySem.W.instObj C dx) ∧
  ∃ mA, h.Ns1 dx mA ∧ (∀ f, RelO (fs.lookup f) (mA f)) ∧ PySem.Within mA (fs.map (·.1))
 | .own _ => ∃ o, h.get? a = some o
 | .xd fs => ∃ mA, h.Ns1 a mA ∧ ∀ f, RelO (fs.lookup f) (mA f)
 | .rng lo hi => ∃ t u v, h.get? a = some { cls := .type "range", data := .fields #[.int lo t, .int hi u, .int 1 v] }
 | .frz o u => h.get? a = some o ∧ ObjOk H h a u
 | .tbl q p => ∃ ps, h.get? a = some { cls := .none, data := .fields ps } ∧ (ps = #[] ∨ ∃ c', ps = #[rawInt p.line, rawInt p.col, .ref c'] ∧ H c' = some (.own a) ∧ h.CodeRec (.ref c') q)
 | .met f x => h.get? a = some (PySem.W.methodObj (.ref f) (.ref x))
 | .ext φ => φ h ∧ (∃ o, h.get? a = some o) ∧ ∀ h1 h2 : Heap, φ h1 → (∀ o, h1.get? a = some o → h2.get? a = some o) → φ h2
def HOk (H : Hp) (h : Heap) : Prop := ∀ a o, H a = some o → ObjOk P w H h a o
end
section
variable {P : Program} {w : World} {H H' : Hp} {h h' : Heap} {a : Addr} {o : HO}
theorem ObjOk.lt (x : ObjOk P w H h a o) : a < h.objs.size := by
 cases o with
 | lst xs => obtain ⟨_, _, _, _, e⟩ := x; exact Heap.lt_size e
 | tup xs => obtain ⟨_, _, _, p⟩ := x; exact p.lt
 | dK kvs => obtain ⟨_, _, _, _, o, _, _, e, _⟩ := x; exact Heap.lt_size e
 | dT kvs => obtain ⟨_, _, _, _, o, _, _, e, _⟩ := x; exact Heap.lt_size e
 | set S n => obtain ⟨o, _, _, _, e, _⟩ := x; exact Heap.lt_size e
 | ins C dx fs => obtain ⟨_, _, _, e, _⟩ := x; exact Heap.lt_size e
 | own y => obtain ⟨_, e⟩ := x; exact Heap.lt_size e
 | xd fs => obtain ⟨_, ⟨_, _, _, e, _⟩, _⟩ := x; exact Heap.lt_size e
 | rng lo hi => obtain ⟨_, _, _, e⟩ := x; exact Heap.lt_size e
 | frz ob u => obtain ⟨e, _⟩ := x; exact Heap.lt_size e
 | tbl q p => obtain ⟨_, e, _⟩ := x; exact Heap.lt_size e
 | met f y => exact Heap.lt_size (show h.get? a = some _ from x)
 | ext φ => obtain ⟨_, ⟨_, e⟩, _⟩ := x; exact Heap.lt_size e
theorem Paired.mapP {α β : Type} {F G : α → β → Prop} : ∀ {l₁ : List α} {l₂ : List β}, Paired F l₁ l₂ → (∀ a b, F a b → G a b) → Paired G l₁ l₂
 | _, _, .nil, _ => .nil
 | _, _, .cons r t, f => .cons (f _ _ r) (Paired.mapP t f)
theorem ObjOk.stay (x : ObjOk P w H h a o) (k : ∀ b u, (b = a ∨ H b = some (.own a)) → h.get? b = some u → h'.get? b = some u)
 (ho : ∀ b, H b = some (.own a) → H' b = some (.own a)) (ht : ∀ b xs, H b = some (.tup xs) → H' b = some (.tup xs)) : ObjOk P w H' h' a o := by
 induction o with
 | lst xs => obtain ⟨z, its, n, r, e⟩ := x; exact ⟨z, its, n, r, k _ _ (.inl rfl) e⟩
 | tup xs => obtain ⟨z, its, r, ob, e, c⟩ := x; exact ⟨z, its, r, ob, k _ _ (.inl rfl) e, c⟩
 | dK kvs => obtain ⟨z, y, vs, r, ob, es, ep, e, c⟩ := x; exact ⟨z, y, vs, r, ob, es, ep, k _ _ (.inl rfl) e, c⟩
 | dT kvs =>
  obtain ⟨z, y, xs, r, ob, es, ep, e, c⟩ := x
  exact ⟨z, y, xs, Paired.mapP r fun p q z => ⟨z.1, ht _ _ z.2.1, z.2.2⟩, ob, es, ep, k _ _ (.inl rfl) e, c⟩
 | set S n => obtain ⟨ob, es, ep, t, e, c⟩ := x; exact ⟨ob, es, ep, t, k _ _ (.inl rfl) e, c⟩
 | ins C dx fs =>
  obtain ⟨d, z, ne, e, mA, ⟨od, es, ep, e2, c⟩, r⟩ := x
  exact ⟨ho _ d, z, ne, k _ _ (.inl rfl) e, mA, ⟨od, es, ep, k _ _ (.inr d) e2, c⟩, r⟩
 | own y => obtain ⟨ob, e⟩ := x; exact ⟨ob, k _ _ (.inl rfl) e⟩
 | xd fs => obtain ⟨mA, ⟨od, es, ep, e, c⟩, r⟩ := x; exact ⟨mA, ⟨od, es, ep, k _ _ (.inl rfl) e, c⟩, r⟩
 | rng lo hi => obtain ⟨t, u, v, e⟩ := x; exact ⟨t, u, v, k _ _ (.inl rfl) e⟩
 | frz ob u ih => obtain ⟨e, q⟩ := x; exact ⟨k _ _ (.inl rfl) e, ih q⟩
 | tbl q p =>
  obtain ⟨ps, e, z⟩ := x
  refine ⟨ps, k a _ (.inl rfl) e, ?_⟩
  rcases z with z | ⟨c', z1, z2, z3⟩
  ·exact .inl z
  ·obtain ⟨c, oc, vs, tq, hc, hoc, hdc, hq⟩ := z3
   have hc' : c' = c := by injection hc
   exact .inr ⟨c', z1, ho _ z2, c, oc, vs, tq, hc, k _ _ (.inr (hc' ▸ z2)) hoc, hdc, hq⟩
 | met f y =>
  have e : h.get? a = some (PySem.W.methodObj (.ref f) (.ref y)) := x
  show h'.get? a = some (PySem.W.methodObj (.ref f) (.ref y))
  exact k a _ (.inl rfl) e
 | ext φ => obtain ⟨p, ⟨o, e⟩, st⟩ := x; exact ⟨st _ _ p fun o q => k _ _ (.inl rfl) q, ⟨o, k _ _ (.inl rfl) e⟩, st⟩
theorem HOk.lt (x : HOk P w H h) (e : H a = some o) : a < h.objs.size := (x a o e).lt
theorem HOk.fresh (x : HOk P w H h) (e : h.objs.size ≤ a) : H a = none := by
 cases q : H a with
 | none => rfl
 | some u => exact absurd (Nat.lt_of_lt_of_le (x.lt q) e) (Nat.lt_irrefl _)
theorem HOk.kept (x : HOk P w H h) (k : ∀ b u, h.get? b = some u → h'.get? b = some u) : HOk P w H h' := fun a o e =>
 (x a o e).stay (fun b u _ q => k b u q) (fun _ q => q) fun _ _ q => q
theorem HOk.laid (x : HOk P w H h) (k : ∀ b u, h.get? b = some u → h'.get? b = some u) (hp : h.objs.size ≤ a) (new : ObjOk P w (upd H a o) h' a o) : HOk P w (upd H a o) h' := fun b u e => by
 have hn := x.fresh hp
 by_cases hb : b = a
 ·subst hb; rw [upd_same] at e; cases e; exact new
 ·rw [upd_ne hb] at e
  exact (x b u e).stay (fun c v _ q => k c v q) (fun c q => by rw [upd_ne (ne_of_none q hn)]; exact q) fun c xs q => by rw [upd_ne (ne_of_none q hn)]; exact q
end
def Rd (H : Hp) (a : Addr) (u : HO) : Prop := H a = some u ∨ ∃ o, H a = some (.frz o u)
theorem Rd.ok {P : Program} {w : World} {H : Hp} {h : Heap} {a : Addr} {u : HO} (r : Rd H a u) (x : HOk P w H h) : ObjOk P w H h a u := by
 rcases r with r | ⟨o, r⟩
 ·exact x a u r
 ·obtain ⟨_, q⟩ := x a _ r
  exact q
def Mut : Option HO → Prop
 | some (.lst _) => True
 | some (.dK _) => True
 | some (.dT _) => True
 | some (.set _ _) => True
 | some (.ins _ _ _) => True
 | some (.ext _) => True
 | _ => False
section
variable {P : Program} {w : World} {H : Hp} {h h' : Heap} {x e : Addr} {o' : HO}
theorem HOk.write (ok : HOk P w H h) (mu : Mut (H x)) (he : e = x ∨ H e = some (.own x)) (k : ∀ b u, b ≠ e → h.get? b = some u → h'.get? b = some u) (heo : ∃ u, h'.get? e = some u)
 (new : ObjOk P w (upd H x o') h' x o') : HOk P w (upd H x o') h' := fun b u q => by
 have nown : ∀ c y, H c = some (.own y) → c ≠ x := fun c y r z => by subst z; rw [r] at mu; exact mu
 have ntup : ∀ c xs, H c = some (.tup xs) → c ≠ x := fun c xs r z => by subst z; rw [r] at mu; exact mu
 by_cases hb : b = x
 ·subst hb; rw [upd_same] at q; cases q; exact new
 ·rw [upd_ne hb] at q
  by_cases hbe : b = e
  ·have q' : H b = some (.own x) := by
    rcases he with z | z
    ·exact absurd (hbe.trans z) hb
    ·rw [hbe]; exact z
   rw [q] at q'; cases q'
   obtain ⟨v, hv⟩ := heo
   exact ⟨v, by rw [hbe]; exact hv⟩
  ·refine (ok b u q).stay (fun c v hc r => k c v ?_ r) (fun c r => by rw [upd_ne (nown c b r)]; exact r) fun c xs r => by rw [upd_ne (ntup c xs r)]; exact r
   rcases hc with rfl | hc
   ·exact hbe
   ·rintro rfl
    rcases he with z | z
    ·exact nown c b hc z
    ·rw [hc] at z; cases z; exact hb rfl
end
structure Un (fs ex : List Addr) (H H' : Hp) (h h' : Heap) : Prop where
 keep : ∀ b o, h.get? b = some o → H b = none → b ∉ fs → b ∉ ex → h'.get? b = some o
 slot : ∀ b o, h.get? b = some o → H b = none → b ∈ fs → b ∉ ex → ∃ sl, h'.get? b = some { o with slots := sl }
 free : ∀ b o, h.get? b = some o → H b = none → b ∉ ex → H' b = none
 there : ∀ b o, h.get? b = some o → b ∉ ex → ∃ o', h'.get? b = some o'
 tups : ∀ b xs, H b = some (.tup xs) → H' b = some (.tup xs)
 frzs : ∀ b o u, H b = some (.frz o u) → H' b = some (.frz o u)
 tbls : ∀ b q p, H b = some (.tbl q p) → H' b = some (.tbl q p)
section
variable {fs fs' ex ex' : List Addr} {H H1 H2 : Hp} {h h1 h2 h' : Heap} {a x e : Addr} {o : HO}
theorem Un.any (u : Un fs ex H H1 h h1) {b : Addr} {ob : Obj} (q : h.get? b = some ob) (n : H b = none) (hx : b ∉ ex) : ∃ sl, h1.get? b = some { ob with slots := sl } := by
 by_cases hb : b ∈ fs
 ·exact u.slot b ob q n hb hx
 ·exact ⟨ob.slots, u.keep b ob q n hb hx⟩
theorem Un.kept (k : ∀ b u, h.get? b = some u → h'.get? b = some u) : Un fs ex H H h h' :=
 ⟨fun b ob q _ _ _ => k b ob q, fun b ob q _ _ _ => ⟨ob.slots, k b ob q⟩, fun _ _ _ n _ => n, fun b ob q _ => ⟨ob, k b ob q⟩, fun _ _ q => q, fun _ _ _ q => q, fun _ _ _ q => q⟩
theorem Un.refl : Un fs ex H H h h := Un.kept fun _ _ q => q
theorem Un.laid (k : ∀ b u, h.get? b = some u → h'.get? b = some u) (hp : h.objs.size ≤ a) (hn : H a = none) : Un fs ex H (upd H a o) h h' where
 keep := fun b u q _ _ _ => k b u q
 slot := fun b u q _ _ _ => ⟨u.slots, k b u q⟩
 free := fun b u q n _ => by rw [upd_ne (Nat.ne_of_lt (Nat.lt_of_lt_of_le (Heap.lt_size q) hp))]; exact n
 there := fun b u q _ => ⟨u, k b u q⟩
 tups := fun b xs q => by rw [upd_ne (ne_of_none q hn)]; exact q
 frzs := fun b u xs q => by rw [upd_ne (ne_of_none q hn)]; exact q
 tbls := fun b q p e => by rw [upd_ne (ne_of_none e hn)]; exact e
theorem Un.write (mu : Mut (H x)) (he : e = x ∨ H e = some (.own x)) (k : ∀ b u, b ≠ e → h.get? b = some u → h'.get? b = some u) (heo : ∃ u, h'.get? e = some u) : Un fs ex H (upd H x o) h h' := by
 have hx : ∀ b, H b = none → b ≠ x := fun b n z => by subst z; rw [n] at mu; exact mu
 have hb : ∀ b, H b = none → b ≠ e := fun b n z => by
  subst z
  rcases he with r | r
  ·exact hx b n r
  ·rw [n] at r; cases r
 have hm : ∀ b u, H b = some u → ¬ Mut (some u) → b ≠ x := fun b u q nm z => by subst z; rw [q] at mu; exact nm mu
 refine ⟨fun b u q n _ _ => k b u (hb b n) q, fun b u q n _ _ => ⟨u.slots, k b u (hb b n) q⟩, fun b u q n _ => by rw [upd_ne (hx b n)]; exact n, fun b u q _ => ?_,
  fun b xs q => by rw [upd_ne (hm b _ q fun z => z)]; exact q, fun b u xs q => by rw [upd_ne (hm b _ q fun z => z)]; exact q, fun b q p e => by rw [upd_ne (hm b _ e fun z => z)]; exact e⟩
 by_cases hbe : b = e
 ·subst hbe; exact heo
 ·exact ⟨u, k b u hbe q⟩
end
def trk (h : Heap) (H : Hp) : List Addr := (List.range h.objs.size).filter fun a => (H a).isSome
def hidT (h : Heap) (H : Hp) : Heap := PySem.W.hideAll h (trk h H)
theorem hidT_size (h : Heap) (H : Hp) : (hidT h H).objs.size = h.objs.size := PySem.W.hideAll_size _ _
theorem hidT_get {h : Heap} {H : Hp} {b : Addr} {o : Obj} (e : h.get? b = some o) (n : H b = none) : (hidT h H).get? b = some o :=
 PySem.W.hideAll_get _ e fun hm => by
  have q : (H b).isSome = true := (List.mem_filter.mp hm).2
  rw [n] at q; simp at q
theorem of_hidT {h : Heap} {H : Hp} {b : Addr} {o : Obj} (e : (hidT h H).get? b = some o) : h.get? b = some o ∧ H b = none := by
 have e' : h.get? b = some o := PySem.W.of_hideAll (trk h H) e
 refine ⟨e', ?_⟩
 cases q : H b with
 | none => rfl
 | some x =>
  have hm : b ∈ trk h H := List.mem_filter.mpr ⟨List.mem_range.mpr (Heap.lt_size e'), by simp [q]⟩
  have z : (hidT h H).get? b = none := PySem.W.hideAll_none (trk h H) hm
  rw [z] at e; cases e
def allNews (g h : Heap) (L : Addr) : List (Addr × Obj) := (List.range h.objs.size).filterMap fun a => if a = L ∨ (g.get? a).isSome = true then none else (h.get? a).map fun o => (a, o)
theorem mem_allNews {g h : Heap} {L a : Addr} {o : Obj} (h1 : a ≠ L) (h2 : g.get? a = none) (h3 : h.get? a = some o) : (a, o) ∈ allNews g h L :=
 List.mem_filterMap.mpr ⟨a, List.mem_range.mpr (Heap.lt_size h3), by simp [h1, h2, h3]⟩
theorem of_mem_allNews {g h : Heap} {L : Addr} {p : Addr × Obj} (hp : p ∈ allNews g h L) : p.1 ≠ L ∧ g.get? p.1 = none ∧ h.get? p.1 = some p.2 := by
 obtain ⟨b, _, e⟩ := List.mem_filterMap.mp hp
 split at e
 ·cases e
 ·rename_i hn
  cases q : h.get? b with
  | none => rw [q] at e; simp at e
  | some u =>
   rw [q] at e
   simp only [Option.map_some, Option.some.injEq] at e
   subst e
   refine ⟨fun z => hn (.inl z), ?_, q⟩
   show g.get? b = none
   cases r : g.get? b with
   | none => rfl
   | some v => exact (hn (.inr (by simp [r]))).elim
theorem news_all {g h : Heap} {L : Addr} : News g L h (allNews g h L) := fun p hp => let ⟨a, b, c⟩ := of_mem_allNews hp; ⟨c, a, b⟩
end L2
namespace L2
open PySem PySem.Spec PyProof.Rows
structure Mod (K : PySem.W.Frag) (mg : Str → Option Value) (base : Heap) : Prop where
 kin : K.In base
 glob : base.Ns mainGlobals mg
 blt : ∃ mb, base.Ns builtinsNs mb ∧ ∀ x : Str, x ≠ "__name__" → mb x = bootBuiltins x
 nolimit : base.NoLimit
 bm : ∃ bm ob, mg "__builtins__" = some (.ref bm) ∧ bm ≠ builtinsNs ∧ base.get? bm = some ob ∧ ob.cls = .type "module" ∧ ob.dict = some builtinsNs ∧ ob.data = .plain
structure Cx where
 prog : Program
 w : World
 K : PySem.W.Frag
 mg : Str → Option Value
 base : Heap
 A : Around
 N : List Str
 s₀ : Shared
 H₀ : Hp
 env : Env
 outer : List Env
 stack : List Env
 ex : List Addr
 fn : Str → Bool
 calm : Bool
 pn : List (Addr × Obj)
 xe : Value → Shared → Prop
def frs (l : List Env) : List Addr := l.filterMap (·.frame)
abbrev Cx.fs (X : Cx) : List Addr := frs X.outer
def Vis (sc : Scope) (x : Str) : Prop := sc.names.lookup x = some .local ∨ sc.names.lookup x = some .cell ∨ sc.names.lookup x = some .free
def Loc (sc : Scope) (x : Str) : Prop := sc.names.lookup x = some .local ∨ sc.names.lookup x = some .cell
def Look (env : Env) (h : Heap) (m : Str → Option Value) (x : Str) (u : Value) : Prop :=
 (env.kindOf x = some .local ∧ m x = some u) ∨ ((env.kindOf x = some .cell ∨ env.kindOf x = some .free) ∧ ∃ c, env.cells.lookup x = some c ∧ h.IsCell c (some u))
structure Cx.Ok (X : Cx) : Prop where
 mod : Mod X.K X.mg X.base
 kind : X.env.scope.kind = .function
 glob : X.env.globals = mainGlobals
 blt : X.env.builtins = builtinsNs
 above : X.s₀.heap.objs.size ≤ X.env.locals
 inj : ∀ x y c, X.env.cells.lookup x = some c → X.env.cells.lookup y = some c → x = y
 has : ∀ x, (X.env.kindOf x = some .cell ∨ X.env.kindOf x = some .free) → ∃ c, X.env.cells.lookup x = some c
 cab : ∀ x c, X.fn x = true → X.env.cells.lookup x = some c → X.s₀.heap.objs.size ≤ c
 hd : X.calm = true → X.A.handled = none
 frames : X.A.frames = some X.stack
 stk : X.stack = X.outer ∨ (X.stack = X.env :: X.outer ∧ X.env.frame = some X.env.locals)
 exf : ∀ b ∈ X.ex, b ≠ X.env.locals ∧ ∀ x c, X.env.cells.lookup x = some c → c ≠ b
 bs : ∀ b o, X.base.get? b = some o → X.s₀.heap.get? b = some o ∧ X.H₀ b = none
 bsz : X.base.objs.size ≤ X.s₀.heap.objs.size
 noex : ∀ b o, X.base.get? b = some o → b ∉ X.ex
 exfs : ∀ b ∈ X.ex, b ∉ X.fs
 funs : X.s₀.heap.FunFrames X.base X.outer
 frf : ∀ b ∈ X.fs, X.H₀ b = none
structure Inv (X : Cx) (pins : List (Addr × Obj)) (σ : List (Option V)) (H : Hp) (s : Shared) : Prop where
 ok : X.Ok
 os : s.os = X.s₀.os
 bare : AllBare s.gens
 base : Un X.fs X.ex X.H₀ H X.s₀.heap s.heap
 loc : ∃ m, s.heap.Ns X.env.locals m ∧ ∀ (i : Nat) (x : Str) (v : V), X.N[i]? = some x → σ[i]? = some (some v) → Vis X.env.scope x → ∃ u, RelV v u ∧ Look X.env s.heap m x u
 cell : ∀ x c, X.env.cells.lookup x = some c → ∃ v, s.heap.IsCell c v
 free : H X.env.locals = none
 freeC : ∀ x c, X.env.cells.lookup x = some c → H c = none
 pin : ∀ p ∈ X.pn ++ pins, s.heap.get? p.1 = some p.2 ∧ H p.1 = none ∧ p.1 ≠ X.env.locals ∧ p.1 ∉ X.fs ∧ ∀ v, p.2.data ≠ .cell v
 hok : HOk X.prog X.w H s.heap
 len : σ.length = X.N.length
section
variable {X : Cx} {pins : List (Addr × Obj)} {σ : List (Option V)} {H H' : Hp} {s : Shared} {h' : Heap}
theorem Cx.Ok.nofr (ok : X.Ok) {b : Addr} {o : Obj} (e : X.base.get? b = some o) : b ∉ X.fs := fun hb => by
 have := (ok.funs.mem hb).1
 rw [e] at this; cases this
theorem Inv.bs (I : Inv X pins σ H s) : ∀ b o, X.base.get? b = some o → s.heap.get? b = some o ∧ H b = none := fun b o e =>
 ⟨I.base.keep b o (I.ok.bs b o e).1 (I.ok.bs b o e).2 (I.ok.nofr e) (I.ok.noex b o e), I.base.free b o (I.ok.bs b o e).1 (I.ok.bs b o e).2 (I.ok.noex b o e)⟩
theorem Inv.bk (I : Inv X pins σ H s) : ∀ b o, X.base.get? b = some o → s.heap.get? b = some o := fun b o e => (I.bs b o e).1
theorem Inv.mod (I : Inv X pins σ H s) : Mod X.K X.mg X.base := I.ok.mod
theorem Inv.kIn (I : Inv X pins σ H s) : X.K.In s.heap := I.ok.mod.kin.keeps I.bk
theorem Inv.lt (I : Inv X pins σ H s) : X.env.locals < s.heap.objs.size := let ⟨_, hn, _⟩ := I.loc; hn.lt
theorem Inv.sz (I : Inv X pins σ H s) : X.s₀.heap.objs.size ≤ s.heap.objs.size := Nat.le_trans I.ok.above (Nat.le_of_lt I.lt)
theorem Inv.nofs (I : Inv X pins σ H s) {a : Addr} (h : s.heap.objs.size ≤ a) : a ∉ X.fs := fun hb => by
 obtain ⟨_, o, ho, _⟩ := I.ok.funs.mem hb
 exact absurd (Nat.lt_of_lt_of_le (Heap.lt_size ho) (Nat.le_trans I.sz h)) (Nat.lt_irrefl _)
theorem Inv.cne (I : Inv X pins σ H s) : ∀ x c, X.env.cells.lookup x = some c → c ≠ X.env.locals := fun x c e z => by
 obtain ⟨v, o, ho, hd⟩ := I.cell x c e
 obtain ⟨m, ⟨o', es, ep, ho', hd', _⟩, _⟩ := I.loc
 rw [z, ho'] at ho; cases ho; rw [hd'] at hd; cases hd
theorem Inv.funs (I : Inv X pins σ H s) : s.heap.FunFrames X.base X.outer := by
 have all : ∀ (l : List Env), (∀ b ∈ frs l, b ∈ X.fs) → X.s₀.heap.FunFrames X.base l → s.heap.FunFrames X.base l := by
  intro l
  induction l with
  | nil => intro _ _; trivial
  | cons env r ih =>
   intro hs hl
   obtain ⟨hk, ⟨L, o, hf, hn, ho, hd⟩, hr⟩ := hl
   have hL : L ∈ X.fs := hs L (by unfold frs; rw [List.filterMap_cons, hf]; exact List.mem_cons_self)
   obtain ⟨sl, e⟩ := I.base.slot L o ho (I.ok.frf L hL) hL fun z => I.ok.exfs L z hL
   exact ⟨hk, ⟨L, _, hf, hn, e, hd⟩, ih (fun b hb => hs b (by unfold frs; rw [List.filterMap_cons, hf]; exact List.mem_cons_of_mem _ hb)) hr⟩
 exact all X.outer (fun _ hb => hb) I.ok.funs
theorem Inv.stack (I : Inv X pins σ H s) : s.heap.FunFrames X.base X.stack := by
 rcases I.ok.stk with e | ⟨e, hf⟩
 ·rw [e]; exact I.funs
 ·rw [e]
  obtain ⟨m, hn, _⟩ := I.loc
  refine .cons (by rw [I.ok.kind]; decide) hf hn ?_ I.funs
  exact Heap.get?_none_of_le (Nat.le_trans I.ok.bsz I.ok.above)
theorem Inv.stkSub (I : Inv X pins σ H s) : ∀ b ∈ frs X.stack, b ∈ X.env.locals :: X.fs := fun b hb => by
 rcases I.ok.stk with e | ⟨e, hf⟩
 ·rw [e] at hb; exact List.mem_cons_of_mem _ hb
 ·rw [e] at hb
  unfold frs at hb
  rw [List.filterMap_cons, hf] at hb
  exact hb
theorem Inv.stkFree (I : Inv X pins σ H s) : ∀ b ∈ frs X.stack, H b = none := fun b hb => by
 rcases List.mem_cons.mp (I.stkSub b hb) with e | hb
 ·rw [e]; exact I.free
 ·obtain ⟨_, o, ho, _⟩ := I.ok.funs.mem hb
  exact I.base.free b o ho (I.ok.frf b hb) fun z => I.ok.exfs b z hb
theorem Inv.step {g' : Array GenState} {t' : Nat} {d' : Drawn} {ch : List Addr} (I : Inv X pins σ H s)
 (hch : ∀ b ∈ ch, (b ∈ X.ex ∨ X.s₀.heap.objs.size ≤ b) ∧ b ≠ X.env.locals ∧ (∀ x c, X.env.cells.lookup x = some c → c ≠ b) ∧ ∀ p ∈ X.pn ++ pins, p.1 ≠ b)
 (keep : ∀ b o, b ≠ X.env.locals → b ∉ X.fs → b ∉ ch → s.heap.get? b = some o → H b = none → h'.get? b = some o)
 (slot : ∀ b o, b ≠ X.env.locals → b ∈ X.fs → b ∉ ch → s.heap.get? b = some o → H b = none → ∃ sl, h'.get? b = some { o with slots := sl }) (free : ∀ b o, b ∉ ch → s.heap.get? b = some o → H b = none → H' b = none)
 (there : ∀ b o, b ∉ ch → s.heap.get? b = some o → ∃ o', h'.get? b = some o')
 (tups : ∀ b xs, H b = some (.tup xs) → H' b = some (.tup xs)) (frzs : ∀ b o u, H b = some (.frz o u) → H' b = some (.frz o u)) (tbls : ∀ b q p, H b = some (.tbl q p) → H' b = some (.tbl q p))
 (ns : ∀ m, s.heap.Ns X.env.locals m → h'.Ns X.env.locals m) (hok : HOk X.prog X.w H' h') (hg : AllBare g') :
 Inv X pins σ H' { s with heap := h', gens := g', drawn := d', toks := t' } := by
 have neL : ∀ b o, X.s₀.heap.get? b = some o → b ≠ X.env.locals := fun b o e => Nat.ne_of_lt (Nat.lt_of_lt_of_le (Heap.lt_size e) I.ok.above)
 have neC : ∀ b o, X.s₀.heap.get? b = some o → b ∉ X.ex → b ∉ ch := fun b o e hx hb => by
  rcases (hch b hb).1 with z | z
  ·exact hx z
  ·exact absurd (Nat.lt_of_lt_of_le (Heap.lt_size e) z) (Nat.lt_irrefl _)
 have cellK : ∀ x c, X.env.cells.lookup x = some c → ∀ v, s.heap.IsCell c v → h'.IsCell c v := fun x c e v ⟨o, ho, hd⟩ => by
  have nch : c ∉ ch := fun z => (hch c z).2.2.1 x c e rfl
  by_cases hc : c ∈ X.fs
  ·obtain ⟨sl, q⟩ := slot c o (I.cne x c e) hc nch ho (I.freeC x c e)
   exact ⟨_, q, hd⟩
  ·exact ⟨o, keep c o (I.cne x c e) hc nch ho (I.freeC x c e), hd⟩
 refine ⟨I.ok, I.os, hg, ⟨fun b o e n hb hx => ?_, fun b o e n hb hx => ?_, fun b o e n hx => ?_, fun b o e hx => ?_, fun b xs e => tups b xs (I.base.tups b xs e), fun b o xs e => frzs b o xs (I.base.frzs b o xs e), fun b q p e => tbls b q p (I.base.tbls b q p e)⟩, ?_, fun x c e => ?_, ?_, fun x c e => ?_, fun p hp => ?_, hok, I.len⟩
 ·exact keep b o (neL b o e) hb (neC b o e hx) (I.base.keep b o e n hb hx) (I.base.free b o e n hx)
 ·obtain ⟨sl, e1⟩ := I.base.slot b o e n hb hx
  obtain ⟨sl', e2⟩ := slot b _ (neL b o e) hb (neC b o e hx) e1 (I.base.free b o e n hx)
  exact ⟨sl', e2⟩
 ·obtain ⟨o', e1⟩ := I.base.there b o e hx
  exact free b o' (neC b o e hx) e1 (I.base.free b o e n hx)
 ·obtain ⟨o', e1⟩ := I.base.there b o e hx
  exact there b o' (neC b o e hx) e1
 ·obtain ⟨m, hn, hl⟩ := I.loc
  refine ⟨m, ns m hn, fun i x v e1 e2 e3 => ?_⟩
  obtain ⟨u, r, l⟩ := hl i x v e1 e2 e3
  refine ⟨u, r, ?_⟩
  rcases l with l | ⟨k, c, e, z⟩
  ·exact .inl l
  ·exact .inr ⟨k, c, e, cellK x c e _ z⟩
 ·obtain ⟨v, z⟩ := I.cell x c e
  exact ⟨v, cellK x c e v z⟩
 ·obtain ⟨m, ⟨o, _, _, ho, _⟩, _⟩ := I.loc
  exact free _ o (fun z => (hch _ z).2.1 rfl) ho I.free
 ·obtain ⟨v, o, ho, hd⟩ := I.cell x c e
  exact free c o (fun z => (hch c z).2.2.1 x c e rfl) ho (I.freeC x c e)
 ·obtain ⟨e, n, ne, nf, d⟩ := I.pin p hp
  have nch : p.1 ∉ ch := fun z => (hch p.1 z).2.2.2 p hp rfl
  exact ⟨keep p.1 p.2 ne nf nch e n, free p.1 p.2 nch e n, ne, nf, d⟩
theorem Inv.un {t' : Nat} (I : Inv X pins σ H s) (u : Un X.fs [] H H' s.heap h') (hok : HOk X.prog X.w H' h') : Inv X pins σ H' { s with heap := h', toks := t' } := by
 obtain ⟨m, ⟨o, es, ep, ho, r⟩, _⟩ := id I.loc
 obtain ⟨sl, hL⟩ := u.any ho I.free (by simp)
 exact I.step (g' := s.gens) (d' := s.drawn) (ch := []) (fun _ z => nomatch z) (fun b o _ hb _ e n => u.keep b o e n hb (by simp)) (fun b o _ hb _ e n => u.slot b o e n hb (by simp)) (fun b o _ e n => u.free b o e n (by simp)) (fun b o _ e => u.there b o e (by simp)) u.tups u.frzs u.tbls (fun m' hm => by
  obtain ⟨o', es', ep', ho', r'⟩ := hm
  rw [ho] at ho'; cases ho'
  exact ⟨_, es', ep', hL, r'⟩) hok I.bare
theorem Inv.call {g' : Array GenState} {t' : Nat} {d' : Drawn} {ch : List Addr} (I : Inv X pins σ H s) (u : Un (frs X.stack) ch H H' s.heap h') (hok : HOk X.prog X.w H' h') (hg : AllBare g')
 (hch : ∀ b ∈ ch, (b ∈ X.ex ∨ X.s₀.heap.objs.size ≤ b) ∧ b ≠ X.env.locals ∧ (∀ x c, X.env.cells.lookup x = some c → c ≠ b) ∧ ∀ p ∈ X.pn ++ pins, p.1 ≠ b) :
 Inv X pins σ H' { s with heap := h', gens := g', drawn := d', toks := t' } := by
 obtain ⟨m, ⟨o, es, ep, ho, r⟩, _⟩ := id I.loc
 obtain ⟨sl, hL⟩ := u.any ho I.free fun z => (hch _ z).2.1 rfl
 exact I.step (ch := ch) hch (fun b o hL hb hc e n => u.keep b o e n (fun z => (List.mem_cons.mp (I.stkSub b z)).elim hL hb) hc) (fun b o _ _ hc e n => u.any e n hc) (fun b o hc e n => u.free b o e n hc) (fun b o hc e => u.there b o e hc) u.tups u.frzs u.tbls (fun m' hm => by
  obtain ⟨o', es', ep', ho', r'⟩ := hm
  rw [ho] at ho'; cases ho'
  exact ⟨_, es', ep', hL, r'⟩) hok hg
theorem Inv.turned {t' : Nat} {it : Addr} (I : Inv X pins σ H s) (k : ∀ b o, b ≠ it → s.heap.get? b = some o → h'.get? b = some o) (hn : H it = none) (hL : it ≠ X.env.locals)
 (h1 : it ∈ X.ex ∨ X.s₀.heap.objs.size ≤ it) (h2 : ∀ x c, X.env.cells.lookup x = some c → c ≠ it) (h3 : ∀ p ∈ X.pn ++ pins, p.1 ≠ it) : Inv X pins σ H { s with heap := h', toks := t' } := by
 have nit : ∀ b u, H b = some u → b ≠ it := fun b u e z => by rw [z, hn] at e; cases e
 refine I.step (g' := s.gens) (d' := s.drawn) (ch := [it]) (fun b hb => ?_) (fun b o _ _ hc e _ => k b o (fun z => hc (by simp [z])) e) (fun b o _ _ hc e _ => ⟨o.slots, k b o (fun z => hc (by simp [z])) e⟩) (fun _ _ _ _ n => n)
  (fun b o hc e => ⟨o, k b o (fun z => hc (by simp [z])) e⟩) (fun _ _ e => e) (fun _ _ _ e => e) (fun _ _ _ e => e) (fun m hm => ?_) (fun b u e => ?_) I.bare
 ·have e : b = it := by simpa using hb
  subst e
  exact ⟨h1, hL, h2, h3⟩
 ·obtain ⟨o, es, ep, ho, r⟩ := hm
  exact ⟨o, es, ep, k _ o (Ne.symm hL) ho, r⟩
 ·refine (I.hok b u e).stay (fun c v hc q => k c v ?_ q) (fun _ q => q) fun _ _ q => q
  rcases hc with z | z
  ·rw [z]; exact nit b u e
  ·exact nit c _ z
theorem Inv.tok (I : Inv X pins σ H s) (t : Nat) : Inv X pins σ H { s with toks := t } := I.un (h' := s.heap) (t' := t) Un.refl I.hok
theorem Inv.kept {t' : Nat} (I : Inv X pins σ H s) (k : ∀ b u, s.heap.get? b = some u → h'.get? b = some u) : Inv X pins σ H { s with heap := h', toks := t' } := I.un (Un.kept k) (I.hok.kept k)
theorem Inv.laid {a : Addr} {o : HO} {t' : Nat} (I : Inv X pins σ H s) (k : ∀ b u, s.heap.get? b = some u → h'.get? b = some u) (hp : s.heap.objs.size ≤ a) (new : ObjOk X.prog X.w (upd H a o) h' a o) :
 Inv X pins σ (upd H a o) { s with heap := h', toks := t' } := I.un (Un.laid k hp (I.hok.fresh hp)) (I.hok.laid k hp new)
theorem Inv.write {x e : Addr} {o : HO} {t' : Nat} (I : Inv X pins σ H s) (mu : Mut (H x)) (he : e = x ∨ H e = some (.own x)) (k : ∀ b u, b ≠ e → s.heap.get? b = some u → h'.get? b = some u) (heo : ∃ u, h'.get? e = some u)
 (new : ObjOk X.prog X.w (upd H x o) h' x o) : Inv X pins σ (upd H x o) { s with heap := h', toks := t' } := I.un (Un.write mu he k heo) (I.hok.write mu he k heo new)
theorem Inv.pins_of {pins' : List (Addr × Obj)} (I : Inv X pins σ H s) (h : ∀ p ∈ pins', s.heap.get? p.1 = some p.2 ∧ H p.1 = none ∧ p.1 ≠ X.env.locals ∧ p.1 ∉ X.fs ∧ ∀ v, p.2.data ≠ .cell v) : Inv X pins' σ H s :=
 ⟨I.ok, I.os, I.bare, I.base, I.loc, I.cell, I.free, I.freeC, fun p hp => (List.mem_append.mp hp).elim (fun z => I.pin p (List.mem_append_left _ z)) (h p), I.hok, I.len⟩
theorem nodup_ix {N : List Str} (hN : N.Nodup) {i j : Nat} {x : Str} (a : N[i]? = some x) (b : N[j]? = some x) : i = j := by
 obtain ⟨h1, e1⟩ := List.getElem?_eq_some_iff.mp a
 obtain ⟨h2, e2⟩ := List.getElem?_eq_some_iff.mp b
 exact (List.getElem_inj hN).mp (e1.trans e2.symm)
theorem store_ok2 {M : Model} {A : Around} {E : Value → Shared → Prop} {i : Nat} {x : Str} {v : V} {u : Value} {Q : Unit → Shared → Prop} (I : Inv X pins σ H s) (hN : X.N.Nodup) (hi : X.N[i]? = some x) (hx : Loc X.env.scope x) (r : RelV v u)
 (h : ∀ s', Inv X pins (σ.set i (some v)) H s' → (∃ a, Heap.SameBut a s.heap s'.heap ∧ (a = X.env.locals ∨ X.env.cells.lookup x = some a)) → Q () s') (hf : X.fn x = true ∨ X.env.scope.names.lookup x = some .local := by first | exact .inl rfl | exact .inr rfl | assumption) : wpAny M A (storeName X.env x u) Q E s := by
 obtain ⟨m, hn, hl⟩ := id I.loc
 have hcls : (X.env.scope.kind == .class || (X.env.scope.kind == .module && X.env.locals != X.env.globals)) = false := by rw [I.ok.kind]; rfl
 have hiσ : i < σ.length := by rw [I.len]; exact (List.getElem?_eq_some_iff.mp hi).1
 have cne := I.cne
 have tracked : ∀ {a : Addr} {h' : Heap}, (∃ o, s.heap.get? a = some o ∧ H a = none) → Heap.SameBut a s.heap h' → HOk X.prog X.w H h' := fun {a h'} ha hs b ob e => by
  obtain ⟨_, _, hfree⟩ := ha
  refine (I.hok b ob e).stay (fun c w' hc q => (hs.2 c ?_).trans q) (fun _ q => q) fun _ _ q => q
  rintro rfl
  rcases hc with rfl | hc
  ·rw [hfree] at e; cases e
  ·rw [hfree] at hc; cases hc
 rcases hx with hk | hk
 ·refine wpAny_storeName_local hk hn (fun h' hn' hs => ?_) hcls
  obtain ⟨oL, _, _, hoL, _⟩ := id hn
  refine h _ ⟨I.ok, I.os, I.bare, ⟨fun b o e n hb hx => ?_, fun b o e n hb hx => ?_, I.base.free, fun b o e hx => ?_, I.base.tups, I.base.frzs, I.base.tbls⟩, ⟨_, hn', fun j y v' e1 e2 e3 => ?_⟩, fun y c e => ?_, I.free, I.freeC, fun p hp => ?_, tracked ⟨oL, hoL, I.free⟩ hs, by simpa using I.len⟩ ⟨_, hs, .inl rfl⟩
  ·exact (hs.2 b (Nat.ne_of_lt (Nat.lt_of_lt_of_le (Heap.lt_size e) I.ok.above))).trans (I.base.keep b o e n hb hx)
  ·obtain ⟨sl, e1⟩ := I.base.slot b o e n hb hx
   exact ⟨sl, (hs.2 b (Nat.ne_of_lt (Nat.lt_of_lt_of_le (Heap.lt_size e) I.ok.above))).trans e1⟩
  ·obtain ⟨o', e1⟩ := I.base.there b o e hx
   exact ⟨o', (hs.2 b (Nat.ne_of_lt (Nat.lt_of_lt_of_le (Heap.lt_size e) I.ok.above))).trans e1⟩
  ·by_cases hj : j = i
   ·subst hj
    rw [hi] at e1; cases e1
    rw [List.getElem?_set_self hiσ] at e2
    cases e2
    exact ⟨u, r, .inl ⟨hk, by simp⟩⟩
   ·rw [List.getElem?_set_ne (Ne.symm hj)] at e2
    obtain ⟨u', r', q⟩ := hl j y v' e1 e2 e3
    refine ⟨u', r', ?_⟩
    rcases q with ⟨k, e⟩ | ⟨k, c, e, z⟩
    ·refine .inl ⟨k, ?_⟩
     have : y ≠ x := fun e => hj (nodup_ix hN e1 (e ▸ hi))
     simp [this, e]
    ·exact .inr ⟨k, c, e, z.sameBut hs (cne y c e)⟩
  ·obtain ⟨w', z⟩ := I.cell y c e
   exact ⟨w', z.sameBut hs (cne y c e)⟩
  ·obtain ⟨e, n, ne, nf, d⟩ := I.pin p hp
   exact ⟨(hs.2 p.1 ne).trans e, n, ne, nf, d⟩
 ·have hfn : X.fn x = true := by
   rcases hf with z | z
   ·exact z
   ·rw [z] at hk; cases hk
  obtain ⟨c, hc⟩ := I.ok.has x (.inl hk)
  obtain ⟨w', z⟩ := I.cell x c hc
  refine wpAny_storeName_cell I.ok.kind hk hc z (fun h' hc' hs => ?_)
  obtain ⟨oc, hoc, hocd⟩ := id z
  refine h { s with heap := h' } ⟨I.ok, I.os, I.bare, ⟨fun b o e n hb hx => ?_, fun b o e n hb hx => ?_, I.base.free, fun b o e hx => ?_, I.base.tups, I.base.frzs, I.base.tbls⟩, ⟨m, hn.sameBut hs (Ne.symm (cne x c hc)), fun j y v' e1 e2 e3 => ?_⟩, fun y c' e => ?_, I.free, I.freeC, fun p hp => ?_, tracked ⟨oc, hoc, I.freeC x c hc⟩ hs, by simpa using I.len⟩ ⟨c, hs, .inr hc⟩
  ·exact (hs.2 b (Nat.ne_of_lt (Nat.lt_of_lt_of_le (Heap.lt_size e) (I.ok.cab x c hfn hc)))).trans (I.base.keep b o e n hb hx)
  ·obtain ⟨sl, e1⟩ := I.base.slot b o e n hb hx
   exact ⟨sl, (hs.2 b (Nat.ne_of_lt (Nat.lt_of_lt_of_le (Heap.lt_size e) (I.ok.cab x c hfn hc)))).trans e1⟩
  ·obtain ⟨o', e1⟩ := I.base.there b o e hx
   exact ⟨o', (hs.2 b (Nat.ne_of_lt (Nat.lt_of_lt_of_le (Heap.lt_size e) (I.ok.cab x c hfn hc)))).trans e1⟩
  ·by_cases hj : j = i
   ·subst hj
    rw [hi] at e1; cases e1
    rw [List.getElem?_set_self hiσ] at e2
    cases e2
    exact ⟨u, r, .inr ⟨.inl hk, c, hc, hc'⟩⟩
   ·rw [List.getElem?_set_ne (Ne.symm hj)] at e2
    obtain ⟨u', r', q⟩ := hl j y v' e1 e2 e3
    refine ⟨u', r', ?_⟩
    rcases q with q | ⟨k, c', e, z'⟩
    ·exact .inl q
    ·refine .inr ⟨k, c', e, z'.sameBut hs ?_⟩
     rintro rfl
     exact hj (nodup_ix hN e1 (I.ok.inj _ _ _ e hc ▸ hi))
  ·by_cases hcc : c' = c
   ·subst hcc; exact ⟨_, hc'⟩
   ·obtain ⟨w2, z2⟩ := I.cell y c' e
    exact ⟨w2, z2.sameBut hs hcc⟩
  ·obtain ⟨e, n, ne, nf, d⟩ := I.pin p hp
   refine ⟨(hs.2 p.1 ?_).trans e, n, ne, nf, d⟩
   intro q
   rw [q, hoc] at e
   have q' : oc = p.2 := Option.some.inj e
   exact d w' (by rw [← q']; exact hocd)
theorem store_ok {M : Model} {A : Around} {E : Value → Shared → Prop} {i : Nat} {x : Str} {v : V} {u : Value} {Q : Unit → Shared → Prop} (I : Inv X pins σ H s) (hN : X.N.Nodup) (hi : X.N[i]? = some x) (hx : Loc X.env.scope x) (r : RelV v u)
 (h : ∀ s', Inv X pins (σ.set i (some v)) H s' → Q () s') (hf : X.fn x = true ∨ X.env.scope.names.lookup x = some .local := by first | exact .inl rfl | exact .inr rfl | assumption) : wpAny M A (storeName X.env x u) Q E s :=
 store_ok2 I hN hi hx r (fun s' I' _ => h s' I') hf
end
abbrev XK := Value → Option Addr → Hp → Prop
abbrev St := List (Option V)
abbrev VK := V → Hp → Prop
abbrev TE := St → Hp → VK → Prop
abbrev TT := St → Hp → (Bool → Hp → Prop) → Prop
abbrev TA := St → Hp → (List V → Hp → Prop) → Prop
structure Ends where
 nx : St → Hp → Prop
 rt : VK
 bk : St → Hp → Prop := fun _ _ => False
 ct : St → Hp → Prop := fun _ _ => False
abbrev TS := Ends → St → Hp → Prop
def EP (X : Cx) (pins : List (Addr × Obj)) (σ : St) (Q : VK) (u : Value) (s' : Shared) : Prop := ∃ v H', Inv X pins σ H' s' ∧ RelV v u ∧ Q v H'
def TP (X : Cx) (pins : List (Addr × Obj)) (σ : St) (Q : Bool → Hp → Prop) (b : Bool) (s' : Shared) : Prop := ∃ H', Inv X pins σ H' s' ∧ Q b H'
def AP (X : Cx) (pins : List (Addr × Obj)) (σ : St) (Q : List V → Hp → Prop) (us : List Value) (s' : Shared) : Prop := ∃ vs H', Inv X pins σ H' s' ∧ Vals vs us ∧ Q vs H'
def SP (X : Cx) (pins : List (Addr × Obj)) (D : Ends) (f : Flow) (s' : Shared) : Prop :=
 match f with
 | .next => ∃ σ' H', Inv X pins σ' H' s' ∧ D.nx σ' H'
 | .brk => ∃ σ' H', Inv X pins σ' H' s' ∧ D.bk σ' H'
 | .cont => ∃ σ' H', Inv X pins σ' H' s' ∧ D.ct σ' H'
 | .ret u => ∃ v σ' H', Inv X pins σ' H' s' ∧ RelV v u ∧ D.rt v H'
def PE (X : Cx) (e : Expr) (t : TE) : Prop :=
 ∀ (pins : List (Addr × Obj)) (s : Shared) (σ : St) (H : Hp) (Q : VK), Inv X pins σ H s → t σ H Q → wpAny (model X.prog X.w) X.A (eval e X.env) (EP X pins σ Q) X.xe s
def PT (X : Cx) (e : Expr) (t : TT) : Prop :=
 ∀ (pins : List (Addr × Obj)) (s : Shared) (σ : St) (H : Hp) (Q : Bool → Hp → Prop), Inv X pins σ H s → t σ H Q → wpAny (model X.prog X.w) X.A (isTrue e X.env (eval e X.env)) (TP X pins σ Q) X.xe s
def PW (X : Cx) (e : Expr) (t : TT) : Prop :=
 ∀ (whole : Sem Value) (pins : List (Addr × Obj)) (s : Shared) (σ : St) (H : Hp) (Q : Bool → Hp → Prop), Inv X pins σ H s → t σ H Q → wpAny (model X.prog X.w) X.A (isTrue e X.env whole) (TP X pins σ Q) X.xe s
theorem PW.pt {X : Cx} {e : Expr} {t : TT} (h : PW X e t) : PT X e t := h _
def PA (X : Cx) (es : List Expr) (t : TA) : Prop :=
 ∀ (pos : Pos) (pins : List (Addr × Obj)) (s : Shared) (σ : St) (H : Hp) (Q : List V → Hp → Prop), Inv X pins σ H s → t σ H Q → wpAny (model X.prog X.w) X.A (spliced (backTo pos (starEach es X.env))) (AP X pins σ Q) X.xe s
def PS (X : Cx) (st : Stmt) (t : TS) : Prop :=
 ∀ (pins : List (Addr × Obj)) (s : Shared) (σ : St) (H : Hp) (D : Ends), Inv X pins σ H s → t D σ H → wpAny (model X.prog X.w) X.A (exec st X.env) (SP X pins D) X.xe s
def PSs (X : Cx) (st : List Stmt) (t : TS) : Prop :=
 ∀ (pins : List (Addr × Obj)) (s : Shared) (σ : St) (H : Hp) (D : Ends), Inv X pins σ H s → t D σ H → wpAny (model X.prog X.w) X.A (execs st X.env) (SP X pins D) X.xe s
theorem thn {α : Type} {t : Sem α} {Q Q' : α → Shared → Prop} {M : Model} {A : Around} {E : Value → Shared → Prop} {s : Shared} (h : wpAny M A t Q E s) (hQ : ∀ a s, Q a s → Q' a s) : wpAny M A t Q' E s := wpAny_mono h hQ fun _ _ x => x
end L2
namespace L2
open PySem PySem.Spec PyProof.Rows
section
variable {X : Cx}
def tVar (i : Nat) : TE := fun σ H Q => ∃ v, σ[i]? = some (some v) ∧ Q v H
def tC (v : V) : TE := fun _ H Q => Q v H
theorem pe_var {i : Nat} {x : Str} {pos : Pos} (hN : X.N[i]? = some x) (hv : Vis X.env.scope x) (hd : (x == ("__debug__" : Str)) = false := by decide) (hcd : (x == ("__classdict__" : Str)) = false := by decide) : PE X (.Name x pos) (tVar i) := by
 intro pins s σ H Q I h
 obtain ⟨v, e, h⟩ := h
 obtain ⟨m, hn, hl⟩ := I.loc
 obtain ⟨u, r, l⟩ := hl i x v hN e hv
 have fin : EP X pins σ Q u s := ⟨v, H, I, r, h⟩
 rcases l with ⟨hk, hm⟩ | ⟨hk, c, hc, hcell⟩
 ·exact wpAny_Name (wpAny_loadName_local I.ok.kind hk hn hm fin) hd
 ·rcases hk with hk | hk
  ·exact wpAny_Name (wpAny_loadName_cell I.ok.kind hk hc hcell fin) hd
  ·exact wpAny_Name (wpAny_loadName_free I.ok.kind hk hc hcell fin hcd) hd
theorem pe_int {i j pos} : PE X (.Constant (.int i) j pos) (tC (.int i)) := fun _ _ _ H _ I h => wpAny_Constant_int ⟨.int i, H, I.tok _, ⟨_, rfl⟩, h⟩
theorem pe_bl {b j pos} : PE X (.Constant (.bool b) j pos) (tC (.bl b)) := fun _ _ _ H _ I h => Constant_bool ⟨.bl b, H, I, rfl, h⟩
theorem pe_non {j pos} : PE X (.Constant .none j pos) (tC .non) := fun _ _ _ H _ I h => Constant_none ⟨.non, H, I, rfl, h⟩
theorem pe_str {x j pos} : PE X (.Constant (.str x) j pos) (tC (.str x)) := fun _ _ _ H _ I h => Calls.Constant_str ⟨.str x, H, I.tok _, ⟨_, rfl⟩, h⟩
def Gl (X : Cx) (x : Str) : Prop := X.env.kindOf x = some .globalImplicit
theorem ld_glob {E : Value → Shared → Prop} {pins : List (Addr × Obj)} {s : Shared} {σ : St} {H : Hp} {x : Str} {u : Value} {pos : Pos} {Q : Value → Shared → Prop} (I : Inv X pins σ H s) (hg : Gl X x) (hm : X.mg x = some u) (h : Q u s)
 (hd : (x == ("__debug__" : Str)) = false := by decide) : wpAny (model X.prog X.w) X.A (eval (.Name x pos) X.env) Q E s :=
 Calls.Name_function_global I.ok.kind hg (Calls.loadGlobal_global (by rw [I.ok.glob]; exact I.mod.glob.keeps I.bk) hm h) hd
theorem ld_blt {E : Value → Shared → Prop} {pins : List (Addr × Obj)} {s : Shared} {σ : St} {H : Hp} {x : Str} {u : Value} {pos : Pos} {Q : Value → Shared → Prop} (I : Inv X pins σ H s) (hg : Gl X x) (hm : X.mg x = none) (hv : bootBuiltins x = some u) (h : Q u s)
 (hn : x ≠ "__name__" := by decide) (hd : (x == ("__debug__" : Str)) = false := by decide) : wpAny (model X.prog X.w) X.A (eval (.Name x pos) X.env) Q E s := by
 obtain ⟨mb, h1, h2⟩ := I.mod.blt
 exact Calls.Name_function_global I.ok.kind hg (Calls.loadGlobal_builtin (by rw [I.ok.glob]; exact I.mod.glob.keeps I.bk) hm (by rw [I.ok.blt]; exact h1.keeps I.bk) ((h2 x hn).trans hv) h) hd
theorem pe_glob {x : Str} {v : V} {u : Value} {pos : Pos} (hg : Gl X x) (hm : X.mg x = some u) (r : RelV v u) (hd : (x == ("__debug__" : Str)) = false := by decide) : PE X (.Name x pos) (tC v) :=
 fun _ _ _ H _ I h => ld_glob I hg hm ⟨v, H, I, r, h⟩ hd
theorem pe_bltn {x : Str} {v : V} {u : Value} {pos : Pos} (hg : Gl X x) (hm : X.mg x = none) (hv : bootBuiltins x = some u) (r : RelV v u) (hn : x ≠ "__name__" := by decide) (hd : (x == ("__debug__" : Str)) = false := by decide) : PE X (.Name x pos) (tC v) :=
 fun _ _ _ H _ I h => ld_blt I hg hm hv ⟨v, H, I, r, h⟩ hn hd
variable {a b : Expr} {ta tb : TE} {pos : Pos}
def PC (X : Cx) (op : CmpOp) (a b : Expr) (t : TE) : Prop :=
 ∀ (pins : List (Addr × Obj)) (s : Shared) (σ : St) (H : Hp) (Q : VK), Inv X pins σ H s → t σ H Q →
  wpAny (model X.prog X.w) X.A (eval a X.env) (fun v s₁ => wpAny (model X.prog X.w) X.A (eval b X.env) (fun u s₂ => wpAny (model X.prog X.w) X.A (compareOp op v u) (EP X pins σ Q) X.xe s₂) X.xe s₁) X.xe s
theorem nobehind (b : Expr) {op : CmpOp} (h : op ≠ .In) (h2 : op ≠ .NotIn) : behindInMarks op b = false := by
 have e1 : (op == CmpOp.In) = false := by cases op <;> first | rfl | exact absurd rfl h
 have e2 : (op == CmpOp.NotIn) = false := by cases op <;> first | rfl | exact absurd rfl h2
 cases b <;> simp [behindInMarks, e1, e2]
def tIsN (ta : TE) : TE := fun σ H Q => ta σ H fun x H1 => Q (.bl (decide (x = .non))) H1
def tNotN (ta : TE) : TE := fun σ H Q => ta σ H fun x H1 => Q (.bl (!decide (x = .non))) H1
theorem RelV.none_iff {x : V} {v : Value} (r : RelV x v) : (v == Value.none) = decide (x = .non) := by
 cases x with
 | non => cases r; rfl
 | bl _ => cases r; rfl
 | int _ => obtain ⟨t, rfl⟩ := r; rfl
 | str _ => obtain ⟨t, rfl⟩ := r; rfl
 | byt _ => obtain ⟨t, rfl⟩ := r; rfl
 | flt _ => obtain ⟨t, rfl⟩ := r; rfl
 | ref _ => cases r; rfl
 | ty _ => cases r; rfl
theorem pc_isN {j pos'} (ha : PE X a ta) : PC X .Is a (.Constant .none j pos') (tIsN ta) := by
 intro pins s σ H Q I h
 refine thn (ha pins s σ H _ I h) fun v s1 ⟨x, H1, I1, r1, q1⟩ => ?_
 exact Constant_none (is_none_gen ⟨.bl _, H1, I1, by rw [r1.none_iff]; rfl, q1⟩)
theorem pc_notN {j pos'} (ha : PE X a ta) : PC X .IsNot a (.Constant .none j pos') (tNotN ta) := by
 intro pins s σ H Q I h
 refine thn (ha pins s σ H _ I h) fun v s1 ⟨x, H1, I1, r1, q1⟩ => ?_
 exact Constant_none (isnot_none_gen ⟨.bl _, H1, I1, by rw [r1.none_iff]; rfl, q1⟩)
def tB (t : TE) : TT := fun σ H Q => t σ H fun x H1 => ∃ c, x = .bl c ∧ Q c H1
theorem pt_cmp {op : CmpOp} {t : TE} (h : PC X op a b t) (h1 : behindInMarks op b = false := by first | exact nobehind _ (by decide) (by decide) | rfl) : PT X (.Compare a [op] [b] pos) (tB t) := by
 intro pins s σ H Q I hw
 refine wpAny_isTrue_Compare1 (thn (h pins s σ H _ I hw) fun v s1 h1 => thn h1 fun u s2 h2 => thn h2 fun c s3 ⟨x, H1, I1, r1, q1⟩ => ?_) h1
 obtain ⟨d, rfl, q⟩ := q1
 cases r1
 exact wpAny_truthy_bool ⟨H1, I1, q⟩
theorem pt_val {e : Expr} {t : TE} (h : PE X e t) (he : ∀ whole, isTrue e X.env whole = (do let v ← whole; standAt e.pos; holding [v] (truthy v)) := by intro _; rfl) : PT X e (tB t) := by
 intro pins s σ H Q I hw
 refine isTrue_plain (thn (h pins s σ H _ I hw) fun v s1 ⟨x, H1, I1, r1, q1⟩ => ?_) (he _)
 obtain ⟨d, rfl, q⟩ := q1
 cases r1
 exact wpAny_truthy_bool ⟨H1, I1, q⟩
variable {tA tB' : TT} {rest : List Expr}
def tAnd (t u : TT) : TT := fun σ H Q => t σ H fun c H1 => if c = true then u σ H1 Q else Q false H1
def tOr (t u : TT) : TT := fun σ H Q => t σ H fun c H1 => if c = true then Q true H1 else u σ H1 Q
def tNot (t : TT) : TT := fun σ H Q => t σ H fun c H1 => Q (!c) H1
theorem pw_and1 (ha : PT X a tA) : PW X (.BoolOp .And [a] pos) tA := by
 intro wh pins s σ H Q I h
 refine isTrue_and (thn (ha pins s σ H Q I h) fun c s1 e => ?_)
 cases c with
 | true => exact isTrue_and_nil e
 | false => exact e
theorem pw_or1 (ha : PT X a tA) : PW X (.BoolOp .Or [a] pos) tA := by
 intro wh pins s σ H Q I h
 refine isTrue_or (thn (ha pins s σ H Q I h) fun c s1 e => ?_)
 cases c with
 | false => exact isTrue_or_nil e
 | true => exact e
theorem pw_and (ha : PT X a tA) (hb : PW X (.BoolOp .And (b :: rest) pos) tB') : PW X (.BoolOp .And (a :: b :: rest) pos) (tAnd tA tB') := by
 intro wh pins s σ H Q I h
 refine isTrue_and (thn (ha pins s σ H _ I h) fun c s1 ⟨H1, I1, q1⟩ => ?_)
 cases c with
 | true => exact hb wh pins s1 σ H1 Q I1 q1
 | false => exact ⟨H1, I1, q1⟩
theorem pw_or (ha : PT X a tA) (hb : PW X (.BoolOp .Or (b :: rest) pos) tB') : PW X (.BoolOp .Or (a :: b :: rest) pos) (tOr tA tB') := by
 intro wh pins s σ H Q I h
 refine isTrue_or (thn (ha pins s σ H _ I h) fun c s1 ⟨H1, I1, q1⟩ => ?_)
 cases c with
 | true => exact ⟨H1, I1, q1⟩
 | false => exact hb wh pins s1 σ H1 Q I1 q1
theorem pt_not (ha : PT X a tA) : PT X (.UnaryOp .Not a pos) (tNot tA) := by
 intro pins s σ H Q I h
 exact isTrue_not (ha pins s σ H (fun c H1 => Q (!c) H1) I h)
def tAndV (ta tb : TE) : TE := fun σ H Q => ta σ H fun x H1 => ∃ c, x = .bl c ∧ if c = true then tb σ H1 Q else Q (.bl false) H1
def tNotV (ta : TE) : TE := fun σ H Q => ta σ H fun x H1 => ∃ c, x = .bl c ∧ Q (.bl (!c)) H1
theorem pe_one {op} {t : TE} (h : PE X a t) : PE X (.BoolOp op [a] pos) t := fun pins s σ H Q I hw => BoolOp_one (h pins s σ H Q I hw)
theorem pe_and (ha : PE X a ta) (hb : PE X (.BoolOp .And (b :: rest) pos) tb) : PE X (.BoolOp .And (a :: b :: rest) pos) (tAndV ta tb) := by
 intro pins s σ H Q I h
 refine BoolOp_and (thn (ha pins s σ H _ I h) fun v s1 ⟨x, H1, I1, r1, q1⟩ => ?_)
 obtain ⟨c, rfl, q1⟩ := q1
 cases r1
 refine wpAny_truthy_bool ?_
 cases c with
 | true => exact hb pins s1 σ H1 Q I1 q1
 | false => exact ⟨.bl false, H1, I1, rfl, q1⟩
theorem pe_not (ha : PE X a ta) : PE X (.UnaryOp .Not a pos) (tNotV ta) := by
 intro pins s σ H Q I h
 refine UnaryOp_ (thn (ha pins s σ H _ I h) fun v s1 ⟨x, H1, I1, r1, q1⟩ => ?_)
 obtain ⟨c, rfl, q1⟩ := q1
 cases r1
 exact not_of (wpAny_truthy_bool ⟨.bl (!c), H1, I1, rfl, q1⟩)
end
end L2
namespace L2
open PySem PySem.Spec PyProof.Rows
def SqL (K : PySem.W.Frag) (H : Hp) (a : Addr) (xs : List V) : Prop :=
 Rd H a (.lst xs) ∨
  ∃ (o : Obj) (its : Array Value) (n : Nat), K.lookup a = some o ∧ o.cls = .type "list" ∧ o.dict = none ∧ o.data = .seq its n ∧ its.size ≤ sizeLine ∧ Vals xs its.toList
def SqT (K : PySem.W.Frag) (H : Hp) (a : Addr) (xs : List V) : Prop :=
 Rd H a (.tup xs) ∨
  ∃ (o : Obj) (its : Array Value) (n : Nat), K.lookup a = some o ∧ o.cls = .type "tuple" ∧ o.data = .seq its n ∧ its.size ≤ sizeLine ∧ Vals xs its.toList
def absV : Value → Option V
 | .none => some .non
 | .bool b => some (.bl b)
 | .int i _ => some (.int i)
 | .str x _ => some (.str x)
 | .bytes b _ => some (.byt b)
 | .float b _ => some (.flt b)
 | .ref a => some (.ref a)
 | .type n => some (.ty n)
 | _ => none
theorem RelV.abs {x : V} {u : Value} (r : RelV x u) : absV u = some x := by
 cases x with
 | non => cases r; rfl
 | bl _ => cases r; rfl
 | int _ => obtain ⟨t, rfl⟩ := r; rfl
 | str _ => obtain ⟨t, rfl⟩ := r; rfl
 | byt _ => obtain ⟨t, rfl⟩ := r; rfl
 | flt _ => obtain ⟨t, rfl⟩ := r; rfl
 | ref _ => cases r; rfl
 | ty _ => cases r; rfl
theorem RelV.inj {x y : V} {u : Value} (r : RelV x u) (q : RelV y u) : x = y := Option.some.inj (r.abs.symm.trans q.abs)
theorem Vals.inj : ∀ {xs ys : List V} {us : List Value}, Vals xs us → Vals ys us → xs = ys
 | _, _, _, .nil, .nil => rfl
 | _, _, _, .cons r t, .cons r' t' => by rw [r.inj r', Vals.inj t t']
section
variable {X : Cx} {pins : List (Addr × Obj)} {σ : St} {H : Hp} {s : Shared} {a : Addr} {xs ys : List V}
theorem SqL.of {K : PySem.W.Frag} (h : H a = some (.lst xs)) : SqL K H a xs := .inl (.inl h)
theorem Inv.list (I : Inv X pins σ H s) (h : SqL X.K H a xs) : ∃ its : List Value, Vals xs its ∧ PlainL s.heap a its.toArray ∧ xs.length ≤ sizeLine := by
 rcases h with h | ⟨o, its, n, hk, hc, hd, hs, hz, r⟩
 ·obtain ⟨z, its, n, r, e⟩ := h.ok I.hok
  exact ⟨its, r, ⟨_, n, e, rfl, rfl, rfl⟩, z⟩
 ·refine ⟨its.toList, r, ⟨o, n, I.kIn a o hk, hc, hd, by simpa using hs⟩, ?_⟩
  have e := r.length
  simp only [Array.length_toList] at e
  omega
theorem Inv.tuple (I : Inv X pins σ H s) (h : SqT X.K H a xs) : ∃ its : List Value, Vals xs its ∧ IsTup s.heap a its.toArray ∧ xs.length ≤ sizeLine := by
 rcases h with h | ⟨o, its, n, hk, hc, hs, hz, r⟩
 ·obtain ⟨z, its, r, p⟩ := h.ok I.hok
  exact ⟨its, r, p, z⟩
 ·refine ⟨its.toList, r, ⟨o, I.kIn a o hk, hc, n, by simpa using hs⟩, ?_⟩
  have e := r.length
  simp only [Array.length_toList] at e
  omega
theorem Inv.list_inj (I : Inv X pins σ H s) (h : SqL X.K H a xs) (h' : SqL X.K H a ys) : xs = ys := by
 obtain ⟨its, r, ⟨o, n, e, _, _, d⟩, _⟩ := I.list h
 obtain ⟨its', r', ⟨o', n', e', _, _, d'⟩, _⟩ := I.list h'
 rw [e] at e'; cases e'
 rw [d] at d'
 injection d' with d1 _
 have : its = its' := by simpa using congrArg Array.toList d1
 subst this
 exact r.inj r'
theorem Inv.tuple_inj (I : Inv X pins σ H s) (h : SqT X.K H a xs) (h' : SqT X.K H a ys) : xs = ys := by
 obtain ⟨its, r, ⟨o, e, _, n, d⟩, _⟩ := I.tuple h
 obtain ⟨its', r', ⟨o', e', _, n', d'⟩, _⟩ := I.tuple h'
 rw [e] at e'; cases e'
 rw [d] at d'
 injection d' with d1 _
 have : its = its' := by simpa using congrArg Array.toList d1
 subst this
 exact r.inj r'
end
abbrev Cx.wish (X : Cx) (E : Value → Shared → Prop) : Cx := { X with xe := E }
abbrev Cx.nox (X : Cx) : Cx := X.wish fun _ _ => False
theorem Cx.Ok.wish {X : Cx} (ok : X.Ok) (E : Value → Shared → Prop) : (X.wish E).Ok :=
 ⟨ok.mod, ok.kind, ok.glob, ok.blt, ok.above, ok.inj, ok.has, ok.cab, ok.hd, ok.frames, ok.stk, ok.exf, ok.bs, ok.bsz, ok.noex, ok.exfs, ok.funs, ok.frf⟩
theorem Cx.Ok.unwish {X : Cx} {E : Value → Shared → Prop} (ok : (X.wish E).Ok) : X.Ok :=
 ⟨ok.mod, ok.kind, ok.glob, ok.blt, ok.above, ok.inj, ok.has, ok.cab, ok.hd, ok.frames, ok.stk, ok.exf, ok.bs, ok.bsz, ok.noex, ok.exfs, ok.funs, ok.frf⟩
section
variable {X : Cx} {pins : List (Addr × Obj)} {σ : St} {H : Hp} {s : Shared} {E : Value → Shared → Prop}
theorem Inv.wish (I : Inv X pins σ H s) (E : Value → Shared → Prop) : Inv (X.wish E) pins σ H s := ⟨I.ok.wish E, I.os, I.bare, I.base, I.loc, I.cell, I.free, I.freeC, I.pin, I.hok, I.len⟩
theorem Inv.unwish (I : Inv (X.wish E) pins σ H s) : Inv X pins σ H s := ⟨I.ok.unwish, I.os, I.bare, I.base, I.loc, I.cell, I.free, I.freeC, I.pin, I.hok, I.len⟩
theorem SP.unwish {D : Ends} {f : Flow} {s' : Shared} (h : SP (X.wish E) pins D f s') : SP X pins D f s' := by
 cases f with
 | next => obtain ⟨σ', H', I, q⟩ := h; exact ⟨σ', H', I.unwish, q⟩
 | brk => obtain ⟨σ', H', I, q⟩ := h; exact ⟨σ', H', I.unwish, q⟩
 | cont => obtain ⟨σ', H', I, q⟩ := h; exact ⟨σ', H', I.unwish, q⟩
 | ret u => obtain ⟨v, σ', H', I, r, q⟩ := h; exact ⟨v, σ', H', I.unwish, r, q⟩
theorem PSs.nox {st : List Stmt} {t : TS} (h : PSs X.nox st t) : PSs X st t := fun pins s σ H D I hw =>
 wpAny_mono (h pins s σ H D (I.wish _) hw) (fun _ _ q => q.unwish) fun _ _ z => False.elim z
end
section
variable {X : Cx} {st : Stmt} {rest : List Stmt} {t u : TS} {e : Expr} {te : TE} {pos : Pos}
def tNext : TS := fun D σ H => D.nx σ H
def tSeq (t u : TS) : TS := fun D σ H => t { D with nx := u D } σ H
theorem pss_nil : PSs X [] tNext := fun _ _ σ H _ I h => wpAny_execs_nil ⟨σ, H, I, h⟩
theorem pss_cons (h1 : PS X st t) (h2 : PSs X rest u) : PSs X (st :: rest) (tSeq t u) := by
 intro pins s σ H D I h
 refine wpAny_execs_cons (thn (h1 pins s σ H { D with nx := u D } I h) fun f s1 q => ?_)
 cases f with
 | next =>
  obtain ⟨σ', H', I', q⟩ := q
  exact h2 pins s1 σ' H' D I' q
 | ret v => exact q
 | brk => exact q
 | cont => exact q
theorem pss_one (h1 : PS X st t) : PSs X [st] t := by
 intro pins s σ H D I h
 refine wpAny_execs_cons (thn (h1 pins s σ H D I h) fun f s1 q => ?_)
 cases f with
 | next => exact wpAny_execs_nil q
 | ret v => exact q
 | brk => exact q
 | cont => exact q
theorem Inv.quiet {pins : List (Addr × Obj)} {σ : St} {H : Hp} {s : Shared} (I : Inv X pins σ H s) : interactive X.env = false := by simp [interactive, I.ok.kind]
def tDrop (te : TE) : TS := fun D σ H => te σ H fun _ H1 => D.nx σ H1
theorem ps_expr (he : PE X e te) (hs : swapsWith e none pos.line X.env = pure false := by rfl) : PS X (.Expr e pos) (tDrop te) := by
 intro pins s σ H D I h
 exact wpAny_Expr_any (thn (he pins s σ H _ I h) fun v s1 ⟨x, H1, I1, r1, q1⟩ => ⟨σ, H1, I1, q1⟩) I.quiet hs
def tRet (te : TE) : TS := fun D σ H => te σ H D.rt
theorem ps_ret (he : PE X e te) : PS X (.Return (some e) pos) (tRet te) := by
 intro pins s σ H D I h
 exact wpAny_Return_some (thn (he pins s σ H _ I h) fun v s1 ⟨x, H1, I1, r1, q1⟩ => ⟨x, σ, H1, I1, r1, q1⟩)
def tIfS (c : TT) (t u : TS) : TS := fun D σ H => c σ H fun b H1 => if b = true then t D σ H1 else u D σ H1
theorem ps_if {c : Expr} {a b : List Stmt} {tc : TT} (hc : PT X c tc) (ha : PSs X a t) (hb : PSs X b u) : PS X (.If c a b pos) (tIfS tc t u) := by
 intro pins s σ H D I h
 refine wpAny_If (thn (hc pins s σ H _ I h) fun d s1 ⟨H1, I1, q1⟩ => ?_)
 cases d with
 | true => exact ha pins s1 σ H1 D I1 q1
 | false => exact hb pins s1 σ H1 D I1 q1
def tNever : TS := fun _ _ _ => False
theorem ps_never : PS X st tNever := fun _ _ _ _ _ _ h => h.elim
end
abbrev TG := V → St → Hp → (St → Hp → Prop) → Prop
abbrev TGs := List V → St → Hp → (St → Hp → Prop) → Prop
def PG (X : Cx) (target : Expr) (t : TG) : Prop :=
 ∀ (pins : List (Addr × Obj)) (s : Shared) (σ : St) (H : Hp) (v : V) (u : Value) (Q : St → Hp → Prop), Inv X pins σ H s → RelV v u → t v σ H Q →
  wpAny (model X.prog X.w) X.A (assign target X.env u) (fun _ s' => ∃ σ' H', Inv X pins σ' H' s' ∧ Q σ' H') X.xe s
def PGs (X : Cx) (ts : List Expr) (t : TGs) : Prop :=
 ∀ (pins : List (Addr × Obj)) (s : Shared) (σ : St) (H : Hp) (vs : List V) (us : List Value) (Q : St → Hp → Prop), Inv X pins σ H s → Vals vs us → t vs σ H Q →
  wpAny (model X.prog X.w) X.A (assignInOrder ((assignEach ts X.env).map (·.2)) us) (fun _ s' => ∃ σ' H', Inv X pins σ' H' s' ∧ Q σ' H') X.xe s
abbrev TSet := V → V → V → Hp → (Hp → Prop) → Prop
def PSet (X : Cx) (t : TSet) : Prop :=
 ∀ (pins : List (Addr × Obj)) (s : Shared) (σ : St) (H : Hp) (o i v : V) (ov iv u : Value) (Q : Hp → Prop), Inv X pins σ H s → RelV o ov → RelV i iv → RelV v u → t o i v H Q →
  wpAny (model X.prog X.w) X.A (setItem ov iv u) (fun _ s' => ∃ H', Inv X pins σ H' s' ∧ Q H') X.xe s
section
variable {X : Cx} {pos : Pos}
def gName (i : Nat) : TG := fun v σ H Q => Q (σ.set i (some v)) H
theorem pg_name {i : Nat} {x : Str} (hN : X.N.Nodup) (hi : X.N[i]? = some x) (hx : Loc X.env.scope x) (hf : X.fn x = true ∨ X.env.scope.names.lookup x = some .local := by first | exact .inl rfl | exact .inr rfl | assumption) : PG X (.Name x pos) (gName i) := by
 intro pins s σ H v u Q I r h
 exact wpAny_assign_Name (store_ok I hN hi hx r (fun s' I' => ⟨_, H, I', h⟩) hf)
def gNil : TGs := fun vs σ H Q => vs = [] ∧ Q σ H
def gCons (t : TG) (u : TGs) : TGs := fun vs σ H Q => ∃ v r, vs = v :: r ∧ t v σ H fun σ' H' => u r σ' H' Q
theorem pgs_nil : PGs X [] gNil := by
 intro pins s σ H vs us Q I r h
 obtain ⟨e, h⟩ := h
 subst e
 cases r
 exact assignInOrder_nil ⟨σ, H, I, h⟩
theorem pgs_cons {e : Expr} {es : List Expr} {t : TG} {u : TGs} (h1 : PG X e t) (h2 : PGs X es u)
 (hs : (assignEach (e :: es) X.env).map (·.2) = assign e X.env :: (assignEach es X.env).map (·.2) := by rfl) : PGs X (e :: es) (gCons t u) := by
 intro pins s σ H vs us Q I r h
 obtain ⟨v, vr, e1, h⟩ := h
 subst e1
 cases r with
 | cons r rr =>
  rw [hs]
  refine assignInOrder_cons (thn (h1 pins s σ H _ _ _ I r h) fun _ s1 ⟨σ1, H1, I1, q1⟩ => ?_)
  exact h2 pins s1 σ1 H1 _ _ Q I1 rr q1
def gTup (K : PySem.W.Frag) (n : Nat) (t : TGs) : TG := fun v σ H Q => ∃ a xs, v = .ref a ∧ SqT K H a xs ∧ xs.length = n ∧ t xs σ H Q
theorem pg_tup {es : List Expr} {k : Nat} {t : TGs} {n : Nat} (hc : X.calm = true) (h : PGs X es t)
 (hn : (assignEach es X.env).length = n := by rfl) (hst : (assignEach es X.env).findIdx? (·.1) = none := by rfl) : PG X (.Tuple es k pos) (gTup X.K n t) := by
 intro pins s σ H v u Q I r hw
 obtain ⟨a, xs, e1, hq, hl, hw⟩ := hw
 subst e1
 cases r
 obtain ⟨its, rv, ht, hz⟩ := I.tuple hq
 refine assign_Tuple_tuple (I.ok.hd hc) ht (by simp [hn, ← hl, rv.length]) hst fun h' hx => ?_
 have I1 : Inv X pins σ H { s with heap := h' } := I.kept (t' := s.toks) fun b o e => hx b o (Nat.ne_of_lt (Heap.lt_size e)) e
 exact h pins _ σ H xs _ Q I1 (by simpa using rv) hw
def gSub (to ti : TE) (t : TSet) : TG := fun v σ H Q => to σ H fun o H1 => ti σ H1 fun i H2 => t o i v H2 fun H3 => Q σ H3
theorem pg_sub {o i : Expr} {to ti : TE} {t : TSet} (ho : PE X o to) (hi : PE X i ti) (hs : PSet X t)
 (ha : ∀ v, assign (.Subscript o i pos) X.env v = (do
  let ov ← holding [v] (eval o X.env)
  let iv ← holding [v, ov] (eval i X.env)
  standAt pos
  holding [v, ov, iv] (setItem ov iv v)
  release [v, ov, iv] []) := by intro _; rfl) : PG X (.Subscript o i pos) (gSub to ti t) := by
 intro pins s σ H v u Q I r h
 rw [ha]
 refine wpAny_bind (wpAny_holding (thn (ho pins s σ H _ I h) fun ov s1 ⟨x, H1, I1, r1, q1⟩ => ?_))
 refine wpAny_bind (wpAny_holding (thn (hi pins s1 σ H1 _ I1 q1) fun iv s2 ⟨y, H2, I2, r2, q2⟩ => ?_))
 refine wpAny_bind (wpAny_standAt (wpAny_bind (wpAny_holding (thn (hs pins s2 σ H2 x y v ov iv u _ I2 r1 r2 r q2) fun _ s3 ⟨H3, I3, q3⟩ => ?_))))
 exact wpAny_release ⟨σ, H3, I3, q3⟩
def tAsg (te : TE) (g : TG) : TS := fun D σ H => te σ H fun x H1 => g x σ H1 D.nx
theorem ps_asg {tg e : Expr} {te : TE} {g : TG} (he : PE X e te) (hg : PG X tg g) (hs : swapsWithSole [tg] e pos.line X.env = pure false := by rfl) (hw : swappedStores [tg] e X.env = pure none := by rfl)
 (h1 : (assignEach [tg] X.env).map (·.2) = [assign tg X.env] := by rfl) : PS X (.Assign [tg] e pos) (tAsg te g) := by
 intro pins s σ H D I h
 refine wpAny_Assign_stores (thn (he pins s σ H _ I h) fun v s1 ⟨x, H1, I1, r1, q1⟩ => ?_) hs hw
 rw [h1]
 exact thn (hg pins s1 σ H1 x v _ I1 r1 q1) fun _ s2 q => q
theorem ps_set {i : Nat} {x : Str} {e : Expr} {te : TE} {pos' : Pos} (hN : X.N.Nodup) (hi : X.N[i]? = some x) (hx : Loc X.env.scope x) (he : PE X e te) (hs : swapsWith e (some (.Name x pos')) pos.line X.env = pure false := by rfl) (hf : X.fn x = true ∨ X.env.scope.names.lookup x = some .local := by first | exact .inl rfl | exact .inr rfl | assumption) :
 PS X (.Assign [.Name x pos'] e pos) (tAsg te (gName i)) := by
 intro pins s σ H D I h
 refine wpAny_Assign_Name (thn (he pins s σ H _ I h) fun v s1 ⟨y, H1, I1, r1, q1⟩ => ?_) hs
 exact store_ok I1 hN hi hx r1 (fun s2 I2 => ⟨_, H1, I2, q1⟩) hf
end
section
variable {X : Cx} {pos : Pos}
def tWhile (c : TT) (tb : TS) : TS := fun D σ H => ∃ W : Nat → St → Hp → Prop, (∃ m, W m σ H) ∧ ∀ m σ H, W m σ H →
 c σ H fun b H1 => if b = true then ∃ N : St → Hp → Prop, (∀ σ' H', N σ' H' → ∃ m', m' < m ∧ W m' σ' H') ∧ tb { D with nx := N, ct := N, bk := D.nx } σ H1 else D.nx σ H1
theorem ps_while {c : Expr} {body : List Stmt} {tc : TT} {tb : TS} (hp : PassesOwn (model X.prog X.w) X.A X.env X.xe) (hc : PT X c tc) (hb : PSs X body tb) : PS X (.While c body [] pos) (tWhile tc tb) := by
 intro pins s σ H D I h
 obtain ⟨W, ⟨m0, w0⟩, turn⟩ := h
 refine wpAny_While (codeAny_whileLoop (fun n s' => ∃ σ' H', Inv X pins σ' H' s' ∧ W n σ' H') ?_ m0 ⟨σ, H, I, w0⟩)
 rintro n s1 ⟨σ1, H1, I1, w1⟩
 refine wpAny_passesOwn hp (thn (hc pins s1 σ1 H1 _ I1 (turn n σ1 H1 w1)) fun b s2 ⟨H2, I2, q2⟩ => ?_)
 cases b with
 | true =>
  obtain ⟨N, hN, q2⟩ := q2
  rw [if_pos rfl]
  refine wpAny_passesOwn hp (thn (hb pins s2 σ1 H2 _ I2 q2) fun f s3 q3 => ?_)
  cases f with
  | next =>
   obtain ⟨σ3, H3, I3, n3⟩ := q3
   obtain ⟨m', hm, w3⟩ := hN σ3 H3 n3
   exact ⟨m', hm, σ3, H3, I3, w3⟩
  | cont =>
   obtain ⟨σ3, H3, I3, n3⟩ := q3
   obtain ⟨m', hm, w3⟩ := hN σ3 H3 n3
   exact ⟨m', hm, σ3, H3, I3, w3⟩
  | brk => exact q3
  | ret v => exact q3
 | false =>
  rw [if_neg Bool.false_ne_true]
  exact wpAny_execs_nil ⟨σ1, H2, I2, q2⟩
end
structure It where
 go : Nat → Hp → Prop
 yld : Nat → Hp → V → Hp → Prop
 stop : Nat → Hp → Prop
def FpOk (X : Cx) (pins : List (Addr × Obj)) (H : Hp) (b : Addr) : Prop :=
 H b = none ∧ b ≠ X.env.locals ∧ b ∉ X.fs ∧ (b ∈ X.ex ∨ X.s₀.heap.objs.size ≤ b) ∧ (∀ x c, X.env.cells.lookup x = some c → c ≠ b) ∧ ∀ p ∈ X.pn ++ pins, p.1 ≠ b
theorem Inv.fpOk {X : Cx} {pins : List (Addr × Obj)} {σ : St} {H H' : Hp} {s : Shared} {b : Addr} (I : Inv X pins σ H s) (hb : s.heap.objs.size ≤ b) (hn : H' b = none) : FpOk X pins H' b := by
 refine ⟨hn, Nat.ne_of_gt (Nat.lt_of_lt_of_le I.lt hb), I.nofs hb, .inr (Nat.le_trans I.sz hb), fun x c e z => ?_, fun p hp z => ?_⟩
 ·obtain ⟨v, q⟩ := I.cell x c e
  exact absurd (Nat.lt_of_lt_of_le q.lt (by rw [z]; exact hb)) (Nat.lt_irrefl _)
 ·exact absurd (Nat.lt_of_lt_of_le (Heap.lt_size (I.pin p hp).1) (by rw [z]; exact hb)) (Nat.lt_irrefl _)
structure Turn (P : Program) (w : World) (K : PySem.W.Frag) (tg : Expr) (J : It) (fp : List Addr) (it : Addr) (tn : Nat → Heap → Prop) : Prop where
 mem : it ∈ fp
 obj : ∀ i h, tn i h → ∀ b ∈ fp, ∃ o, h.get? b = some o ∧ ∀ v, o.data ≠ .cell v
 keep : ∀ i h h', tn i h → (∀ b ∈ fp, ∀ o, h.get? b = some o → h'.get? b = some o) → tn i h'
 item : ∀ (X : Cx), X.prog = P → X.w = w → X.K = K → X.calm = true → ∀ (i : Nat) (pins : List (Addr × Obj)) (s : Shared) (σ : St) (H : Hp) (E : Value → Shared → Prop), Inv X pins σ H s → (∀ b ∈ fp, FpOk X pins H b) → tn i s.heap → J.go i H →
  wpAny (model P w) X.A (pyNext (.ref it)) (fun r s1 => ∃ u, r = some u ∧
   wpAny (model P w) X.A (letOwnedTupleGo tg (.ref it) u) (fun _ s2 => ∃ x H', Inv X pins σ H' s2 ∧ RelV x u ∧ J.yld i H x H' ∧ tn (i + 1) s2.heap ∧ ∀ b ∈ fp, H' b = none) E s1) E s
 done : ∀ (X : Cx), X.prog = P → X.w = w → X.K = K → X.calm = true → ∀ (i : Nat) (pins : List (Addr × Obj)) (s : Shared) (σ : St) (H : Hp) (E : Value → Shared → Prop), Inv X pins σ H s → (∀ b ∈ fp, FpOk X pins H b) → tn i s.heap → J.stop i H →
  wpAny (model P w) X.A (pyNext (.ref it)) (fun r s1 => r = none ∧ Inv X pins σ H s1) E s
 self : ∀ (A : Around) (i : Nat) (s : Shared) (Q : Value → Shared → Prop) (E : Value → Shared → Prop), tn i s.heap → Q (.ref it) s → wpAny (model P w) A (pyIter (.ref it)) Q E s
abbrev TI := St → Hp → (It → Hp → Prop) → Prop
def PIE (X : Cx) (pins : List (Addr × Obj)) (σ : St) (tg : Expr) (R : It → Hp → Prop) (itv : Value) (s2 : Shared) : Prop :=
 ∃ (it : Addr) (fp : List Addr) (tn : Nat → Heap → Prop) (J : It) (H' : Hp), itv = .ref it ∧ Inv X pins σ H' s2 ∧ Turn X.prog X.w X.K tg J fp it tn ∧ tn 0 s2.heap ∧ (∀ b ∈ fp, FpOk X pins H' b) ∧ R J H'
def PI (X : Cx) (tg iter : Expr) (wi : TI) : Prop :=
 ∀ (pins : List (Addr × Obj)) (s : Shared) (σ : St) (H : Hp) (R : It → Hp → Prop), Inv X pins σ H s → wi σ H R →
  wpAny (model X.prog X.w) X.A (eval iter X.env) (fun v s1 => wpAny (model X.prog X.w) X.A (pyIter v) (PIE X pins σ tg R) X.xe s1) X.xe s
theorem go_of {M : Model} {A : Around} {E : Value → Shared → Prop} {s : Shared} {tg : Expr} {it : Addr} {u : Value} {o : Obj} {n : String} {vs : Array Value} {Q : Unit → Shared → Prop} (ho : s.heap.get? it = some o) (hc : o.cls = .type n) (hd : o.data = .fields vs)
 (hn : ["enumerate", "zip", "dict_itemiterator", "dict_reverseitemiterator", "odict_iterator", "itertools.zip_longest", "itertools.pairwise"].contains n = false) (hQ : Q () s) : wpAny M A (letOwnedTupleGo tg (.ref it) u) Q E s := by
 unfold letOwnedTupleGo
 cases tg <;> first
  | exact wpAny_pure hQ
  | (cases u <;> first
   | exact wpAny_pure hQ
   | (refine wpAny_bind (wpAny_load ho ?_)
      rw [hc, hd]
      show wpAny M A (if (["enumerate", "zip", "dict_itemiterator", "dict_reverseitemiterator", "odict_iterator", "itertools.zip_longest", "itertools.pairwise"].contains n && vs[0]? == some (rawInt _)) = true then _ else _) Q E s
      rw [if_neg (by intro h; rw [hn, Bool.false_and] at h; cases h)]
      exact wpAny_pure hQ))
def Itl (K : PySem.W.Frag) (a : Addr) : It :=
 ⟨fun i H => ∃ xs x, SqL K H a xs ∧ xs[i]? = some x, fun i H x H' => H' = H ∧ ∀ xs, SqL K H a xs → xs[i]? = some x, fun i H => ∃ xs, SqL K H a xs ∧ xs.length ≤ i⟩
def Itt (K : PySem.W.Frag) (a : Addr) : It :=
 ⟨fun i H => ∃ xs x, SqT K H a xs ∧ xs[i]? = some x, fun i H x H' => H' = H ∧ ∀ xs, SqT K H a xs → xs[i]? = some x, fun i H => ∃ xs, SqT K H a xs ∧ xs.length ≤ i⟩
def Itr (lo : Int) (n : Nat) : It := ⟨fun i _ => i < n, fun i H x H' => H' = H ∧ x = .int (lo + i), fun i _ => n ≤ i⟩
theorem turn_list {P : Program} {w : World} {K : PySem.W.Frag} {tg : Expr} (a it : Addr) : Turn P w K tg (Itl K a) [it] it (fun i h => h.IsListIter it a i) where
 mem := by simp
 obj := fun i h st b hb => by
  have e : b = it := by simpa using hb
  subst e
  obtain ⟨o, e, c, d⟩ := st
  exact ⟨o, e, fun v z => by rw [d] at z; cases z⟩
 keep := fun i h h' st k => st.at fun o e => k it (by simp) o e
 item := by
  intro X hP hw hK hc i pins s σ H E I hf st hg
  subst hP hw hK
  obtain ⟨xs, x, hq, hx⟩ := hg
  obtain ⟨its, rv, p, hz⟩ := I.list hq
  obtain ⟨u, hu, ru⟩ := rv.get hx
  obtain ⟨f0, f1, f2, f3, f4, f5⟩ := hf it (by simp)
  refine wpAny_pyNext_list_item st p.isList (x := u) (by simpa using hu) fun h' st' sb => ?_
  have I1 : Inv X pins σ H { s with heap := h' } := I.turned (t' := s.toks) (fun b o hb e => (sb.2 b hb).trans e) f0 f1 f3 f4 f5
  obtain ⟨o, e, c, d⟩ := id st'
  exact ⟨u, rfl, go_of (s := { s with heap := h' }) e c d (by decide) ⟨x, H, I1, ru, ⟨rfl, fun ys hy => by rw [I.list_inj hy hq]; exact hx⟩, st', fun b hb => (hf b hb).1⟩⟩
 done := by
  intro X hP hw hK hc i pins s σ H E I hf st hg
  subst hP hw hK
  obtain ⟨xs, hq, hx⟩ := hg
  obtain ⟨its, rv, p, hz⟩ := I.list hq
  obtain ⟨f0, f1, f2, f3, f4, f5⟩ := hf it (by simp)
  have hl := rv.length
  exact wpAny_pyNext_list_end (I.ok.hd hc) st p.isList (by simp; omega) fun h' eb => ⟨rfl, I.turned (t' := s.toks) (fun b o hb e => eb b o hb e) f0 f1 f3 f4 f5⟩
 self := fun _ _ _ _ _ st h => wpAny_pyIter_listiter st h
theorem turn_tuple {P : Program} {w : World} {K : PySem.W.Frag} {tg : Expr} (a it : Addr) : Turn P w K tg (Itt K a) [it] it (fun i h => h.IsTupleIter it a i) where
 mem := by simp
 obj := fun i h st b hb => by
  have e : b = it := by simpa using hb
  subst e
  obtain ⟨o, e, c, d⟩ := st
  exact ⟨o, e, fun v z => by rw [d] at z; cases z⟩
 keep := fun i h h' st k => st.at fun o e => k it (by simp) o e
 item := by
  intro X hP hw hK hc i pins s σ H E I hf st hg
  subst hP hw hK
  obtain ⟨xs, x, hq, hx⟩ := hg
  obtain ⟨its, rv, p, hz⟩ := I.tuple hq
  obtain ⟨u, hu, ru⟩ := rv.get hx
  obtain ⟨f0, f1, f2, f3, f4, f5⟩ := hf it (by simp)
  refine wpAny_pyNext_tuple_item st (show s.heap.IsTuple a its.toArray from p) (x := u) (by simpa using hu) fun h' st' sb => ?_
  have I1 : Inv X pins σ H { s with heap := h' } := I.turned (t' := s.toks) (fun b o hb e => (sb.2 b hb).trans e) f0 f1 f3 f4 f5
  obtain ⟨o, e, c, d⟩ := id st'
  exact ⟨u, rfl, go_of (s := { s with heap := h' }) e c d (by decide) ⟨x, H, I1, ru, ⟨rfl, fun ys hy => by rw [I.tuple_inj hy hq]; exact hx⟩, st', fun b hb => (hf b hb).1⟩⟩
 done := by
  intro X hP hw hK hc i pins s σ H E I hf st hg
  subst hP hw hK
  obtain ⟨xs, hq, hx⟩ := hg
  obtain ⟨its, rv, p, hz⟩ := I.tuple hq
  obtain ⟨f0, f1, f2, f3, f4, f5⟩ := hf it (by simp)
  have hl := rv.length
  exact wpAny_pyNext_tuple_end (I.ok.hd hc) st (show s.heap.IsTuple a its.toArray from p) (by simp; omega) fun h' eb => ⟨rfl, I.turned (t' := s.toks) (fun b o hb e => eb b o hb e) f0 f1 f3 f4 f5⟩
 self := fun _ _ _ _ _ st h => wpAny_pyIter_tupleiter st h
theorem turn_range {P : Program} {w : World} {K : PySem.W.Frag} {tg : Expr} (it : Addr) (lo : Int) (n : Nat) : Turn P w K tg (Itr lo n) [it] it (fun i h => IsRangeIter h it (lo + (i : Nat) * 1) ((n : Int) - (i : Nat)) 1) where
 mem := by simp
 obj := fun i h st b hb => by
  have e : b = it := by simpa using hb
  subst e
  exact ⟨_, st, fun v z => by
   have z' : Data.fields _ = Data.cell v := z
   cases z'⟩
 keep := fun i h h' st k => k it (by simp) _ st
 item := by
  intro X hP hw hK hc i pins s σ H E I hf st hg
  subst hP hw hK
  obtain ⟨f0, f1, f2, f3, f4, f5⟩ := hf it (by simp)
  have W := Walks.range (prog := X.prog) (w := X.w) (I.ok.hd hc) it lo 1 n
  refine W.item i s _ _ hg st fun v h' tk hv st' kk => ?_
  obtain ⟨t, rfl⟩ := hv
  have I1 : Inv X pins σ H { s with heap := h', toks := tk } := I.turned (fun b o hb e => kk b o (by simpa using hb) e) f0 f1 f3 f4 f5
  refine ⟨_, rfl, go_of (s := { s with heap := h', toks := tk }) (n := "range_iterator") st' rfl rfl (by decide) ⟨.int (lo + i), H, I1, ⟨t, ?_⟩, ⟨rfl, rfl⟩, st', fun b hb => (hf b hb).1⟩⟩
  rw [Int.mul_one]
 done := by
  intro X hP hw hK hc i pins s σ H E I hf st hg
  subst hP hw hK
  obtain ⟨f0, f1, f2, f3, f4, f5⟩ := hf it (by simp)
  exact wpAny_pyNext_range_end (I.ok.hd hc) st (by have : n ≤ i := hg; omega) fun h' eb => ⟨rfl, I.turned (t' := s.toks) (fun b o hb e => eb b o hb e) f0 f1 f3 f4 f5⟩
 self := fun _ _ _ _ _ st h => wpAny_pyIter_rangeiter st h
end L2
namespace L2
open PySem PySem.Spec PyProof.Rows
section
variable {X : Cx} {tg : Expr}
def iList (K : PySem.W.Frag) (tl : TE) : TI := fun σ H R => tl σ H fun x H1 => ∃ a, x = .ref a ∧ (∃ xs, SqL K H1 a xs) ∧ R (Itl K a) H1
def iTup (K : PySem.W.Frag) (tl : TE) : TI := fun σ H R => tl σ H fun x H1 => ∃ a, x = .ref a ∧ (∃ xs, SqT K H1 a xs) ∧ R (Itt K a) H1
theorem pi_list {l : Expr} {tl : TE} (hl : PE X l tl) : PI X tg l (iList X.K tl) := by
 intro pins s σ H R I h
 refine thn (hl pins s σ H _ I h) fun v s1 ⟨x, H1, I1, r1, q1⟩ => ?_
 obtain ⟨a, e, ⟨xs, hq⟩, q⟩ := q1
 subst e
 cases r1
 obtain ⟨its, rv, p, hz⟩ := I1.list hq
 refine wpAny_pyIter_list p.isList ?_
 refine ⟨s1.heap.objs.size, [s1.heap.objs.size], _, _, H1, rfl, I1.kept (t' := s1.toks) fun b o e => Heap.get?_push_of_some _ e, turn_list a _, ⟨_, Heap.get?_push_size _ rfl, rfl, rfl⟩, fun b hb => ?_, q⟩
 have e : b = s1.heap.objs.size := by simpa using hb
 subst e
 exact I1.fpOk (Nat.le_refl _) (I1.hok.fresh (Nat.le_refl _))
theorem pi_tup {l : Expr} {tl : TE} (hl : PE X l tl) : PI X tg l (iTup X.K tl) := by
 intro pins s σ H R I h
 refine thn (hl pins s σ H _ I h) fun v s1 ⟨x, H1, I1, r1, q1⟩ => ?_
 obtain ⟨a, e, ⟨xs, hq⟩, q⟩ := q1
 subst e
 cases r1
 obtain ⟨its, rv, p, hz⟩ := I1.tuple hq
 refine wpAny_pyIter_tuple (show s1.heap.IsTuple a its.toArray from p) ?_
 refine ⟨s1.heap.objs.size, [s1.heap.objs.size], _, _, H1, rfl, I1.kept (t' := s1.toks) fun b o e => Heap.get?_push_of_some _ e, turn_tuple a _, ⟨_, Heap.get?_push_size _ rfl, rfl, rfl⟩, fun b hb => ?_, q⟩
 have e : b = s1.heap.objs.size := by simpa using hb
 subst e
 exact I1.fpOk (Nat.le_refl _) (I1.hok.fresh (Nat.le_refl _))
theorem range_it {pins : List (Addr × Obj)} {σ : St} {H : Hp} {s : Shared} {R : It → Hp → Prop} {E : Value → Shared → Prop} {lo hi : Int} {t u v : Tok} {tk : Nat} (I : Inv X pins σ H s) (h1 : -(2 ^ 62) ≤ lo) (h2 : lo < 2 ^ 62) (h3 : -(2 ^ 62) ≤ hi) (h4 : hi < 2 ^ 62)
 (q : R (Itr lo (hi - lo).toNat) H) : wpAny (model X.prog X.w) X.A (pyIter (.ref s.heap.objs.size)) (PIE X pins σ tg R) E { s with heap := s.heap.push { cls := .type "range", data := .fields #[.int lo t, .int hi u, .int 1 v] }, toks := tk } := by
 refine wpAny_pyIter_range (IsRange.new ..) (small_one h1 h2 h3 h4) ?_
 have I1 : Inv X pins σ H { s with heap := s.heap.push { cls := .type "range", data := .fields #[.int lo t, .int hi u, .int 1 v] }, toks := tk } := I.kept fun b o e => Heap.get?_push_of_some _ e
 refine ⟨(s.heap.push { cls := .type "range", data := .fields #[.int lo t, .int hi u, .int 1 v] }).objs.size, [(s.heap.push { cls := .type "range", data := .fields #[.int lo t, .int hi u, .int 1 v] }).objs.size], _, _, H, rfl,
  I1.kept (t' := tk) fun b o e => Heap.get?_push_of_some _ e, turn_range _ lo (hi - lo).toNat, ?_, fun b hb => ?_, q⟩
 ·have e1 : lo + ((0 : Nat) : Int) * 1 = lo := by simp
  have e2 : (((hi - lo).toNat : Nat) : Int) - ((0 : Nat) : Int) = Builtin.Range.rangeSize lo hi 1 := by rw [rangeSize_one]; split <;> omega
  show IsRangeIter _ _ (lo + ((0 : Nat) : Int) * 1) ((((hi - lo).toNat : Nat) : Int) - ((0 : Nat) : Int)) 1
  rw [e1, e2]
  exact Heap.get?_push_size _ rfl
 ·have e : b = (s.heap.push { cls := .type "range", data := .fields #[.int lo t, .int hi u, .int 1 v] }).objs.size := by simpa using hb
  subst e
  exact I1.fpOk (Nat.le_refl _) (I1.hok.fresh (Nat.le_refl _))
def iRng1 (ta : TA) : TI := fun σ H R => ta σ H fun vs H1 => ∃ j : Int, vs = [.int j] ∧ -(2 ^ 62) ≤ j ∧ j < 2 ^ 62 ∧ R (Itr 0 j.toNat) H1
theorem pi_range1 {a : Expr} {ta : TA} {p pos : Pos} (hg : Gl X "range") (hm : X.mg "range" = none) (ha : PA X [a] ta) (hs : starEach [a] X.env = [(false, eval a X.env)] := by rfl) : PI X tg (.Call (.Name "range" p) [a] [] pos) (iRng1 ta) := by
 intro pins s σ H R I h
 refine Call_ (ld_blt I hg hm boot_range (PyProof.Rows.callWith_type1 (thn (ha pos pins s σ H _ I h) fun us s1 ⟨vs, H1, I1, r1, q1⟩ => ?_) hs rfl))
 obtain ⟨j, e, q1, q2, q⟩ := q1
 subst e
 cases r1 with
 | cons r rr =>
  cases rr
  obtain ⟨t, rfl⟩ := r
  exact call_range_1 (range_it I1 (by omega) (by omega) q1 q2 (by simpa using q))
def tFor (wi : TI) (g : TG) (tb : TS) : TS := fun D σ H => wi σ H fun J H1 => ∃ W : Nat → Nat → St → Hp → Prop, (∃ m, W 0 m σ H1) ∧ ∀ i m σ H, W i m σ H →
 (J.stop i H ∧ D.nx σ H) ∨ (J.go i H ∧ ∃ N : St → Hp → Prop, (∀ σ' H', N σ' H' → ∃ m', m' < m ∧ W (i + 1) m' σ' H') ∧ ∀ x H', J.yld i H x H' → g x σ H' fun σ2 H2 => tb { D with nx := N, ct := N, bk := D.nx } σ2 H2)
def pinsAt (fp : List Addr) (h : Heap) : List (Addr × Obj) := fp.filterMap fun b => (h.get? b).map fun o => (b, o)
theorem mem_pinsAt {fp : List Addr} {h : Heap} {b : Addr} {o : Obj} (hb : b ∈ fp) (e : h.get? b = some o) : (b, o) ∈ pinsAt fp h := List.mem_filterMap.mpr ⟨b, hb, by rw [e]; rfl⟩
theorem of_pinsAt {fp : List Addr} {h : Heap} {p : Addr × Obj} (hp : p ∈ pinsAt fp h) : p.1 ∈ fp ∧ h.get? p.1 = some p.2 := by
 obtain ⟨b, hb, e⟩ := List.mem_filterMap.mp hp
 cases q : h.get? b with
 | none => rw [q] at e; cases e
 | some o =>
  rw [q] at e
  have e' : (b, o) = p := Option.some.inj e
  subst e'
  exact ⟨hb, q⟩
theorem Inv.pinned {pins : List (Addr × Obj)} {σ : St} {H : Hp} {s : Shared} {fp : List Addr} (I : Inv X pins σ H s) (hf : ∀ b ∈ fp, FpOk X pins H b) (ho : ∀ b ∈ fp, ∃ o, s.heap.get? b = some o ∧ ∀ v, o.data ≠ .cell v) : Inv X (pins ++ pinsAt fp s.heap) σ H s :=
 I.pins_of fun p hp => (List.mem_append.mp hp).elim (fun z => I.pin p (List.mem_append_right _ z)) fun z => by
  obtain ⟨hb, e⟩ := of_pinsAt z
  obtain ⟨f0, f1, f2, _⟩ := hf p.1 hb
  obtain ⟨o, e', d⟩ := ho p.1 hb
  rw [e] at e'; cases e'
  exact ⟨e, f0, f1, f2, d⟩
theorem Inv.unpinned {pins pl : List (Addr × Obj)} {σ : St} {H : Hp} {s : Shared} (I : Inv X (pins ++ pl) σ H s) : Inv X pins σ H s := I.pins_of fun p hp => I.pin p (List.mem_append_right _ (List.mem_append_left _ hp))
theorem ps_for {iter : Expr} {body : List Stmt} {wi : TI} {g : TG} {tb : TS} {pos : Pos} (hp : PassesOwn (model X.prog X.w) X.A X.env X.xe) (hc : X.calm = true) (hi : PI X tg iter wi) (hg : PG X tg g) (hb : PSs X body tb)
 (hs : ∀ x, foldedSetIterable iter X.env x = pure x := by intro _; rfl) : PS X (.For tg iter body [] pos) (tFor wi g tb) := by
 intro pins s σ H D I h
 refine wpAny_For (thn (hi pins s σ H _ I h) fun v s1 h1 => thn h1 fun itv s2 h2 => ?_) hs
 obtain ⟨it, fp, tn, J, H2, e, I2, T, st2, f2, W, ⟨m0, w0⟩, turn⟩ := h2
 subst e
 have stat : ∀ {H' : Hp}, (∀ b ∈ fp, H' b = none) → ∀ b ∈ fp, FpOk X pins H' b := fun hn b hb => ⟨hn b hb, (f2 b hb).2⟩
 refine codeAny_forLoop_any (fun n s' => ∃ i σ' H', Inv X pins σ' H' s' ∧ tn i s'.heap ∧ (∀ b ∈ fp, H' b = none) ∧ W i n σ' H') ?_ m0 ⟨0, σ, H2, I2, st2, fun b hb => (f2 b hb).1, w0⟩
 rintro n s3 ⟨i, σ3, H3, I3, st3, fr3, w3⟩
 rcases turn i n σ3 H3 w3 with ⟨stop, qn⟩ | ⟨go, N, hN, step⟩
 ·refine wpAny_passesOwn hp (thn (T.done X rfl rfl rfl hc i pins s3 σ3 H3 X.xe I3 (stat fr3) st3 stop) fun r s4 ⟨hr, I4⟩ => ?_)
  subst hr
  exact wpAny_execs_nil ⟨σ3, H3, I4, qn⟩
 ·refine wpAny_passesOwn hp (thn (T.item X rfl rfl rfl hc i pins s3 σ3 H3 X.xe I3 (stat fr3) st3 go) fun r s4 ⟨u, hr, h4⟩ => ?_)
  subst hr
  refine wpAny_passesOwn hp (thn h4 fun _ s5 ⟨x, H5, I5, r5, y5, st5, fr5⟩ => ?_)
  have I5' := I5.pinned (stat fr5) (T.obj _ _ st5)
  refine wpAny_passesOwn hp (thn (hg _ s5 σ3 H5 x u _ I5' r5 (step x H5 y5)) fun _ s6 ⟨σ6, H6, I6, q6⟩ => ?_)
  refine wpAny_passesOwn hp (thn (hb _ s6 σ6 H6 _ I6 q6) fun f s7 q7 => ?_)
  have again : ∀ {σ7 : St} {H7 : Hp}, Inv X (pins ++ pinsAt fp s5.heap) σ7 H7 s7 → N σ7 H7 → ∃ m, m < n ∧ ∃ i σ' H', Inv X pins σ' H' s7 ∧ tn i s7.heap ∧ (∀ b ∈ fp, H' b = none) ∧ W i m σ' H' := fun {σ7 H7} I7 n7 => by
   obtain ⟨m', hm, w7⟩ := hN σ7 H7 n7
   refine ⟨m', hm, i + 1, σ7, H7, I7.unpinned, T.keep _ _ _ st5 fun b hb o e => (I7.pin (b, o) (List.mem_append_right _ (List.mem_append_right _ (mem_pinsAt hb e)))).1, fun b hb => ?_, w7⟩
   obtain ⟨o, e, d⟩ := T.obj _ _ st5 b hb
   exact (I7.pin (b, o) (List.mem_append_right _ (List.mem_append_right _ (mem_pinsAt hb e)))).2.1
  cases f with
  | next => obtain ⟨σ7, H7, I7, n7⟩ := q7; exact again I7 n7
  | cont => obtain ⟨σ7, H7, I7, n7⟩ := q7; exact again I7 n7
  | brk => obtain ⟨σ7, H7, I7, q7⟩ := q7; exact ⟨σ7, H7, I7.unpinned, q7⟩
  | ret v => obtain ⟨x7, σ7, H7, I7, r7, q7⟩ := q7; exact ⟨x7, σ7, H7, I7.unpinned, r7, q7⟩
end
end L2
namespace L2
open PySem PySem.Spec PyProof.Rows
abbrev R2 := V → V → Hp → VK → Prop
def OpR (X : Cx) (f : Value → Value → Sem Value) (r : R2) : Prop :=
 ∀ (pins : List (Addr × Obj)) (s : Shared) (σ : St) (H : Hp) (x y : V) (v u : Value) (Q : VK), Inv X pins σ H s → RelV x v → RelV y u → r x y H Q →
  wpAny (model X.prog X.w) X.A (f v u) (EP X pins σ Q) X.xe s
def UnR (X : Cx) (f : Value → Sem Value) (r : V → Hp → VK → Prop) : Prop :=
 ∀ (pins : List (Addr × Obj)) (s : Shared) (σ : St) (H : Hp) (x : V) (v : Value) (Q : VK), Inv X pins σ H s → RelV x v → r x H Q →
  wpAny (model X.prog X.w) X.A (f v) (EP X pins σ Q) X.xe s
def CallR (X : Cx) (f : Value) (r : List V → Hp → VK → Prop) : Prop :=
 ∀ (pins : List (Addr × Obj)) (s : Shared) (σ : St) (H : Hp) (xs : List V) (us : List Value) (Q : VK), Inv X pins σ H s → Vals xs us → r xs H Q →
  wpAny (model X.prog X.w) X.A (call f us) (EP X pins σ Q) X.xe s
def tOp (r : R2) (ta tb : TE) : TE := fun σ H Q => ta σ H fun x H1 => tb σ H1 fun y H2 => r x y H2 Q
def tUn (r : V → Hp → VK → Prop) (ta : TE) : TE := fun σ H Q => ta σ H fun x H1 => r x H1 Q
def rI (C : Int → Int → Prop) (g : Int → Int → V) : R2 := fun x y H Q => ∃ i j, x = .int i ∧ y = .int j ∧ C i j ∧ Q (g i j) H
def rI0 (g : Int → Int → V) : R2 := fun x y H Q => ∃ i j, x = .int i ∧ y = .int j ∧ Q (g i j) H
def rU (g : Int → V) : V → Hp → VK → Prop := fun x H Q => ∃ i, x = .int i ∧ Q (g i) H
section
variable {X : Cx} {a b c : Expr} {ta tb tc : TE} {pos : Pos}
theorem binT (ha : PE X a ta) (hb : PE X b tb) {pins : List (Addr × Obj)} {s : Shared} {σ : St} {H : Hp} {R : V → V → Hp → Prop} (I : Inv X pins σ H s)
 (h : ta σ H fun x H1 => tb σ H1 fun y H2 => R x y H2) {Q : Value → Shared → Prop} {f : Value → Value → Sem Value}
 (hf : ∀ v u s2 x y H2, Inv X pins σ H2 s2 → RelV x v → RelV y u → R x y H2 → wpAny (model X.prog X.w) X.A (f v u) Q X.xe s2) :
 wpAny (model X.prog X.w) X.A (eval a X.env) (fun v s₁ => wpAny (model X.prog X.w) X.A (eval b X.env) (fun u s₂ => wpAny (model X.prog X.w) X.A (f v u) Q X.xe s₂) X.xe s₁) X.xe s := by
 refine thn (ha pins s σ H _ I h) fun v s1 ⟨x, H1, I1, r1, q1⟩ => ?_
 refine thn (hb pins s1 σ H1 _ I1 q1) fun u s2 ⟨y, H2, I2, r2, q2⟩ => ?_
 exact hf v u s2 x y H2 I2 r1 r2 q2
theorem pe_op {op : Operator} {r : R2} (ho : OpR X (binaryOp op) r) (ha : PE X a ta) (hb : PE X b tb) : PE X (.BinOp a op b pos) (tOp r ta tb) := by
 intro pins s σ H Q I h
 exact wpAny_BinOp (binT ha hb I h fun v u s2 x y H2 I2 rx ry q => ho pins s2 σ H2 x y v u Q I2 rx ry q)
theorem pe_un {op : UnaryOp} {r : V → Hp → VK → Prop} (ho : UnR X (unaryOp op) r) (ha : PE X a ta) : PE X (.UnaryOp op a pos) (tUn r ta) := by
 intro pins s σ H Q I h
 exact UnaryOp_ (thn (ha pins s σ H _ I h) fun v s1 ⟨x, H1, I1, r1, q1⟩ => ho pins s1 σ H1 x v Q I1 r1 q1)
theorem opI {f : Value → Value → Sem Value} {C : Int → Int → Prop} {g : Int → Int → Int}
 (rule : ∀ (i j : Int) (t u : Tok) (s : Shared) (Q : Value → Shared → Prop) (E : Value → Shared → Prop), C i j → Q (.int (g i j) s.toks) { s with toks := s.toks + 1 } → wpAny (model X.prog X.w) X.A (f (.int i t) (.int j u)) Q E s) :
 OpR X f (rI C fun i j => .int (g i j)) := by
 intro pins s σ H x y v u Q I rx ry h
 obtain ⟨i, j, rfl, rfl, hc, q⟩ := h
 obtain ⟨t, rfl⟩ := rx
 obtain ⟨t', rfl⟩ := ry
 exact rule i j t t' s _ _ hc ⟨.int (g i j), H, I.tok _, ⟨_, rfl⟩, q⟩
theorem opI0 {f : Value → Value → Sem Value} {g : Int → Int → Int}
 (rule : ∀ (i j : Int) (t u : Tok) (s : Shared) (Q : Value → Shared → Prop) (E : Value → Shared → Prop), Q (.int (g i j) s.toks) { s with toks := s.toks + 1 } → wpAny (model X.prog X.w) X.A (f (.int i t) (.int j u)) Q E s) :
 OpR X f (rI0 fun i j => .int (g i j)) := by
 intro pins s σ H x y v u Q I rx ry h
 obtain ⟨i, j, rfl, rfl, q⟩ := h
 obtain ⟨t, rfl⟩ := rx
 obtain ⟨t', rfl⟩ := ry
 exact rule i j t t' s _ _ ⟨.int (g i j), H, I.tok _, ⟨_, rfl⟩, q⟩
theorem opB0 {f : Value → Value → Sem Value} {g : Int → Int → Bool}
 (rule : ∀ (i j : Int) (t u : Tok) (s : Shared) (Q : Value → Shared → Prop) (E : Value → Shared → Prop), Q (.bool (g i j)) s → wpAny (model X.prog X.w) X.A (f (.int i t) (.int j u)) Q E s) :
 OpR X f (rI0 fun i j => .bl (g i j)) := by
 intro pins s σ H x y v u Q I rx ry h
 obtain ⟨i, j, rfl, rfl, q⟩ := h
 obtain ⟨t, rfl⟩ := rx
 obtain ⟨t', rfl⟩ := ry
 exact rule i j t t' s _ _ ⟨.bl (g i j), H, I, rfl, q⟩
def CPow (i j : Int) : Prop := 0 ≤ j ∧ j ≤ 1000000 ∧ i.natAbs < 2 ^ 64
theorem op_add : OpR X (binaryOp .Add) (rI0 fun i j => .int (i + j)) := opI0 fun _ _ _ _ _ _ _ q => add_int q
theorem op_sub : OpR X (binaryOp .Sub) (rI0 fun i j => .int (i - j)) := opI0 fun _ _ _ _ _ _ _ q => sub_int q
theorem op_modN : OpR X (binaryOp .Mod) (rI (fun _ j => j ≠ 0) fun i j => .int (i.fmod j)) := opI fun _ _ _ _ _ _ _ hc q => mod_int' hc q
theorem op_pow : OpR X (binaryOp .Pow) (rI CPow fun i j => .int (i ^ j.toNat)) := opI fun _ _ _ _ _ _ _ hc q => pow_int_small hc.1 hc.2.1 hc.2.2 q
theorem unI {f : Value → Sem Value} {g : Int → Int}
 (rule : ∀ (i : Int) (t : Tok) (s : Shared) (Q : Value → Shared → Prop) (E : Value → Shared → Prop), Q (.int (g i) s.toks) { s with toks := s.toks + 1 } → wpAny (model X.prog X.w) X.A (f (.int i t)) Q E s) :
 UnR X f (rU fun i => .int (g i)) := by
 intro pins s σ H x v Q I rx h
 obtain ⟨i, rfl, q⟩ := h
 obtain ⟨t, rfl⟩ := rx
 exact rule i t s _ _ ⟨.int (g i), H, I.tok _, ⟨_, rfl⟩, q⟩
theorem un_neg : UnR X (unaryOp .USub) (rU fun i => .int (-i)) := unI fun _ _ _ _ _ q => neg_int q
end
section
variable {X : Cx} {a b c : Expr} {ta tb tc : TE} {pos : Pos}
theorem op_lt : OpR X (compareOp .Lt) (rI0 fun i j => .bl (decide (i < j))) := opB0 fun _ _ _ _ _ _ _ q => lt_int q
theorem op_le : OpR X (compareOp .LtE) (rI0 fun i j => .bl (decide (i ≤ j))) := opB0 fun _ _ _ _ _ _ _ q => le_int q
theorem op_gt : OpR X (compareOp .Gt) (rI0 fun i j => .bl (decide (j < i))) := opB0 fun _ _ _ _ _ _ _ q => gt_int q
theorem op_ge : OpR X (compareOp .GtE) (rI0 fun i j => .bl (decide (j ≤ i))) := opB0 fun _ _ _ _ _ _ _ q => ge_int q
theorem nomark (b : Expr) {op : CmpOp} (h : op ≠ .In := by decide) (h2 : op ≠ .NotIn := by decide) : behindInMarks op b = false := by
 have e1 : (op == CmpOp.In) = false := by cases op <;> first | rfl | exact absurd rfl h
 have e2 : (op == CmpOp.NotIn) = false := by cases op <;> first | rfl | exact absurd rfl h2
 cases b <;> simp [behindInMarks, e1, e2]
theorem pe_cmpR {op : CmpOp} {r : R2} (ho : OpR X (compareOp op) r) (ha : PE X a ta) (hb : PE X b tb) (hm : behindInMarks op b = false) : PE X (.Compare a [op] [b] pos) (tOp r ta tb) := by
 intro pins s σ H Q I h
 exact wpAny_Compare1 (binT ha hb I h fun v u s2 x y H2 I2 rx ry q => ho pins s2 σ H2 x y v u Q I2 rx ry q) hm
def tTest (t : TE) : TT := fun σ H Q => t σ H fun x H' => ∃ k, x = .bl k ∧ Q k H'
theorem pt_cmpR {op : CmpOp} {r : R2} (ho : OpR X (compareOp op) r) (ha : PE X a ta) (hb : PE X b tb) (hm : behindInMarks op b = false) : PT X (.Compare a [op] [b] pos) (tTest (tOp r ta tb)) := by
 intro pins s σ H Q I h
 refine wpAny_isTrue_Compare1 (thn (ha pins s σ H _ I h) fun v s1 ⟨x, H1, I1, r1, q1⟩ => thn (hb pins s1 σ H1 _ I1 q1) fun u s2 ⟨y, H2, I2, r2, q2⟩ =>
  thn (ho pins s2 σ H2 x y v u _ I2 r1 r2 q2) fun c s3 ⟨z, H3, I3, r3, k, e, q3⟩ => ?_) hm
 subst e
 cases r3
 exact wpAny_truthy_bool ⟨H3, I3, q3⟩
def tChain (r r' : R2) (ta tb tc : TE) : TE := fun σ H Q => ta σ H fun x H1 => tb σ H1 fun y H2 => r x y H2 fun z H3 => ∃ k, z = .bl k ∧
 (if k = true then tc σ H3 fun w' H4 => r' y w' H4 Q else Q (.bl false) H3)
theorem pe_chain {op op' : CmpOp} {r r' : R2} (ho : OpR X (compareOp op) r) (ho' : OpR X (compareOp op') r') (ha : PE X a ta) (hb : PE X b tb) (hc : PE X c tc)
 (hm : lastMarks [op, op'] [b, c] = false := by with_unfolding_all rfl) : PE X (.Compare a [op, op'] [b, c] pos) (tChain r r' ta tb tc) := by
 intro pins s σ H Q I h
 refine Compare_chain (thn (ha pins s σ H _ I h) fun v s1 ⟨x, H1, I1, r1, q1⟩ => chain_link (thn (hb pins s1 σ H1 _ I1 q1) fun u s2 ⟨y, H2, I2, r2, q2⟩ =>
  thn (ho pins s2 σ H2 x y v u _ I2 r1 r2 q2) fun d s3 ⟨z, H3, I3, r3, k, e, q3⟩ => ?_)) hm
 subst e
 cases r3
 refine wpAny_truthy_bool ?_
 cases k with
 | false => exact ite_ff ⟨.bl false, H3, I3, rfl, q3⟩
 | true => exact ite_tt (chain_last (thn (hc pins s3 σ H3 _ I3 q3) fun w' s4 ⟨z', H4, I4, r4, q4⟩ => ho' pins s4 σ H4 y z' u w' Q I4 r2 r4 q4))
theorem pt_chain {op op' : CmpOp} {r r' : R2} (ho : OpR X (compareOp op) r) (ho' : OpR X (compareOp op') r') (ha : PE X a ta) (hb : PE X b tb) (hc : PE X c tc)
 (hm : lastMarks [op, op'] [b, c] = false := by with_unfolding_all rfl) : PT X (.Compare a [op, op'] [b, c] pos) (tTest (tChain r r' ta tb tc)) := by
 intro pins s σ H Q I h
 refine isTrue_chain (thn (ha pins s σ H _ I h) fun v s1 ⟨x, H1, I1, r1, q1⟩ => test_link (thn (hb pins s1 σ H1 _ I1 q1) fun u s2 ⟨y, H2, I2, r2, q2⟩ =>
  thn (ho pins s2 σ H2 x y v u _ I2 r1 r2 q2) fun d s3 ⟨z, H3, I3, r3, k, e, q3⟩ => ?_)) hm
 subst e
 cases r3
 refine wpAny_truthy_bool ?_
 cases k with
 | false =>
  obtain ⟨k', e', q'⟩ := q3
  cases e'
  exact ite_ff ⟨H3, I3, q'⟩
 | true =>
  refine ite_tt (test_last (thn (hc pins s3 σ H3 _ I3 q3) fun w' s4 ⟨z', H4, I4, r4, q4⟩ => thn (ho' pins s4 σ H4 y z' u w' _ I4 r2 r4 q4) fun d' s5 ⟨z2, H5, I5, r5, k2, e2, q5⟩ => ?_))
  subst e2
  cases r5
  exact wpAny_truthy_bool ⟨H5, I5, q5⟩
theorem line63 : (sizeLine : Nat) < 2 ^ 63 := by rw [sizeLine_eq]; decide
theorem vals1 {x : V} {us : List Value} (r : Vals [x] us) : ∃ u, us = [u] ∧ RelV x u := by
 cases r with
 | cons r1 r2 => cases r2; exact ⟨_, rfl, r1⟩
theorem vals2 {x y : V} {us : List Value} (r : Vals [x, y] us) : ∃ u w', us = [u, w'] ∧ RelV x u ∧ RelV y w' := by
 cases r with
 | cons r1 r2 =>
  cases r2 with
  | cons r3 r4 => cases r4; exact ⟨_, _, rfl, r1, r3⟩
theorem call_min2 (hc : X.calm = true) : CallR X (.builtin "min") (fun xs H Q => ∃ i j, xs = [.int i, .int j] ∧ Q (.int (if j < i then j else i)) H) := by
 intro pins s σ H xs us Q I r h
 obtain ⟨i, j, rfl, q⟩ := h
 obtain ⟨u, w', rfl, ⟨t, rfl⟩, ⟨t', rfl⟩⟩ := vals2 r
 refine min_two_ints (I.ok.hd hc) fun h' tk k => ⟨_, H, I.kept k, ?_, q⟩
 by_cases hj : j < i
 ·rw [if_pos hj, if_pos hj]; exact ⟨_, rfl⟩
 ·rw [if_neg hj, if_neg hj]; exact ⟨_, rfl⟩
theorem call_int1 : CallR X (.type "int") (fun xs H Q => (∃ i, xs = [.int i] ∧ Q (.int i) H) ∨ ∃ k, xs = [.bl k] ∧ Q (.int (if k then 1 else 0)) H) := by
 intro pins s σ H xs us Q I r h
 rcases h with ⟨i, rfl, q⟩ | ⟨k, rfl, q⟩
 ·obtain ⟨u, rfl, t, rfl⟩ := vals1 r
  exact call_int_int ⟨.int i, H, I, ⟨_, rfl⟩, q⟩
 ·obtain ⟨u, rfl, r1⟩ := vals1 r
  cases r1
  exact call_int_bool ⟨.int (if k then 1 else 0), H, I.tok _, ⟨_, rfl⟩, q⟩
end
end L2
namespace L2
open PySem PySem.Spec PyProof.Rows
structure ObjM (h : Heap) (x dx C : Addr) (mA : Str → Option Value) : Prop where
 obj : h.get? x = some (PySem.W.instObj C dx)
 ns : h.Ns1 dx mA
 ne : dx ≠ x
theorem lookIn_ns {h : Heap} {dx : Addr} {mA : Str → Option Value} (n : h.Ns1 dx mA) : ∃ od, h.get? dx = some od ∧ ∀ name, PySem.W.lookIn name od = some (mA name) := by
 obtain ⟨o, es, ep, ho, hd, hk, _, hm⟩ := n
 refine ⟨o, ho, fun name => ?_⟩
 have e := hm name
 unfold nsFind findBy at e
 rw [← Array.find?_toList] at e
 unfold PySem.W.lookIn
 rw [hd]
 dsimp only
 split
 ·rename_i y q
  rw [q] at e
  exact congrArg some e
 ·rename_i q
  rw [q] at e
  have a : es.toList.any (·.refKey) = false := by
   rw [List.any_eq_false]
   intro y hy
   obtain ⟨z, t, hkey⟩ := hk y (Array.mem_toList_iff.mp hy)
   simp [DictEntry.refKey, hkey]
  have a' : ¬ es.toList.any (·.refKey) = true := by rw [a]; exact Bool.false_ne_true
  rw [if_neg a']
  exact congrArg some e
theorem ObjM.look {h : Heap} {x dx C : Addr} {mA : Str → Option Value} (I : ObjM h x dx C mA) : ∃ od, PySem.W.InstAt h x (PySem.W.instObj C dx) C (some od) ∧ ∀ name, PySem.W.lookIn name od = some (mA name) :=
 let ⟨od, ho, hl⟩ := lookIn_ns I.ns
 ⟨od, ⟨I.obj, rfl, rfl, ho⟩, hl⟩
section
variable {prog : Program} {w : World} {A : Around} {E : Value → Shared → Prop} {s : Shared} {K : PySem.W.Frag} {x dx C f : Addr} {mA : Str → Option Value} {name : Str} {v : Value}
end
section
variable {P : Program} {w : World} {H H' : Hp} {h h' : Heap} {a C dx : Addr} {fs fs' : List (Str × V)}
theorem ins_get (hok : HOk P w H h) (e : H a = some (.ins C dx fs)) : ∃ mA, ObjM h a dx C mA ∧ (∀ f, RelO (fs.lookup f) (mA f)) ∧ PySem.Within mA (fs.map (·.1)) ∧ fs.length ≤ 1000 ∧ H dx = some (.own a) := by
 obtain ⟨d, z, ne, ob, mA, n, r, q⟩ := (show ObjOk P w H h a (.ins C dx fs) from hok a _ e)
 exact ⟨mA, ⟨ob, n, ne⟩, r, q, z, d⟩
end
structure Cls (K : PySem.W.Frag) (C : Addr) : Prop where
 pg : PySem.W.plainGet K C Str.empty = true
 hd : PySem.W.hasDictIn K C = true
 po : PySem.W.plainOver K C = true
 sa : PySem.W.findIn K (.ref C) "__setattr__" = some (some (.builtin "object.__setattr__"))
theorem Cls.get {K : PySem.W.Frag} {C : Addr} (c : Cls K C) (f : Str) : PySem.W.plainGet K C f = true := c.pg
structure Con (K : PySem.W.Frag) (C : Addr) (f : Str) (v : V) (u : Value) : Prop where
 at_ : PySem.W.findIn K (.ref C) f = some (some u)
 rel : RelV v u
 get : PySem.W.specialIn K u "__get__" = some none
 cp : PySem.W.copiedNames.contains f = false
structure Meth (K : PySem.W.Frag) (C : Addr) (m : Str) (f : Addr) : Prop where
 at_ : PySem.W.findIn K (.ref C) m = some (some (.ref f))
 fn : PySem.W.isFn K (.ref f) = true
 kp : PySem.W.keepIn K (.ref f) = true
section
variable {X : Cx} {pins : List (Addr × Obj)} {σ : St} {H : Hp} {s : Shared} {a C dx : Addr} {fs : List (Str × V)} {f : Str} {v : V} {A : Around} {E : Value → Shared → Prop}
end
section
variable {X : Cx} {o e value : Expr} {f : Str} {pos pos' tpos : Pos} {ta tv : TE}
end
section
variable {X : Cx} {pins : List (Addr × Obj)} {σ : St} {H : Hp} {s : Shared} {A : Around} {E : Value → Shared → Prop} {Q : Value → Shared → Prop} {c : Value} {b : Bool}
inductive TyOf (K : PySem.W.Frag) (H : Hp) : V → Value → Prop where
 | non : TyOf K H .non (.type "NoneType")
 | bl (x : Bool) : TyOf K H (.bl x) (.type "bool")
 | int (i : Int) : TyOf K H (.int i) (.type "int")
 | str (x : Str) : TyOf K H (.str x) (.type "str")
 | flt (x : UInt64) : TyOf K H (.flt x) (.type "float")
 | lst {a : Addr} {xs : List V} (e : H a = some (.lst xs)) : TyOf K H (.ref a) (.type "list")
 | frz {a : Addr} {o : Obj} {xs : List V} (e : H a = some (.frz o (.lst xs))) : TyOf K H (.ref a) (.type "list")
 | tup {a : Addr} {xs : List V} (e : H a = some (.tup xs)) : TyOf K H (.ref a) (.type "tuple")
 | dK {a : Addr} {kvs : List (Key × V)} (e : H a = some (.dK kvs)) : TyOf K H (.ref a) (.type "dict")
 | dT {a : Addr} {kvs : List (List Key × V)} (e : H a = some (.dT kvs)) : TyOf K H (.ref a) (.type "dict")
 | ins {a C dx : Addr} {fs : List (Str × V)} (e : H a = some (.ins C dx fs)) (cl : Cls K C) (ha : PySem.W.findIn K (.ref C) "__class__" = some (some (.builtin "object.__class__")))
  (hn : PySem.W.specialIn K (.builtin "object.__class__") "__get__" = some (some (.builtin "getset_descriptor.__get__"))) (htk : PySem.W.takesIn K (.builtin "object.__class__") = some true)
  (hm : PySem.W.mroIn K C (.type "object") = some true) : TyOf K H (.ref a) (.ref C)
theorem isinst_ok {x : V} {u t : Value} (I : Inv X pins σ H s) (rx : RelV x u) (ty : TyOf X.K H x t) (e : PySem.W.kitOne X.K t c = some b) (h : ∀ tk, Q (.bool b) { s with toks := tk }) :
 wpAny (model X.prog X.w) A (call (.builtin "isinstance") [u, c]) Q E s := by
 cases ty with
 | non => cases (show u = Value.none from rx); exact PySem.W.kia_one PySem.W.kitx_none I.kIn True.intro e (fun z => nomatch z) h
 | bl y => cases (show u = Value.bool y from rx); exact PySem.W.kia_one PySem.W.kitx_bool I.kIn True.intro e (fun z => nomatch z) h
 | int i => obtain ⟨t, q⟩ := (show ∃ t, u = Value.int i t from rx); cases q; exact PySem.W.kia_one PySem.W.kitx_int I.kIn True.intro e (fun z => nomatch z) h
 | str y => obtain ⟨t, q⟩ := (show ∃ t, u = Value.str y t from rx); cases q; exact PySem.W.kia_one PySem.W.kitx_str I.kIn True.intro e (fun z => nomatch z) h
 | flt y => obtain ⟨t, q⟩ := (show ∃ t, u = Value.float y t from rx); cases q; exact PySem.W.kia_one PySem.W.kitx_float I.kIn True.intro e (fun z => nomatch z) h
 | @lst a xs ea =>
  cases (show u = Value.ref a from rx)
  obtain ⟨_, _, n, _, h1⟩ := (show ObjOk X.prog X.w H s.heap a (.lst xs) from I.hok a _ ea)
  exact PySem.W.kia_one PySem.W.kitx_list I.kIn ⟨_, h1, rfl⟩ e (fun z => nomatch z) h
 | @frz a ob xs ea =>
  cases (show u = Value.ref a from rx)
  obtain ⟨_, _, _, n, _, h1⟩ := (show ObjOk X.prog X.w H s.heap a (.frz ob (.lst xs)) from I.hok a _ ea)
  exact PySem.W.kia_one PySem.W.kitx_list I.kIn ⟨_, h1, rfl⟩ e (fun z => nomatch z) h
 | @tup a xs ea =>
  cases (show u = Value.ref a from rx)
  obtain ⟨_, _, _, p⟩ := (show ObjOk X.prog X.w H s.heap a (.tup xs) from I.hok a _ ea)
  obtain ⟨o, h1, h2, _⟩ := p
  exact PySem.W.kia_one PySem.W.kitx_tuple I.kIn ⟨o, h1, h2⟩ e (fun z => nomatch z) h
 | @dK a kvs ea =>
  cases (show u = Value.ref a from rx)
  obtain ⟨_, _, vs, _, p⟩ := (show ObjOk X.prog X.w H s.heap a (.dK kvs) from I.hok a _ ea)
  obtain ⟨o, es, ep, h1, h2, _⟩ := p
  exact PySem.W.kia_one PySem.W.kitx_dict I.kIn ⟨o, h1, h2.1⟩ e (fun z => nomatch z) h
 | @dT a kvs ea =>
  cases (show u = Value.ref a from rx)
  obtain ⟨_, _, xs, _, o, es, ep, h1, h2, _⟩ := (show ObjOk X.prog X.w H s.heap a (.dT kvs) from I.hok a _ ea)
  exact PySem.W.kia_one PySem.W.kitx_dict I.kIn ⟨o, h1, h2.1⟩ e (fun z => nomatch z) h
 | @ins a C dx fs ea cl ha hn htk hm =>
  cases (show u = Value.ref a from rx)
  obtain ⟨mA, O, _⟩ := ins_get I.hok ea
  obtain ⟨od, J, _⟩ := O.look
  exact PySem.W.kia_one (PySem.W.kitx_own (cl.get _) cl.hd ha hn htk hm) I.kIn J e (fun z => nomatch z) h
end
end L2
namespace L2
open PySem PySem.Spec PyProof.Rows
structure Room (k : Nat) (A : Around) : Prop where
 hd : A.handled = none
 dp : A.depth + 3 * k + 5 < recursionLimit
 un : A.units + 16 * k + 200 < cLine
theorem Room.mono {j k : Nat} {A : Around} (r : Room k A) (h : j ≤ k) : Room j A := ⟨r.hd, by have := r.dp; omega, by have := r.un; omega⟩
theorem Room.deeper {k : Nat} {A : Around} (r : Room (k + 1) A) (env : Env) : Room k (A.deeper env) :=
 ⟨r.hd, by have := r.dp; show A.depth + 1 + 3 * k + 5 < _; omega, by have := r.un; show A.units + 3 + 16 * k + 200 < _; omega⟩
theorem Room.depth {k : Nat} {A : Around} (r : Room k A) : A.depth < recursionLimit := by have := r.dp; omega
theorem Room.units {k : Nat} {A : Around} (r : Room k A) : A.units + 64 < cLine := by have := r.un; omega
def tNil : TA := fun _ H Q => Q [] H
def tCons (ta : TE) (tr : TA) : TA := fun σ H Q => ta σ H fun x H1 => tr σ H1 fun xs H2 => Q (x :: xs) H2
section
variable {X : Cx} {e : Expr} {es : List Expr} {te : TE} {t : TA} {pos : Pos}
theorem pa_nil : PA X [] tNil := fun _ _ _ _ H Q I h => Calls.spliced_nil ⟨[], H, I, .nil, h⟩
theorem pa_cons (ha : PE X e te) (hr : PA X es t) (hs : starEach (e :: es) X.env = (false, eval e X.env) :: starEach es X.env := by rfl) : PA X (e :: es) (tCons te t) := by
 intro pos pins s σ H Q I h
 rw [hs]
 show wpAny _ _ (spliced ((false, eval e X.env) :: backTo pos (starEach es X.env))) _ _ s
 refine Calls.spliced_cons (thn (ha pins s σ H _ I h) fun u s1 ⟨x, H1, I1, r1, q1⟩ => ?_)
 exact thn (hr pos pins s1 σ H1 _ I1 q1) fun us s2 ⟨xs, H2, I2, r2, q2⟩ => ⟨x :: xs, H2, I2, .cons r1 r2, q2⟩
def tTup (t : TA) : TE := fun σ H Q => t σ H fun xs H1 => xs.length ≤ sizeLine ∧ ∀ p, H1 p = none → Q (.ref p) (upd H1 p (.tup xs))
def tLst (t : TA) : TE := fun σ H Q => t σ H fun xs H1 => xs.length ≤ sizeLine ∧ ∀ p, H1 p = none → Q (.ref p) (upd H1 p (.lst xs))
theorem pe_tup {x1} (h : PA X es t) : PE X (.Tuple es x1 pos) (tTup t) := by
 intro pins s σ H Q I hq
 refine wpAny_Tuple_spliced (thn (h pos pins s σ H _ I hq) fun us s1 ⟨xs, H1, I1, r, z, q⟩ => ⟨by rw [← r.length]; exact z, ?_⟩)
 have hf : H1 s1.heap.objs.size = none := I1.hok.fresh (Nat.le_refl _)
 refine ⟨.ref s1.heap.objs.size, upd H1 s1.heap.objs.size (.tup xs), I1.laid (t' := s1.toks) (fun b u e => Heap.get?_push_of_some _ e) (Nat.le_refl _) ?_, rfl, q _ hf⟩
 exact ⟨z, us, r, ⟨_, Heap.get?_push_size _ rfl, rfl, _, rfl⟩⟩
theorem pe_lst (h : PA X es t) : PE X (.List es pos) (tLst t) := by
 intro pins s σ H Q I hq
 refine wpAny_List_spliced (thn (h pos pins s σ H _ I hq) fun us s1 ⟨xs, H1, I1, r, z, q⟩ => ⟨by rw [← r.length]; exact z, ?_⟩)
 have hf : H1 s1.heap.objs.size = none := I1.hok.fresh (Nat.le_refl _)
 refine ⟨.ref s1.heap.objs.size, upd H1 s1.heap.objs.size (.lst xs), I1.laid (t' := s1.toks) (fun b u e => Heap.get?_push_of_some _ e) (Nat.le_refl _) ?_, rfl, q _ hf⟩
 exact ⟨z, us, 0, r, Heap.get?_push_size _ rfl⟩
end
abbrev Sp := List V → Hp → VK → XK → Prop
abbrev CXT := List Env → Hp → Shared → XK → Value → Shared → Prop
structure Env0 (P : Program) (w : World) (K : PySem.W.Frag) (mg : Str → Option Value) (base : Heap) (A : Around) (outer : List Env) (s : Shared) (H : Hp) : Prop where
 frames : A.frames = some outer
 mod : Mod K mg base
 bs : ∀ b o, base.get? b = some o → s.heap.get? b = some o ∧ H b = none
 bsz : base.objs.size ≤ s.heap.objs.size
 funs : s.heap.FunFrames base outer
 frf : ∀ b ∈ frs outer, H b = none
 hok : HOk P w H s.heap
 bare : AllBare s.gens
def CE (outer : List Env) (P : Program) (w : World) (H : Hp) (s : Shared) (Q : VK) (u : Value) (s' : Shared) : Prop :=
 ∃ v H', s'.os = s.os ∧ AllBare s'.gens ∧ Un (frs outer) [] H H' s.heap s'.heap ∧ HOk P w H' s'.heap ∧ RelV v u ∧ Q v H'
def CR (CX : CXT) (outer : List Env) (P : Program) (w : World) (H : Hp) (s : Shared) (Q : VK) (E : XK) (r : Result) (s' : Shared) : Prop :=
 match r with
 | .ok (.ret u) => CE outer P w H s Q u s'
 | .ok _ => False
 | .error e => CX outer H s E e s'
structure FnOk (P : Program) (w : World) (K : PySem.W.Frag) (mg : Str → Option Value) (base : Heap) (CX : CXT) (k : Nat) (f : Addr) (fd : FuncData) (ps : List Str) (sp : Sp) : Prop where
 len : ∀ vs H Q E, sp vs H Q E → vs.length = ps.length
 run : ∀ (A : Around) (outer : List Env) (s : Shared) (H : Hp) (args : Args) (us : List Value) (vs : List V) (Q : VK) (E : XK), Room k A → Env0 P w K mg base A outer s H → BindsTo s fd args (ps.zip us) → Vals vs us → sp vs H Q E →
  codeAny (model P w) A (.call (.ref f) args) (CR CX outer P w H s Q E) s
theorem FnOk.mono {P : Program} {w : World} {K : PySem.W.Frag} {mg : Str → Option Value} {base : Heap} {CX : CXT} {j k : Nat} {f : Addr} {fd : FuncData} {ps : List Str} {sp : Sp} (F : FnOk P w K mg base CX j f fd ps sp) (h : j ≤ k) :
 FnOk P w K mg base CX k f fd ps sp := ⟨F.len, fun A outer s H args us vs Q E hr => F.run A outer s H args us vs Q E (hr.mono h)⟩
theorem FnOk.imp {P : Program} {w : World} {K : PySem.W.Frag} {mg : Str → Option Value} {base : Heap} {CX : CXT} {k : Nat} {f : Addr} {fd : FuncData} {ps : List Str} {sp sp' : Sp} (F : FnOk P w K mg base CX k f fd ps sp)
 (h : ∀ vs H Q E, sp' vs H Q E → sp vs H Q E) : FnOk P w K mg base CX k f fd ps sp' :=
 ⟨fun vs H Q E q => F.len vs H Q E (h _ _ _ _ q), fun A outer s H args us vs Q E hr he hb hv hs => F.run A outer s H args us vs Q E hr he hb hv (h _ _ _ _ hs)⟩
section
variable {X : Cx} {pins : List (Addr × Obj)} {σ : St} {H : Hp} {s s' : Shared}
theorem Inv.env0 (I : Inv X pins σ H s) : Env0 X.prog X.w X.K X.mg X.base X.A X.stack s H :=
 ⟨I.ok.frames, I.ok.mod, I.bs, Nat.le_trans I.ok.bsz I.sz, I.stack, I.stkFree, I.hok, I.bare⟩
theorem Inv.after {Q : VK} {u : Value} (I : Inv X pins σ H s) (h : CE X.stack X.prog X.w H s Q u s') : EP X pins σ Q u s' := by
 obtain ⟨v, H', os, bare, un, hok, r, q⟩ := h
 obtain ⟨hh, g, d, t, os'⟩ := s'
 obtain rfl : os' = s.os := os
 exact ⟨v, H', I.call (h' := hh) (g' := g) (d' := d) (t' := t) (ch := []) un hok bare (fun b z => absurd z (by simp)), r, q⟩
end
def tCall (sp : Sp) (dvs : List V) (E : XK) (t : TA) : TE := fun σ H Q => t σ H fun vs H1 => sp (vs ++ dvs) H1 Q E
def Binds (K : PySem.W.Frag) (fd : FuncData) (ps : List Str) (ds : List Value) : Prop :=
 ∀ (s : Shared) (us : List Value), K.In s.heap → (us ++ ds).length = ps.length → BindsTo s fd ⟨us, []⟩ (ps.zip (us ++ ds))
theorem Binds.all {K : PySem.W.Frag} {fd : FuncData} {ps : List Str} (h : ∀ us : List Value, us.length = ps.length → bindArgs fd ⟨us, []⟩ = pure (ps.zip us)) : Binds K fd ps [] := fun s us _ hl => by
 rw [List.append_nil] at hl ⊢
 exact .of_eq (h us hl)
def Passes (CX : CXT) (X : Cx) (E : XK) : Prop := ∀ (pins : List (Addr × Obj)) (σ : St) (H : Hp) (s : Shared) (e : Value) (s' : Shared), Inv X pins σ H s → CX X.stack H s E e s' → X.xe e s'
section
variable {X : Cx} {CX : CXT} {k : Nat} {f C : Addr} {fd : FuncData} {ps : List Str} {sp : Sp} {dvs : List V} {ds : List Value} {E : XK} {x m : Str} {p pos apos : Pos} {e o : Expr} {es : List Expr} {ta : TE} {t : TA}
theorem run_fn {pins : List (Addr × Obj)} {σ : St} {H : Hp} {s : Shared} {Q : VK} {us : List Value} {vs : List V} (F : FnOk X.prog X.w X.K X.mg X.base CX k f fd ps sp) (hr : Room k X.A) (hb : Binds X.K fd ps ds) (hd : Vals dvs ds) (hx : Passes CX X E)
 (I : Inv X pins σ H s) (r : Vals vs us) (h : sp (vs ++ dvs) H Q E) : wpAny (model X.prog X.w) X.A (call (.ref f) us) (EP X pins σ Q) X.xe s := by
 have r2 : Vals (vs ++ dvs) (us ++ ds) := r.append hd
 have hl : (us ++ ds).length = ps.length := by rw [← r2.length]; exact F.len _ _ _ _ h
 refine wpAny_call (codeAny_mono (F.run X.A X.stack s H ⟨us, []⟩ (us ++ ds) (vs ++ dvs) Q E hr I.env0 (hb s us I.kIn hl) r2 h) fun r s' hq => ?_)
 cases r with
 | error e => exact hx pins σ H s e s' I hq
 | ok fl =>
  cases fl with
  | ret u => exact I.after hq
  | next => exact False.elim hq
  | brk => exact False.elim hq
  | cont => exact False.elim hq
theorem pe_call (F : FnOk X.prog X.w X.K X.mg X.base CX k f fd ps sp) (hr : Room k X.A) (hg : Gl X x) (hm : X.mg x = some (.ref f)) (hk : PySem.W.keepIn X.K (.ref f) = true) (hb : Binds X.K fd ps ds) (hd : Vals dvs ds) (hx : Passes CX X E)
 (ha : PA X (e :: es) t) (hdb : (x == ("__debug__" : Str)) = false := by decide) (he : starEach (e :: es) X.env = (false, eval e X.env) :: starEach es X.env := by rfl) (hpl : (backTo pos (starEach es X.env)).any (·.1) = false := by rfl) :
 PE X (.Call (.Name x p) (e :: es) [] pos) (tCall sp dvs E t) := by
 intro pins s σ H Q I h
 refine wpAny_Call_Name_kw (ld_glob I hg hm ?_ hdb)
 refine PySem.W.callWith_K (h₀ := X.base) I.ok.mod.kin hk (thn (ha pos pins s σ H _ I h) fun us s1 ⟨vs, H1, I1, r, q⟩ => ⟨I1.kIn, ?_⟩) he hpl
 exact run_fn F hr hb hd hx I1 r q
structure Mk (K : PySem.W.Frag) (C f : Addr) : Prop where
 makes : PySem.W.makesIn K C = true
 init : PySem.W.findIn K (.ref C) "__init__" = some (some (.ref f))
 fn : PySem.W.isFn K (.ref f) = true
 kp : PySem.W.keepIn K (.ref C) = true
end
section
variable {X : Cx} {CX : CXT} {k : Nat} {f C : Addr} {fd : FuncData} {ps ks : List Str} {sp : Sp} {E : XK} {x m : Str} {p pos apos kpos : Pos} {e o : Expr} {es : List Expr} {kws : List Keyword} {te ta : TE} {t tk : TA} {nm : Option Str}
structure KBinds (K : PySem.W.Frag) (fd : FuncData) (ps ks : List Str) (g : List Value → List Value → List Value) (gV : List V → List V → List V) : Prop where
 to : ∀ (s : Shared) (us ws : List Value), K.In s.heap → (g us ws).length = ps.length → BindsTo s fd ⟨us, ks.zip ws⟩ (ps.zip (g us ws))
 rel : ∀ {vs : List V} {us : List Value} {zs : List V} {ws : List Value}, Vals vs us → Vals zs ws → Vals (gV vs zs) (g us ws)
variable {g : List Value → List Value → List Value} {gV : List V → List V → List V}
end
structure FnScope (N P : List Str) (sc : Scope) : Prop where
 kind : sc.kind = .function
 co : sc.isCoroutine = false
 gen : sc.isGenerator = false
 nd : N.Nodup
 pre : N.take P.length = P
 par : ∀ x ∈ P, sc.names.lookup x = some .local ∨ sc.names.lookup x = some .cell
 nofree : ∀ y ∈ sc.names, y.2 ≠ .free
theorem bindL_out {kindOf : Str → Option NameKind} {x : Str} : ∀ {binds : List (Str × Value)} {m : Str → Option Value}, (∀ v, (x, v) ∉ binds) → bindL kindOf binds m x = m x
 | [], _, _ => rfl
 | (n, v) :: r, m, h => by
  unfold bindL
  rw [bindL_out fun w hw => h w (List.mem_cons_of_mem _ hw)]
  split
  ·have : x ≠ n := by rintro rfl; exact h v List.mem_cons_self
   simp [this]
  ·rfl
theorem bindC_out {kindOf : Str → Option NameKind} {x : Str} : ∀ {binds : List (Str × Value)} {m : Str → Option Value}, (∀ v, (x, v) ∉ binds) → bindC kindOf binds m x = m x
 | [], _, _ => rfl
 | (n, v) :: r, m, h => by
  unfold bindC
  rw [bindC_out fun w hw => h w (List.mem_cons_of_mem _ hw)]
  split
  ·rfl
  ·have : x ≠ n := by rintro rfl; exact h v List.mem_cons_self
   simp [this]
theorem bindL_get {kindOf : Str → Option NameKind} {x : Str} {v : Value} : ∀ {P : List Str} {vs : List Value} {i : Nat} {m : Str → Option Value}, P.Nodup → P[i]? = some x → vs[i]? = some v → kindOf x = some .local →
 bindL kindOf (P.zip vs) m x = some v
 | [], _, _, _, _, h, _, _ => by simp at h
 | _ :: _, [], _, _, _, _, h, _ => by simp at h
 | p :: P, w :: vs, 0, m, nd, h1, h2, hk => by
  simp at h1 h2; subst h1; subst h2
  show bindL kindOf ((p, w) :: P.zip vs) m p = _
  unfold bindL
  rw [bindL_out fun v hv => (List.nodup_cons.mp nd).1 (List.of_mem_zip hv).1, if_pos hk]
  simp
 | p :: P, w :: vs, i + 1, m, nd, h1, h2, hk => by
  show bindL kindOf ((p, w) :: P.zip vs) m x = _
  unfold bindL
  exact bindL_get (i := i) (List.nodup_cons.mp nd).2 (by simpa using h1) (by simpa using h2) hk
theorem bindC_get {kindOf : Str → Option NameKind} {x : Str} {v : Value} : ∀ {P : List Str} {vs : List Value} {i : Nat} {m : Str → Option Value}, P.Nodup → P[i]? = some x → vs[i]? = some v → kindOf x ≠ some .local →
 bindC kindOf (P.zip vs) m x = some v
 | [], _, _, _, _, h, _, _ => by simp at h
 | _ :: _, [], _, _, _, _, h, _ => by simp at h
 | p :: P, w :: vs, 0, m, nd, h1, h2, hk => by
  simp at h1 h2; subst h1; subst h2
  show bindC kindOf ((p, w) :: P.zip vs) m p = _
  unfold bindC
  rw [bindC_out fun v hv => (List.nodup_cons.mp nd).1 (List.of_mem_zip hv).1, if_neg hk]
  simp
 | p :: P, w :: vs, i + 1, m, nd, h1, h2, hk => by
  show bindC kindOf ((p, w) :: P.zip vs) m x = _
  unfold bindC
  exact bindC_get (i := i) (List.nodup_cons.mp nd).2 (by simpa using h1) (by simpa using h2) hk
def start (N : List Str) (vs : List V) : St := vs.map some ++ List.replicate (N.length - vs.length) none
def cxOf (CX : CXT) (P : Program) (w : World) (K : PySem.W.Frag) (mg : Str → Option Value) (base : Heap) (N : List Str) (qual : Str) (scope : Scope) (f : Addr) (cd : Value) (A : Around) (outer : List Env) (s : Shared) (H : Hp) (E : XK) : Cx where
 prog := P
 w := w
 K := K
 mg := mg
 base := base
 A := A.deeper (envOfC qual scope s.heap.objs.size f cd)
 N := N
 s₀ := s
 H₀ := H
 env := envOfC qual scope s.heap.objs.size f cd
 outer := outer
 stack := envOfC qual scope s.heap.objs.size f cd :: outer
 ex := []
 calm := true
 fn := fun _ => true
 pn := []
 xe := fun e s' => wpAny (model P w) (A.deeper (envOfC qual scope s.heap.objs.size f cd)) (leaving (envOfC qual scope s.heap.objs.size f cd) e) (fun _ s'' => CX outer H s E e s'') (fun e' s'' => CX outer H s E e' s'') s'
theorem cell_has {sc : Scope} {n : Nat} {x : Str} (h : sc.names.lookup x = some .cell) : ∃ c, (cellsFrom n sc.names []).lookup x = some c := by
 have q := PySem.W.cellsFrom_some sc.names n [] (.inl h)
 exact Option.isSome_iff_exists.mp q
theorem inv_start {CX : CXT} {P : Program} {w : World} {K : PySem.W.Frag} {mg : Str → Option Value} {base : Heap} {N ps : List Str} {qual : Str} {scope : Scope} {f : Addr} {cd : Value} {A : Around} {outer : List Env} {s s1 : Shared} {H : Hp} {E : XK} {us : List Value} {vs : List V}
 (S : FnScope N ps scope) (hd : A.handled = none) (e0 : Env0 P w K mg base A outer s H) (hl : vs.length = ps.length) (r : Vals vs us)
 (x : InCallC s s.heap.objs.size (bindL (envOfC qual scope s.heap.objs.size f cd).kindOf (ps.zip us) fun _ => none) (cellsFrom (s.heap.objs.size + 1) scope.names []) (bindC (envOfC qual scope s.heap.objs.size f cd).kindOf (ps.zip us) fun _ => none) s1) :
 Inv (cxOf CX P w K mg base N qual scope f cd A outer s H E) [] (start N vs) H s1 := by
 have hpl : ps.length ≤ N.length := by have := congrArg List.length S.pre; rw [List.length_take] at this; omega
 obtain ⟨h1, tk, rfl, hk⟩ := x.done
 have noA : ∀ b : Addr, b ∉ (cxOf CX P w K mg base N qual scope f cd A outer s H E).ex := fun b z => absurd (show b ∈ ([] : List Addr) from z) (by simp)
 refine ⟨⟨e0.mod, S.kind, rfl, rfl, Nat.le_refl _, fun y z c h1 h2 => ?_, fun y hy => ?_, fun y c _ h => ?_, fun _ => hd, Around.frames_deeper e0.frames, .inr ⟨rfl, rfl⟩, fun b z => absurd z (noA b), e0.bs, e0.bsz, fun b _ _ => noA b, fun b z => absurd z (noA b), e0.funs, e0.frf⟩,
  rfl, e0.bare, Un.kept hk, ⟨_, x.toInCall.ns, fun i y v h1 h2 h3 => ?_⟩, fun y c h => ⟨_, x.cell y c h⟩, e0.hok.fresh (Nat.le_refl _), fun y c h => ?_, fun p hp => absurd (show p ∈ ([] : List (Addr × Obj)) from hp) (by simp), e0.hok.kept hk, ?_⟩
 ·exact name_of_addr x.apart (PySem.mem_of_lookup h1) (PySem.mem_of_lookup h2)
 ·have hy : scope.names.lookup y = some .cell ∨ scope.names.lookup y = some .free := hy
  rcases hy with hy | hy
  ·exact cell_has hy
  ·exact absurd rfl (S.nofree _ (PySem.mem_of_lookup hy))
 ·exact Nat.le_of_lt (x.above y c (PySem.mem_of_lookup h))
 ·have hi : i < vs.length := by
   unfold start at h2
   by_cases hi : i < vs.length
   ·exact hi
   ·rw [List.getElem?_append_right (by simpa using hi)] at h2
    rw [List.getElem?_replicate] at h2
    split at h2 <;> cases h2
  have ha : vs[i]? = some v := by
   unfold start at h2
   rw [List.getElem?_append_left (by simpa using hi), List.getElem?_map] at h2
   cases e : vs[i]? with
   | none => rw [e] at h2; cases h2
   | some a => rw [e] at h2; cases h2; rfl
  obtain ⟨u, hu, rv⟩ := r.get ha
  have hp : ps[i]? = some y := by
   rw [← S.pre, List.getElem?_take_of_lt (by omega)]; exact h1
  have ndP : ps.Nodup := by rw [← S.pre]; exact S.nd.sublist (List.take_sublist _ _)
  refine ⟨u, rv, ?_⟩
  rcases S.par y (List.mem_of_getElem? hp) with k | k
  ·exact .inl ⟨k, bindL_get ndP hp hu k⟩
  ·obtain ⟨c, e⟩ := cell_has (n := s.heap.objs.size + 1) k
   refine .inr ⟨.inl k, c, e, ?_⟩
   have q := x.cell y c e
   rw [bindC_get ndP hp hu (by show scope.names.lookup y ≠ _; rw [k]; decide)] at q
   exact q
 ·exact e0.hok.fresh (Nat.le_of_lt (x.above y c (PySem.mem_of_lookup h)))
 ·unfold start
  show _ = N.length
  rw [List.length_append, List.length_map, List.length_replicate]
  omega
theorem fn_of {CX : CXT} {P : Program} {w : World} {K : PySem.W.Frag} {mg : Str → Option Value} {base : Heap} {k : Nat} {f : Addr} {name qual : Str} {params : Arguments} {body : List Stmt} {scope : Scope} {dV kV doc pm cdv ct oc : Value} {an od : Option Addr}
 {osl : Array (Option Value)} {N ps : List Str} {sp : Sp} (lk : K.lookup f = some ⟨oc, od, .func (PySem.W.fnOf name qual params body scope dV kV doc pm an cdv ct), osl⟩) (hcd : PySem.W.codeIn K cdv qual = true) (S : FnScope N ps scope)
 (len : ∀ vs H Q E, sp vs H Q E → vs.length = ps.length)
 (hbody : ∀ (A : Around) (outer : List Env) (s : Shared) (H : Hp) (vs : List V) (Q : VK) (E : XK), Room k (A.deeper (envOfC qual scope s.heap.objs.size f cdv)) → sp vs H Q E →
  ∃ t, PSs (cxOf CX P w K mg base N qual scope f cdv A outer s H E) body t ∧ t { nx := fun _ H' => Q .non H', rt := Q } (start N vs) H) :
 FnOk P w K mg base CX (k + 1) f (PySem.W.fnOf name qual params body scope dV kV doc pm an cdv ct) ps sp := by
 refine ⟨len, fun A outer s H args us vs Q E hr e0 hb r hsp => ?_⟩
 have hl := len _ _ _ _ hsp
 have KX : K.In s.heap := e0.mod.kin.keeps fun b o e => (e0.bs b o e).1
 have lim : s.heap.NoLimit := e0.mod.nolimit.keeps fun b o e => (e0.bs b o e).1
 have hkind : ∀ y ∈ ps.zip us, scope.names.lookup y.1 = some .local ∨ (scope.names.lookup y.1 = some .cell ∧ ((cellsFrom (s.heap.objs.size + 1) scope.names []).lookup y.1).isSome = true) := fun ⟨n, v⟩ hy => by
  rcases S.par n (List.of_mem_zip hy).1 with q | q
  ·exact .inl q
  ·exact .inr ⟨q, PySem.W.cellsFrom_some _ _ _ (.inl q)⟩
 refine codeAny_call_function hr.depth (KX _ _ lk) rfl S.co S.gen rfl (PySem.W.codeRec_of KX hcd) (hb _ _ _ _ ?_)
 refine wpAny_newFunctionEnv_cells S.kind hkind fun env he s1 x => ?_
 subst he
 refine ⟨lim.keeps x.toInCall.keep, codeAny_func ?_⟩
 obtain ⟨t, ht, hq⟩ := hbody A outer s H vs Q E (hr.deeper _) hsp
 have I : Inv (cxOf CX P w K mg base N qual scope f cdv A outer s H E) [] (start N vs) H s1 := inv_start S hr.hd e0 hl r x
 refine wpAny_mono (ht [] s1 (start N vs) H _ I hq) (fun fl s' hs => ?_) fun e s' hs => hs
 have fin : ∀ {σ' : St} {H' : Hp} {v : V} {u : Value}, Inv (cxOf CX P w K mg base N qual scope f cdv A outer s H E) [] σ' H' s' → RelV v u → Q v H' → CE outer P w H s Q u s' :=
  fun {σ' H' v u} J rv q => ⟨v, H', J.os, J.bare, J.base, J.hok, rv, q⟩
 cases fl with
 | ret u =>
  obtain ⟨v, σ', H', J, rv, q⟩ := hs
  exact fin J rv q
 | next =>
  obtain ⟨σ', H', J, q⟩ := hs
  exact fin (v := V.non) (u := Value.none) J rfl q
 | brk =>
  obtain ⟨_, _, _, q⟩ := hs
  exact False.elim q
 | cont =>
  obtain ⟨_, _, _, q⟩ := hs
  exact False.elim q
end L2
namespace L2
open PySem PySem.Spec PyProof.Rows
section
variable {X : Cx} {x : Str} {p pos : Pos} {e : Expr} {es : List Expr} {t : TA} {id T : String} {r : List V → Hp → VK → Prop}
def tCB (r : List V → Hp → VK → Prop) (t : TA) : TE := fun σ H Q => t σ H fun vs H1 => r vs H1 Q
theorem pe_callB (hc : CallR X (.builtin id) r) (hg : Gl X x) (hm : X.mg x = none) (hv : bootBuiltins x = some (.builtin id)) (ha : PA X (e :: es) t) (hn : x ≠ "__name__" := by decide) (hdb : (x == ("__debug__" : Str)) = false := by decide)
 (he : starEach (e :: es) X.env = (false, eval e X.env) :: starEach es X.env := by rfl) (hpl : (backTo pos (starEach es X.env)).any (·.1) = false := by rfl) : PE X (.Call (.Name x p) (e :: es) [] pos) (tCB r t) := by
 intro pins s σ H Q I h
 refine wpAny_Call_Name_kw (ld_blt I hg hm hv ?_ hn hdb)
 exact PyProof.Rows.callWith_builtin1 (thn (ha pos pins s σ H _ I h) fun us s1 ⟨vs, H1, I1, r1, q1⟩ => hc pins s1 σ H1 vs us Q I1 r1 q1) he hpl
theorem pe_callTy (hc : CallR X (.type T) r) (hg : Gl X x) (hm : X.mg x = none) (hv : bootBuiltins x = some (.type T)) (ha : PA X (e :: es) t) (hn : x ≠ "__name__" := by decide) (hdb : (x == ("__debug__" : Str)) = false := by decide)
 (he : starEach (e :: es) X.env = (false, eval e X.env) :: starEach es X.env := by rfl) (hpl : (backTo pos (starEach es X.env)).any (·.1) = false := by rfl) : PE X (.Call (.Name x p) (e :: es) [] pos) (tCB r t) := by
 intro pins s σ H Q I h
 refine wpAny_Call_Name_kw (ld_blt I hg hm hv ?_ hn hdb)
 exact PyProof.Rows.callWith_type1 (thn (ha pos pins s σ H _ I h) fun us s1 ⟨vs, H1, I1, r1, q1⟩ => hc pins s1 σ H1 vs us Q I1 r1 q1) he hpl
end
end L2
namespace HT
open PySem PyProof.Rows
section
open PySem.SeqAt
open PySem.AutoSeq1 (wpAny_loadPart')
open PySem.MeetsSeq PySem.MeetsSeq2 PySem.MeetsSeq3
end
section
variable {prog : Program} {w : World} {A : Around} {E : Value → Shared → Prop} {s : Shared}
def sIx (n d : Nat) : Option Int → Nat
 | none => d
 | some v => if v < 0 then (v + (n : Int)).toNat else min v.toNat n
end
end HT
namespace L2
open PySem PySem.Spec PyProof.Rows
abbrev TO := St → Hp → (Option Int → Hp → Prop) → Prop
def PO (X : Cx) (e : Option Expr) (t : TO) : Prop :=
 ∀ (pins : List (Addr × Obj)) (s : Shared) (σ : St) (H : Hp) (Q : Option Int → Hp → Prop), Inv X pins σ H s → t σ H Q →
  wpAny (model X.prog X.w) X.A (evalPart e X.env) (fun u s' => ∃ o H', Inv X pins σ H' s' ∧ IsPart u o ∧ Q o H') X.xe s
def tNoPart : TO := fun _ H Q => Q none H
def tPart (t : TE) : TO := fun σ H Q => t σ H fun x H1 => ∃ i, x = .int i ∧ Q (some i) H1
section
variable {X : Cx} {e : Expr} {te : TE} {lo hi : Option Expr} {tl th : TO} {pos p2 : Pos}
theorem po_none : PO X none tNoPart := by
 intro pins s σ H Q I h
 rw [evalPart_none]
 exact wpAny_pure ⟨none, H, I, .none, h⟩
theorem po_some (h : PE X e te) : PO X (some e) (tPart te) := by
 intro pins s σ H Q I hw
 rw [evalPart_some]
 refine thn (h pins s σ H _ I hw) fun u s1 ⟨x, H1, I1, r1, q1⟩ => ?_
 obtain ⟨i, rfl, q⟩ := q1
 obtain ⟨t, rfl⟩ := r1
 exact ⟨some i, H1, I1, .int i t, q⟩
def SlR (X : Cx) (r : V → Option Int → Option Int → Hp → VK → Prop) : Prop :=
 ∀ (pins : List (Addr × Obj)) (s : Shared) (σ : St) (H : Hp) (x : V) (v vl vu : Value) (lo hi : Option Int) (sl : Addr) (Q : VK), Inv X pins σ H s → RelV x v → s.heap.IsSliceOf sl vl vu .none → IsPart vl lo → IsPart vu hi → r x lo hi H Q →
  ∃ T id, typeLookup (.type T) "__getitem__" = pure (some (.builtin id)) ∧ s.TypeIs v T ∧ wpAny (model X.prog X.w) X.A (getItem v (.ref sl)) (EP X pins σ Q) X.xe s
def tSl (r : V → Option Int → Option Int → Hp → VK → Prop) (te : TE) (tl th : TO) : TE := fun σ H Q => te σ H fun x H1 => tl σ H1 fun l H2 => th σ H2 fun u H3 => r x l u H3 Q
theorem pe_slice {r : V → Option Int → Option Int → Hp → VK → Prop} (hr : SlR X r) (he : PE X e te) (hl : PO X lo tl) (hu : PO X hi th) : PE X (.Subscript e (.Slice lo hi none p2) pos) (tSl r te tl th) := by
 intro pins s σ H Q I h
 refine Subscript_ (thn (he pins s σ H _ I h) fun v s1 ⟨x, H1, I1, r1, q1⟩ => ?_)
 refine wpAny_Slice (thn (hl pins s1 σ H1 _ I1 q1) fun vl s2 ⟨l, H2, I2, pl, q2⟩ => thn (hu pins s2 σ H2 _ I2 q2) fun vu s3 ⟨u, H3, I3, pu, q3⟩ => ?_)
 rw [evalPart_none]
 refine wpAny_pure ?_
 have I4 : Inv X pins σ H3 { s3 with heap := s3.heap.push { cls := .type "slice", data := .fields #[vl, vu, .none] } } := I3.kept (t' := s3.toks) fun b ob q => Heap.get?_push_of_some _ q
 obtain ⟨T, id, hT, ht, hg⟩ := hr pins { s3 with heap := s3.heap.push { cls := .type "slice", data := .fields #[vl, vu, .none] } } σ H3 x v vl vu l u s3.heap.objs.size Q I4 r1 (Heap.IsSliceOf.new ..) pl pu q3
 show wpAny (model X.prog X.w) X.A (subscriptTail e (.Slice lo hi none p2) v (.ref s3.heap.objs.size)) (EP X pins σ Q) X.xe { s3 with heap := s3.heap.push { cls := .type "slice", data := .fields #[vl, vu, .none] } }
 exact tail_any (ops := [.ref s3.heap.objs.size, v]) ht hT hg (by with_unfolding_all rfl)
def cutV (xs : List V) (lo hi : Option Int) : List V := (xs.drop (HT.sIx xs.length 0 lo)).take (HT.sIx xs.length xs.length hi - HT.sIx xs.length 0 lo)
theorem cutV_length (xs : List V) (lo hi : Option Int) : (cutV xs lo hi).length ≤ xs.length := by
 unfold cutV
 rw [List.length_take, List.length_drop]
 omega
end
end L2
namespace L2
open PySem PySem.Spec PyProof.Rows
def ixN (n : Nat) (i : Int) : Option Nat := if 0 ≤ i then (if i < n then some i.toNat else none) else if -(n : Int) ≤ i then some (i + n).toNat else none
def atI {α : Type} (xs : List α) (i : Int) : Option α := (ixN xs.length i).bind fun j => xs[j]?
theorem ixN_seq {n : Nat} {i : Int} {j : Nat} (h : ixN n i = some j) : seqIndex? i n = some j ∧ j < n ∧ -(n : Int) ≤ i ∧ i < n := by
 unfold ixN at h
 by_cases h0 : 0 ≤ i
 ·rw [if_pos h0] at h
  by_cases h1 : i < n
  ·rw [if_pos h1] at h
   have e : i.toNat = j := Option.some.inj h
   exact ⟨by rw [seqIndex_of h0 h1, e], by omega, by omega, h1⟩
  ·rw [if_neg h1] at h; cases h
 ·rw [if_neg h0] at h
  by_cases h1 : -(n : Int) ≤ i
  ·rw [if_pos h1] at h
   have e : (i + n).toNat = j := Option.some.inj h
   exact ⟨by rw [seqIndex_neg (by omega) h1, e], by omega, h1, by omega⟩
  ·rw [if_neg h1] at h; cases h
theorem atI_get {α : Type} {xs : List α} {i : Int} {v : α} (h : atI xs i = some v) : ∃ j, seqIndex? i xs.length = some j ∧ xs[j]? = some v ∧ j < xs.length ∧ -(xs.length : Int) ≤ i ∧ i < xs.length := by
 unfold atI at h
 cases e : ixN xs.length i with
 | none => rw [e] at h; cases h
 | some j =>
  rw [e] at h
  obtain ⟨h1, h2, h3, h4⟩ := ixN_seq e
  exact ⟨j, h1, h, h2, h3, h4⟩
def PlainIx (b : Expr) : Prop := ∀ o i, subscripted b false o i = operate [o, i] (getItem o i)
def IxR (X : Cx) (r : R2) : Prop :=
 ∀ (value slice : Expr) (pins : List (Addr × Obj)) (s : Shared) (σ : St) (H : Hp) (x y : V) (v u : Value) (Q : VK), Inv X pins σ H s → RelV x v → RelV y u → r x y H Q →
  subscripted slice false v u = operate [v, u] (getItem v u) → wpAny (model X.prog X.w) X.A (subscriptTail value slice v u) (EP X pins σ Q) X.xe s
def MtR (X : Cx) (id : String) (r : V → List V → Hp → VK → Prop) : Prop :=
 ∀ (pins : List (Addr × Obj)) (s : Shared) (σ : St) (H : Hp) (x : V) (xs : List V) (v : Value) (us : List Value) (Q : VK), Inv X pins σ H s → RelV x v → Vals xs us → r x xs H Q →
  wpAny (model X.prog X.w) X.A (call (.builtin id) (v :: us)) (EP X pins σ Q) X.xe s
section
variable {X : Cx} {a b : Expr} {ta tb : TE} {pos : Pos}
theorem IxR.or {r r' : R2} (h : IxR X r) (h' : IxR X r') : IxR X (fun x y H Q => r x y H Q ∨ r' x y H Q) := by
 intro value slice pins s σ H x y v u Q I rx ry q hs
 rcases q with q | q
 ·exact h value slice pins s σ H x y v u Q I rx ry q hs
 ·exact h' value slice pins s σ H x y v u Q I rx ry q hs
theorem pe_ix {r : R2} (hr : IxR X r) (ha : PE X a ta) (hb : PE X b tb) (hs : PlainIx b) : PE X (.Subscript a b pos) (tOp r ta tb) := by
 intro pins s σ H Q I h
 exact Subscript_ (binT ha hb I h fun v u s2 x y H2 I2 rx ry q => hr a b pins s2 σ H2 x y v u Q I2 rx ry q (hs _ _))
def rIxL (K : PySem.W.Frag) : R2 := fun x y H Q => ∃ p xs i v, x = .ref p ∧ y = .int i ∧ SqL K H p xs ∧ atI xs i = some v ∧ Q v H
def rIxT (K : PySem.W.Frag) : R2 := fun x y H Q => ∃ p xs i v, x = .ref p ∧ y = .int i ∧ SqT K H p xs ∧ atI xs i = some v ∧ Q v H
def rIxS : R2 := fun x y H Q => ∃ z i c, x = .str z ∧ y = .int i ∧ z.length ≤ sizeLine ∧ atI z.cps.toList i = some c ∧ Q (.str ⟨#[c]⟩) H
theorem ix_list : IxR X (rIxL X.K) := by
 intro value slice pins s σ H x y v u Q I rx ry h hs
 obtain ⟨p, xs, i, z, rfl, rfl, hq, he, q⟩ := h
 cases rx
 obtain ⟨t, rfl⟩ := ry
 obtain ⟨its, r, pl, hz⟩ := I.list hq
 obtain ⟨j, h1, h2, h3, h4, h5⟩ := atI_get he
 obtain ⟨w, ew, rw'⟩ := r.get h2
 have hl := r.length
 have hn := line63
 have fin : EP X pins σ Q w s := ⟨z, H, I, rw', q⟩
 by_cases h0 : 0 ≤ i
 ·have hj : i.toNat = j := by
   rw [seqIndex_of h0 h5] at h1
   exact Option.some.inj h1
  exact item_listR pl.isList h0 (by omega) (by rw [hj]; simpa using ew) fin hs
 ·have hj : (i + (its.toArray.size : Int)).toNat = j := by
   rw [seqIndex_neg (by omega) h4] at h1
   rw [List.size_toArray, ← hl]
   exact Option.some.inj h1
  exact subscriptTail_builtinR (x := w) pl.isList.typeIs slot_list_getitem.lookup
   (wpAny_getItem_list_neg (Q := fun r s' => r = w ∧ EP X pins σ Q r s') pl.isList (by omega) (by rw [List.size_toArray] <;> omega) (by omega) (by rw [hj]; simpa using ew) ⟨rfl, fin⟩) hs
theorem ix_tup : IxR X (rIxT X.K) := by
 intro value slice pins s σ H x y v u Q I rx ry h hs
 obtain ⟨p, xs, i, z, rfl, rfl, hq, he, q⟩ := h
 cases rx
 obtain ⟨t, rfl⟩ := ry
 obtain ⟨its, r, pl, hz⟩ := I.tuple hq
 obtain ⟨j, h1, h2, h3, h4, h5⟩ := atI_get he
 obtain ⟨w, ew, rw'⟩ := r.get h2
 have hl := r.length
 have hn := line63
 have fin : EP X pins σ Q w s := ⟨z, H, I, rw', q⟩
 exact subscriptTail_builtinR (x := w) pl.typeIs slot_tuple_getitem.lookup
  (getItem_tuple (j := j) (Q := fun r s' => r = w ∧ EP X pins σ Q r s') pl (by omega) (by omega) (by rw [List.size_toArray, ← hl]; exact h1) (by simpa using ew) ⟨rfl, fin⟩) hs
theorem ix_str : IxR X rIxS := by
 intro value slice pins s σ H x y v u Q I rx ry h hs
 obtain ⟨z, i, c, rfl, rfl, hz, he, q⟩ := h
 obtain ⟨t, rfl⟩ := rx
 obtain ⟨t', rfl⟩ := ry
 obtain ⟨j, h1, h2, h3, h4, h5⟩ := atI_get he
 have hl : z.cps.toList.length = z.length := by simp [Str.length]
 rw [hl] at h1 h4 h5
 have hn := line63
 exact tail_any (typeIs_str s z t) slot_str_getitem.lookup (getItem_str (c := c) (by
  have e1 : decide (i < -(2 ^ 63 : Int)) = false := dFa (by omega)
  have e2 : decide (i ≥ 2 ^ 63) = false := dFa (by omega)
  rw [e1, e2, Bool.or_false]) (by rw [h1]; simpa using h2) ⟨.str ⟨#[c]⟩, H, I.tok _, ⟨_, rfl⟩, q⟩) hs
def rIx (K : PySem.W.Frag) : R2 := fun x y H Q => rIxL K x y H Q ∨ rIxT K x y H Q ∨ rIxS x y H Q
theorem ix_seq : IxR X (rIx X.K) := ix_list.or (ix_tup.or ix_str)
theorem mapSeq_set (its : List Value) (n j : Nat) (u : Value) : Obj.mapSeq (·.setIfInBounds j u) { cls := .type "list", data := .seq its.toArray n } = { cls := .type "list", data := .seq (its.set j u).toArray n } := by
 simp [Obj.mapSeq]
theorem Inv.lst {pins : List (Addr × Obj)} {σ : St} {H : Hp} {s : Shared} {p : Addr} {xs : List V} (I : Inv X pins σ H s) (h : H p = some (.lst xs)) :
 ∃ (its : List Value) (n : Nat), Vals xs its ∧ s.heap.get? p = some { cls := .type "list", data := .seq its.toArray n } ∧ xs.length ≤ sizeLine := by
 obtain ⟨z, its, n, r, e⟩ := I.hok p _ h
 exact ⟨its, n, r, e, z⟩
theorem Inv.lstUpd {pins : List (Addr × Obj)} {σ : St} {H : Hp} {s : Shared} {p : Addr} {xs ys : List V} {its its' : List Value} {n n' : Nat} {f : Obj → Obj} (I : Inv X pins σ H s) (h : H p = some (.lst xs))
 (ho : s.heap.get? p = some { cls := .type "list", data := .seq its.toArray n }) (hf : f { cls := .type "list", data := .seq its.toArray n } = { cls := .type "list", data := .seq its'.toArray n' }) (r : Vals ys its') (hz : ys.length ≤ sizeLine) (t : Nat) :
 Inv X pins σ (upd H p (.lst ys)) { s with heap := s.heap.update p f, toks := t } := by
 have e : (s.heap.update p f).get? p = some { cls := .type "list", data := .seq its'.toArray n' } := by
  rw [Heap.get?_update_self f ho (by rw [hf] <;> rfl), hf]
 refine I.write (x := p) (e := p) (by rw [h]; trivial) (.inl rfl) (fun b u hb q => (Heap.get?_update_other _ _ (Ne.symm hb)).trans q) ⟨_, e⟩ ?_
 exact ⟨hz, its', n', r, e⟩
def rSetL : V → V → V → Hp → (Hp → Prop) → Prop := fun o i v H Q => ∃ p xs k j, o = .ref p ∧ i = .int k ∧ H p = some (.lst xs) ∧ ixN xs.length k = some j ∧ Q (upd H p (.lst (xs.set j v)))
theorem set_list : PSet X rSetL := by
 intro pins s σ H o i v ov iv u Q I ro ri rv h
 obtain ⟨p, xs, k, j, rfl, rfl, hp, hj, q⟩ := h
 cases ro
 obtain ⟨t, rfl⟩ := ri
 obtain ⟨its, n, r, ho, hz⟩ := I.lst hp
 obtain ⟨h1, h2, h3, h4⟩ := ixN_seq hj
 have hl := r.length
 have hn := line63
 have I' : Inv X pins σ (upd H p (.lst (xs.set j v))) { s with heap := s.heap.update p (Obj.mapSeq (·.setIfInBounds j u)) } :=
  I.lstUpd hp ho (mapSeq_set its n j u) (r.set rv j) (by rw [List.length_set]; exact hz) s.toks
 by_cases h0 : 0 ≤ k
 ·have hk : k.toNat = j := by
   rw [seqIndex_of h0 h4] at h1
   exact Option.some.inj h1
  exact PySem.W.ki_setAt ho h0 (by omega) (by rw [List.size_toArray, ← hl]; exact h4) (by rw [hk]; exact ⟨_, I', q⟩)
 ·have hk : (k + (its.toArray.size : Int)).toNat = j := by
   rw [seqIndex_neg (by omega) h3] at h1
   rw [List.size_toArray, ← hl]
   exact Option.some.inj h1
  exact PySem.W.ki_setBack ho (by omega) (by rw [List.size_toArray, ← hl]; exact h3) (by omega) (by rw [hk]; exact ⟨_, I', q⟩)
theorem slice_bounds (lo hi : Option Int) (n : Nat) : (sliceBounds lo hi none n).1 = ((HT.sIx n 0 lo : Nat) : Int) ∧ (sliceBounds lo hi none n).2.1 = ((HT.sIx n n hi : Nat) : Int) ∧ (sliceBounds lo hi none n).2.2 = 1 := by
 refine ⟨?_, ?_, rfl⟩
 ·cases lo with
  | none => simp [sliceBounds, HT.sIx]
  | some i =>
   simp only [sliceBounds, HT.sIx, Option.getD_none, show (1 : Int) > 0 by decide, if_true]
   by_cases h : i < 0
   ·simp only [h, if_true] <;> omega
   ·simp only [h, if_false] <;> omega
 ·cases hi with
  | none => simp [sliceBounds, HT.sIx]
  | some i =>
   simp only [sliceBounds, HT.sIx, Option.getD_none, show (1 : Int) > 0 by decide, if_true]
   by_cases h : i < 0
   ·simp only [h, if_true] <;> omega
   ·simp only [h, if_false] <;> omega
theorem slicePick_cut (its : List Value) (lo hi : Option Int) : slicePick its.toArray lo hi none = ((its.drop (HT.sIx its.length 0 lo)).take (HT.sIx its.length its.length hi - HT.sIx its.length 0 lo)).toArray := by
 obtain ⟨h1, h2, h3⟩ := slice_bounds lo hi its.toArray.size
 unfold slicePick
 rw [h1, h2, h3]
 simp only [sliceRange_one, pick_run, List.size_toArray] <;> rfl
def rSlL (K : PySem.W.Frag) : V → Option Int → Option Int → Hp → VK → Prop := fun x lo hi H Q => ∃ a xs, x = .ref a ∧ SqL K H a xs ∧ ∀ p, H p = none → Q (.ref p) (upd H p (.lst (cutV xs lo hi)))
theorem sl_list : SlR X (rSlL X.K) := by
 intro pins s σ H x v vl vu lo hi sl Q I rx hs pl pu h
 obtain ⟨a, xs, rfl, hx, q⟩ := h
 cases rx
 obtain ⟨its, r, ht, hz⟩ := I.list hx
 have hlen := r.length
 refine ⟨"list", _, slot_list_getitem.lookup, ht.isList.typeIs, ?_⟩
 refine wpAny_getItem_list_slice ht.isList hs pl pu .none (by simp) ?_ (by rw [List.size_toArray] <;> omega)
 rw [slicePick_cut, ← hlen]
 refine ⟨.ref s.heap.objs.size, _, I.laid (t' := s.toks) (o := .lst (cutV xs lo hi)) (fun b ob q => Heap.get?_push_of_some _ q) (Nat.le_refl _) ?_, rfl, q _ (I.hok.fresh (Nat.le_refl _))⟩
 exact ⟨Nat.le_trans (cutV_length xs lo hi) hz, _, 0, (r.drop (HT.sIx xs.length 0 lo)).take (HT.sIx xs.length xs.length hi - HT.sIx xs.length 0 lo), Heap.get?_push_size _ rfl⟩
theorem call_len_seq : CallR X (.builtin "len") (fun xs H Q => ∃ p ys, xs = [.ref p] ∧ (SqL X.K H p ys ∨ SqT X.K H p ys) ∧ Q (.int ys.length) H) := by
 intro pins s σ H xs us Q I r h
 obtain ⟨p, ys, rfl, hq, q⟩ := h
 obtain ⟨u, rfl, rx⟩ := vals1 r
 cases rx
 have hn := line63
 rcases hq with hq | hq
 ·obtain ⟨its, r', pl, hz⟩ := I.list hq
  have hlen := r'.length
  exact Calls.call_len_list pl.isList (by simp only [List.size_toArray] <;> omega) ⟨.int ys.length, H, I.tok _, ⟨s.toks + 1, by rw [List.size_toArray, hlen]⟩, q⟩
 ·obtain ⟨its, r', pl, hz⟩ := I.tuple hq
  have hlen := r'.length
  exact len_tuple pl (by simp only [List.size_toArray] <;> omega) ⟨.int ys.length, H, I.tok _, ⟨s.toks + 1, by rw [List.size_toArray, hlen]⟩, q⟩
theorem call_list_of : CallR X (.type "list") (fun xs H Q => ∃ p ys, xs = [.ref p] ∧ (SqL X.K H p ys ∨ SqT X.K H p ys) ∧ ∀ l, H l = none → Q (.ref l) (upd H l (.lst ys))) := by
 intro pins s σ H xs us Q I r h
 obtain ⟨p, ys, rfl, hq, q⟩ := h
 obtain ⟨u, rfl, rx⟩ := vals1 r
 cases rx
 have fin : ∀ (its : List Value), Vals ys its → ys.length ≤ sizeLine → ∀ (h' : Heap) (c' : Nat), (∀ b o', s.heap.get? b = some o' → h'.get? b = some o') →
  h'.get? s.heap.objs.size = some { cls := .type "list", dict := none, data := .seq its.toArray c', slots := #[] } → EP X pins σ Q (.ref s.heap.objs.size) { s with heap := h' } := fun its r' hz h' c' kp e =>
  ⟨.ref s.heap.objs.size, _, I.laid (t' := s.toks) kp (Nat.le_refl _) (show ObjOk X.prog X.w _ h' _ (.lst ys) from ⟨hz, its, c', r', e⟩), rfl, q _ (I.hok.fresh (Nat.le_refl _))⟩
 rcases hq with hq | hq
 ·obtain ⟨its, r', pl, hz⟩ := I.list hq
  have hlen := r'.length
  obtain ⟨o, ho, hc, n, hd⟩ := pl.isList
  exact call_list_seq p (.inl rfl) ho hc hd (fun h' c' kp e => fin its r' hz h' c' kp e) (by simp only [List.size_toArray] <;> omega)
 ·obtain ⟨its, r', pl, hz⟩ := I.tuple hq
  have hlen := r'.length
  obtain ⟨o, ho, hc, n, hd⟩ := pl
  exact call_list_seq p (.inr rfl) ho hc hd (fun h' c' kp e => fin its r' hz h' c' kp e) (by simp only [List.size_toArray] <;> omega)
theorem call_tuple_of : CallR X (.type "tuple") (fun xs H Q => ∃ p ys, xs = [.ref p] ∧ ((SqL X.K H p ys ∧ ∀ l, H l = none → Q (.ref l) (upd H l (.tup ys))) ∨ (SqT X.K H p ys ∧ Q (.ref p) H))) := by
 intro pins s σ H xs us Q I r h
 obtain ⟨p, ys, rfl, h⟩ := h
 obtain ⟨u, rfl, rx⟩ := vals1 r
 cases rx
 rcases h with ⟨hq, q⟩ | ⟨hq, q⟩
 ·obtain ⟨its, r', pl, hz⟩ := I.list hq
  have hlen := r'.length
  refine call_tuple_list pl.isList (fun h' kp => ?_) (by simp only [List.size_toArray] <;> omega)
  have I1 : Inv X pins σ H { s with heap := h' } := I.kept (t' := s.toks) kp
  have I2 : Inv X pins σ (upd H h'.objs.size (.tup ys)) { s with heap := h'.push { cls := .type "tuple", data := .seq its.toArray } } :=
   I1.laid (t' := s.toks) (fun b o e => Heap.get?_push_of_some _ e) (Nat.le_refl _) (show ObjOk X.prog X.w _ _ _ (.tup ys) from ⟨hz, its, r', IsTup.new _ _⟩)
  exact ⟨.ref h'.objs.size, _, I2, rfl, q _ (I1.hok.fresh (Nat.le_refl _))⟩
 ·obtain ⟨its, r', pl, hz⟩ := I.tuple hq
  exact call_tuple_same pl ⟨.ref p, H, I, rfl, q⟩
def tyV (K : PySem.W.Frag) (T : String) (x : V) (H : Hp) : Prop := match x with
 | .str _ => T = "str"
 | .int _ => T = "int"
 | .ref p => (T = "list" ∧ ∃ xs, SqL K H p xs) ∨ (T = "tuple" ∧ ∃ o, K.lookup p = some o ∧ o.cls = .type "tuple" ∧ o.dict = none) ∨
  (T = "dict" ∧ ((∃ kvs, H p = some (.dK kvs)) ∨ ∃ kvs, H p = some (.dT kvs))) ∨ (T = "set" ∧ ∃ S n, H p = some (.set S n))
 | _ => False
theorem tyV_is {pins : List (Addr × Obj)} {σ : St} {H : Hp} {s : Shared} {T : String} {x : V} {v : Value} (I : Inv X pins σ H s) (r : RelV x v) (ty : tyV X.K T x H) :
 s.TypeIs v T ∧ ∀ a, v = .ref a → ∃ ob, s.heap.get? a = some ob ∧ ob.dict = none := by
 cases x with
 | str z =>
  obtain ⟨t, rfl⟩ := r
  cases (show T = "str" from ty)
  exact ⟨typeIs_str s z t, fun _ e => nomatch e⟩
 | int i =>
  obtain ⟨t, rfl⟩ := r
  cases (show T = "int" from ty)
  exact ⟨typeIs_int s i t, fun _ e => nomatch e⟩
 | ref p =>
  cases r
  rcases ty with ⟨rfl, xs, hq⟩ | ⟨rfl, o, hk, hc, hd⟩ | ⟨rfl, hk⟩ | ⟨rfl, S, n, hk⟩
  ·obtain ⟨its, _, pl, _⟩ := I.list hq
   refine ⟨pl.isList.typeIs, fun a e => ?_⟩
   cases e
   obtain ⟨o, n, e, c, hd, _⟩ := pl
   exact ⟨o, e, hd⟩
  ·refine ⟨⟨o, I.kIn p o hk, hc⟩, fun a e => ?_⟩
   cases e
   exact ⟨o, I.kIn _ o hk, hd⟩
  ·have z : ∃ o, s.heap.get? p = some o ∧ o.ExactDict := by
    rcases hk with ⟨kvs, hk⟩ | ⟨kvs, hk⟩
    ·obtain ⟨_, _, _, _, o, _, _, e, ex, _⟩ := I.hok p _ hk
     exact ⟨o, e, ex⟩
    ·obtain ⟨_, _, _, _, o, _, _, e, ex, _⟩ := I.hok p _ hk
     exact ⟨o, e, ex⟩
   obtain ⟨o, e, ex⟩ := z
   refine ⟨⟨o, e, ex.1⟩, fun a e2 => ?_⟩
   cases e2
   exact ⟨o, e, ex.2.1⟩
  ·obtain ⟨o, _, _, _, e, ex, _⟩ := I.hok p _ hk
   refine ⟨⟨o, e, ex.1⟩, fun a e2 => ?_⟩
   cases e2
   exact ⟨o, e, ex.2.1⟩
 | _ => exact False.elim ty
def tBM0 (K : PySem.W.Frag) (T : String) (r : V → List V → Hp → VK → Prop) (to : TE) : TE := fun σ H Q => to σ H fun x H1 => tyV K T x H1 ∧ r x [] H1 Q
def tBM (K : PySem.W.Frag) (T : String) (r : V → List V → Hp → VK → Prop) (to : TE) (t : TA) : TE := fun σ H Q => to σ H fun x H1 => tyV K T x H1 ∧ t σ H1 fun xs H2 => r x xs H2 Q
variable {o e : Expr} {es : List Expr} {to : TE} {t : TA} {name : Str} {apos cpos : Pos} {T id : String} {r : V → List V → Hp → VK → Prop}
theorem pe_bm0 (pa : PlainAttrs T) (slot : Slot T name id) (hty : typeOf (.builtin id) = pure (.type "method_descriptor")) (hm : MtR X id r) (ho : PE X o to)
 (hbase : attributeBase o name X.env (eval o X.env) = eval o X.env := by rfl) (hline : (apos.endLine == cpos.line) = true := by rfl) : PE X (.Call (.Attribute o name apos) [] [] cpos) (tBM0 X.K T r to) := by
 intro pins s σ H Q I h
 refine wpAny_Call_method0_late hbase hline (thn (ho pins s σ H _ I h) fun v s1 ⟨x, H1, I1, r1, ty, q1⟩ => ?_)
 obtain ⟨h1, h2⟩ := tyV_is I1 r1 ty
 exact ⟨T, id, pa, slot, hty, h1, h2, Calls.callWith_builtin rfl (PySem.evalArgs_none (hm pins s1 σ H1 x [] v [] Q I1 r1 .nil q1))⟩
theorem pe_bm (pa : PlainAttrs T) (slot : Slot T name id) (hty : typeOf (.builtin id) = pure (.type "method_descriptor")) (hm : MtR X id r) (ho : PE X o to) (ha : PA X (e :: es) t)
 (hbase : attributeBase o name X.env (eval o X.env) = eval o X.env := by rfl)
 (hfew : ((backTo cpos (starEach (e :: es) X.env)).all (fun x => !x.1) && (backToKw cpos (keywordEach [] X.env)).all (fun x => x.1.isSome)
  && decide ((e :: es).length + ([] : List Keyword).length + (if ([] : List Keyword).isEmpty then 0 else 1) < 30)) = true := by rfl)
 (hline : (apos.endLine == cpos.line) = true := by rfl) (hs : starEach (e :: es) X.env = (false, eval e X.env) :: starEach es X.env := by rfl) (hplain : (backTo cpos (starEach es X.env)).any (·.1) = false := by rfl) :
 PE X (.Call (.Attribute o name apos) (e :: es) [] cpos) (tBM X.K T r to t) := by
 intro pins s σ H Q I h
 refine wpAny_Call_method_late hbase hfew hline rfl (thn (ho pins s σ H _ I h) fun v s1 ⟨x, H1, I1, r1, ty, q1⟩ => ?_)
 obtain ⟨h1, h2⟩ := tyV_is I1 r1 ty
 refine ⟨T, id, pa, slot, hty, h1, h2, ?_⟩
 have hA := ha cpos pins s1 σ H1 _ I1 q1
 rw [hs] at hA ⊢
 refine Calls.callWith_builtin (by show (false || (backTo cpos (starEach es X.env)).any (·.1)) = false; rw [hplain] <;> rfl) (Calls.evalArgs_plain ?_)
 exact thn hA fun us s2 ⟨vs, H2, I2, r2, q2⟩ => hm pins s2 σ H2 x vs v us Q I2 r1 r2 q2
/- xs.append(e), list.index on a module's tuple .. are MtR facts of 06m -/
end
end L2
namespace L2
open PySem PySem.Spec PyProof.Rows
def MtM (X : Cx) (id : String) (r : V → List V → Hp → VK → Prop) : Prop :=
 ∀ (pins : List (Addr × Obj)) (s : Shared) (σ : St) (H : Hp) (x : V) (xs : List V) (v : Value) (us : List Value) (Q : VK), Inv X pins σ H s → RelV x v → Vals xs us → r x xs H Q →
  wpAny (model X.prog X.w) X.A (call (.builtin id) (v :: us)) (EP X pins σ Q) X.xe s
theorem Vals.one : ∀ {x : V} {us : List Value}, Vals [x] us → ∃ u, us = [u] ∧ RelV x u
 | _, _, .cons r .nil => ⟨_, rfl, r⟩
theorem Vals.two : ∀ {x y : V} {us : List Value}, Vals [x, y] us → ∃ u v, us = [u, v] ∧ RelV x u ∧ RelV y v
 | _, _, _, .cons r (.cons q .nil) => ⟨_, _, rfl, r, q⟩
theorem Vals.zero : ∀ {us : List Value}, Vals [] us → us = []
 | _, .nil => rfl
theorem Vals.eraseIdx : ∀ {xs : List V} {us : List Value} (i : Nat), Vals xs us → Vals (xs.eraseIdx i) (us.eraseIdx i)
 | _, _, _, .nil => .nil
 | _, _, 0, .cons _ t => t
 | _, _, i + 1, .cons r t => .cons r (Vals.eraseIdx i t)
theorem Vals.reverse {xs : List V} {us : List Value} (h : Vals xs us) : Vals xs.reverse us.reverse := by
 induction h with
 | nil => exact .nil
 | cons r t ih => rw [List.reverse_cons, List.reverse_cons]; exact Vals.append ih (.cons r .nil)
theorem Vals.rep {xs : List V} {us : List Value} (h : Vals xs us) : ∀ k : Nat, Vals (List.replicate k xs).flatten (List.replicate k us).flatten
 | 0 => .nil
 | k + 1 => by
  rw [List.replicate_succ, List.replicate_succ, List.flatten_cons, List.flatten_cons]
  exact Vals.append h (Vals.rep h k)
theorem len_erase {α : Type} : ∀ (l : List α) (i : Nat), (l.eraseIdx i).length ≤ l.length
 | [], _ => Nat.le_refl _
 | _ :: _, 0 => Nat.le_succ _
 | _ :: r, i + 1 => Nat.succ_le_succ (len_erase r i)
theorem foldl_rep (its : List Value) : ∀ (k : Nat) (acc : List Value),
 List.foldl (fun x1 x2 => x1 ++ x2) acc.toArray (List.replicate k its.toArray) = (acc ++ (List.replicate k its).flatten).toArray
 | 0, acc => by simp
 | k + 1, acc => by
  have e : acc.toArray ++ its.toArray = (acc ++ its).toArray := by simp
  have e2 : (acc ++ its) ++ (List.replicate k its).flatten = acc ++ (List.replicate (k + 1) its).flatten := by
   rw [List.replicate_succ, List.flatten_cons, List.append_assoc]
  rw [← e2, ← foldl_rep its k (acc ++ its), ← e, List.replicate_succ, List.foldl_cons]
section
variable {X : Cx} {pins : List (Addr × Obj)} {σ : St} {H : Hp} {s : Shared} {l b : Addr} {xs ys zs : List V}
theorem Inv.lset {its its' : List Value} {n : Nat} {f : Array Value → Array Value} {t' : Nat} (I : Inv X pins σ H s) (hH : H l = some (.lst xs))
 (e : s.heap.get? l = some { cls := .type "list", data := .seq its.toArray n }) (hf : f its.toArray = its'.toArray) (hv : Vals ys its') (hz : ys.length ≤ sizeLine) :
 Inv X pins σ (upd H l (.lst ys)) { s with heap := s.heap.update l (Obj.mapSeq f), toks := t' } := by
 have q := PySem.IsL.update e f
 rw [hf] at q
 refine I.write (x := l) (e := l) (by rw [hH]; exact trivial) (.inl rfl) (fun b' u hb hu => (Heap.get?_update_other s.heap (Obj.mapSeq f) (Ne.symm hb)).trans hu) ⟨_, q⟩ ?_
 exact ⟨hz, its', _, hv, q⟩
theorem Inv.lnew {its : List Value} {t' : Nat} (I : Inv X pins σ H s) (hv : Vals ys its) (hz : ys.length ≤ sizeLine) :
 Inv X pins σ (upd H s.heap.objs.size (.lst ys)) { s with heap := s.heap.push { cls := .type "list", data := .seq its.toArray }, toks := t' } :=
 I.laid (fun _ _ q => Heap.get?_push_of_some _ q) (Nat.le_refl _) ⟨hz, its, 0, hv, Heap.get?_push_size _ rfl⟩
theorem Inv.fresh (I : Inv X pins σ H s) : H s.heap.objs.size = none := I.hok.fresh (Nat.le_refl _)
theorem Inv.lstM (I : Inv X pins σ H s) (hH : H l = some (.lst xs)) : xs.length ≤ sizeLine ∧ ∃ (its : List Value) (n : Nat), Vals xs its ∧ xs.length = its.length ∧ s.heap.get? l = some { cls := .type "list", data := .seq its.toArray n } := by
 obtain ⟨z, its, n, r, e⟩ := I.hok l _ hH
 exact ⟨z, its, n, r, r.length, e⟩
theorem notLongL {n : Nat} (h : n ≤ sizeLine) : Builtin.List.listTooLong n = false := by
 unfold Builtin.List.listTooLong
 exact dFa (by omega)
end
section
variable {X : Cx}
def rAppend : V → List V → Hp → VK → Prop := fun x vs H Q => ∃ l xs y, x = .ref l ∧ vs = [y] ∧ H l = some (.lst xs) ∧ xs.length < sizeLine ∧ Q .non (upd H l (.lst (xs ++ [y])))
theorem mt_append : MtM X "list.append" rAppend := by
 intro pins s σ H x vs v us Q I rx rv h
 obtain ⟨l, xs, y, rfl, rfl, hH, hz, q⟩ := h
 cases rx
 obtain ⟨u, rfl, ru⟩ := rv.one
 obtain ⟨z, its, n, r, hl, e⟩ := I.lstM hH
 refine call_meets F.slot_list_append ⟨_, e, rfl⟩ F.entry_list_append (F.args_list_append_2 _ _) (PySem.list_append l its.toArray n u (by rw [List.size_toArray]; omega)) ⟨e, ?_⟩
 refine ⟨.non, _, I.lset (its' := its ++ [u]) hH e (by simp) (r.append (.cons ru .nil)) ?_, rfl, q⟩
 rw [List.length_append, List.length_singleton]
 omega
def rPopAt : V → List V → Hp → VK → Prop := fun x vs H Q => ∃ l xs i k y, x = .ref l ∧ vs = [.int i] ∧ H l = some (.lst xs) ∧ -(2 ^ 63) ≤ i ∧ i < 2 ^ 63 ∧ seqIndex? i xs.length = some k ∧ xs[k]? = some y ∧ Q y (upd H l (.lst (xs.eraseIdx k)))
theorem mt_popAt : MtM X "list.pop" rPopAt := by
 intro pins s σ H x vs v us Q I rx rv h
 obtain ⟨l, xs, i, k, y, rfl, rfl, hH, h1, h2, hk, hy, q⟩ := h
 cases rx
 obtain ⟨u, rfl, ru⟩ := rv.one
 obtain ⟨t, rfl⟩ := ru
 obtain ⟨z, its, n, r, hl, e⟩ := I.lstM hH
 obtain ⟨w, hw, rw'⟩ := r.get hy
 refine call_meets F.slot_list_pop ⟨_, e, rfl⟩ F.entry_list_pop (F.args_list_pop_2 _ _)
  (MeetsSeq.list_pop_at l its.toArray n i t k w (fitsIndex_both h1 h2) (by rw [List.size_toArray, ← hl]; exact hk) (by rw [← Array.getElem?_toList]; exact hw) (by rw [List.size_toArray]; omega)) ⟨e, ?_⟩
 refine ⟨y, _, I.lset (its' := its.eraseIdx k) hH e ?_ (r.eraseIdx k) ?_, rw', q⟩
 ·show its.toArray.eraseIdxIfInBounds k = (its.eraseIdx k).toArray
  rw [List.eraseIdxIfInBounds_toArray]
 ·have := len_erase xs k
  omega
def rReverse : V → List V → Hp → VK → Prop := fun x vs H Q => ∃ l xs, x = .ref l ∧ vs = [] ∧ H l = some (.lst xs) ∧ Q .non (upd H l (.lst xs.reverse))
theorem mt_reverse : MtM X "list.reverse" rReverse := by
 intro pins s σ H x vs v us Q I rx rv h
 obtain ⟨l, xs, rfl, rfl, hH, q⟩ := h
 cases rx
 have hus := rv.zero
 subst hus
 obtain ⟨z, its, n, r, hl, e⟩ := I.lstM hH
 refine call_meets F.slot_list_reverse ⟨_, e, rfl⟩ F.entry_list_reverse (F.args_list_reverse_1 _) (AutoSeq1.list_reverse_list_0 l its.toArray n (by rw [List.size_toArray]; omega)) ⟨e, ?_⟩
 refine ⟨.non, _, I.lset (its' := its.reverse) hH e (by simp) r.reverse ?_, rfl, q⟩
 rw [List.length_reverse]
 omega
def rRep : R2 := fun x y H Q => ∃ l k xs, x = .ref l ∧ y = .int k ∧ H l = some (.lst xs) ∧ -(2 ^ 63) ≤ k ∧ k < 2 ^ 63 ∧ xs.length * k.toNat ≤ sizeLine ∧
 ∀ p, H p = none → Q (.ref p) (upd H p (.lst (List.replicate k.toNat xs).flatten))
theorem len_rep {α : Type} (xs : List α) (k : Nat) : (List.replicate k xs).flatten.length = k * xs.length := by
 induction k with
 | zero => simp
 | succ k ih => rw [List.replicate_succ, List.flatten_cons, List.length_append, ih, Nat.succ_mul, Nat.add_comm]
theorem op_rep : OpR X (binaryOp .Mult) rRep := by
 intro pins s σ H x y v u Q I rx ry h
 obtain ⟨l, k, xs, rfl, rfl, hH, h1, h2, hz, q⟩ := h
 cases rx
 obtain ⟨t, rfl⟩ := ry
 obtain ⟨z, its, n, r, hl, e⟩ := I.lstM hH
 have hlen : its.toArray.size * k.toNat ≤ sizeLine := by rw [List.size_toArray, ← hl]; exact hz
 have hcap : ¬ its.toArray.size * k.toNat > (2 ^ 63 - 1) / 8 := by
  have : (sizeLine : Nat) ≤ (2 ^ 63 - 1) / 8 := by decide
  omega
 have hfit : ¬ (!Builtin.List.listFitsIndex k) = true := by
  rw [fitsIndex_both h1 h2]
  exact Bool.false_ne_true
 have hlong : ¬ Builtin.List.listTooLong (its.toArray.size * k.toNat) = true := by
  rw [notLongL hlen]
  exact Bool.false_ne_true
 have hnew : List.foldl (fun x1 x2 => x1 ++ x2) #[] (List.replicate (if its.toArray.isEmpty = true then 0 else k.toNat) its.toArray) = (List.replicate k.toNat its).flatten.toArray := by
  have f0 : ∀ m : Nat, List.foldl (fun x1 x2 => x1 ++ x2) #[] (List.replicate m its.toArray) = (List.replicate m its).flatten.toArray := fun m => by
   have := foldl_rep its m []
   rw [List.nil_append] at this
   exact this
  rw [f0]
  cases its with
  | nil => simp
  | cons a r' => rw [if_neg (by simp)]
 refine wpAny_binaryOp_repeat_ref (T := "list") (U := "int") (by decide) ⟨_, e, rfl⟩ (fun s' => typeIs_int s' k t) noFill_list_mul F.fills_int_mul F.slot_int_rmul repeat_list F.slot_int_index.lookup
  (call_meets F.slot_int_rmul (typeIs_int s k t) F.entry_int_rmul (F.args_int_rmul_2 _ _) (int___rmul___int_list k t l its.toArray n)
   ⟨e, rfl, ⟨_, e, rfl⟩, call_meets F.slot_list_mul ⟨_, e, rfl⟩ F.entry_list_mul (F.args_list_mul_2 _ _) (AutoListH.list___mul___list_int_3 l its.toArray n k t hfit hcap hlong) ⟨e, ?_⟩⟩)
 rw [hnew]
 exact ⟨.ref _, _, I.lnew (t' := s.toks) (r.rep k.toNat) (by rw [len_rep, Nat.mul_comm]; exact hz), rfl, q _ I.fresh⟩
end
section
variable {prog : Program} {w : World} {A : Around} {E : Value → Shared → Prop} {s : Shared}
set_option maxRecDepth 100000 in
end
section
variable {X : Cx}
end
end L2
namespace Att
open PySem PySem.W PySem.Calls PyProof.Rows
theorem ints_of_wellAll {P : Params} {h : Heap} : ∀ (ns : List Int) (vs : List Value), WellAll P h vs (ns.map WData.int) → IntsAre vs ns := by
 intro ns
 induction ns with
 | nil =>
  intro vs w
  rw [List.map_nil] at w
  cases w
  exact .nil
 | cons n ns ih =>
  intro vs w
  rw [List.map_cons] at w
  cases w with
  | cons a b =>
   cases a
   exact .cons _ _ (ih _ b)
theorem script_of {l : OpenLaw} {n : Nat} (hn : l.most = some n) {P : Params} {h : Heap} {args : List WData} {vals : List Value}
 (hpre : l.row.toRowW.claim.pre args = true) (hwl : WellAll P h vals args) :
 ∃ a vs ns, vals = [Value.ref a] ∧ args = [WData.list (ns.map WData.int)] ∧ h.get? a = some { cls := .type "list", data := .seq vs.toArray } ∧ IntsAre vs ns ∧ ns.length ≤ n := by
 have hsh : WShape.hasAll [] args [.list .int] = true := (pre_splitW hpre).1
 have hc : l.pre.holds [] { args := args } = true := (pre_splitW hpre).2
 obtain ⟨d, r, rfl, h1, h2⟩ := hasAllW_cons hsh
 obtain rfl := hasAllW_nil h2
 obtain ⟨xs, rfl, h3⟩ := hasW_list h1
 obtain ⟨ns, rfl⟩ := items_int h3
 have hlen : ns.length ≤ n := by
  unfold OpenLaw.pre at hc
  have h4 : (WTm.not (.lt (.lit (.int (n : Int))) (.len (.arg 0)))).holds [] { args := [.list (ns.map .int)] } = true := by
   have h4 := (holds_andW hc).1
   rw [hn] at h4
   exact h4
  have h5 := condW_of h4 (w_not (w_lt w_lit (w_len_list (w_arg rfl))))
  rw [List.length_map] at h5
  refine Nat.le_of_not_lt fun q => ?_
  have q' : (n : Int) < ((ns.length : Nat) : Int) := by omega
  first
   | (rw [dTr q'] at h5; exact absurd h5 (by decide))
   | (simp at h5; omega)
 cases hwl with
 | cons w1 w2 =>
  cases w2
  cases w1 with
  | list ho hall => exact ⟨_, _, ns, rfl, rfl, ho, ints_of_wellAll ns _ hall, hlen⟩
theorem post_true (l : OpenLaw) (args : List WData) : l.row.toRowW.claim.post args (.bool true) args = true :=
 postW_of (r := l.row.toRowW) (X := (true == true))
  (show WShape.has [] (.bool true) .bool = true by first | rfl | decide | simp [WShape.has, WShape.arms, WShape.armsAll])
  (show (WTm.eq .res (.lit (.bool true))).value [] { args := args, res := some (.bool true), after := args } = some (.bool (true == true)) from w_eq_bool (w_res rfl) w_lit) rfl
theorem attach_call {l : OpenLaw} {n : Nat} {q : Program} {loose : List Str} {XP : (Str → Option Value) → Heap → Prop} {YP : World → Heap → Prop} {d : DefRec}
 (hn : l.most = some n) (hdf : d.params.defaults = [])
 (call : ∀ (w : World) (s₀ s₁ : Shared) (mg mb : Str → Option Value) (fa : Addr) (o : Obj) (pm cd doc : Value) (a : Addr) (vs : List Value) (ns : List Int),
  Ground q loose [] XP w s₀ mg mb s₁.heap → YP w s₁.heap →
  s₁.heap.get? fa = some o → o.data = .func (docDef d.name d.params d.body d.scope pm cd doc) → s₁.heap.CodeRec cd d.name → mg d.name = some (.ref fa) →
  s₁.heap.get? a = some { cls := .type "list", data := .seq vs.toArray } → IntsAre vs ns → ns.length ≤ n → s₁.gens = #[] →
  codeAny (model l.prog w) callerA (.call (.ref fa) ⟨[.ref a], []⟩) (fun r s' => r = .ok (.ret (.bool true)) ∧ OldK s₁.heap s'.heap ∧ s'.os = s₁.os ∧ AllBare s'.gens) s₁) :
 WalkO q loose XP YP l.row.toRowW d [] (fun f vs => PySem.call f vs) := by
 intro w s₀ s₁ mg mb G Y fa o pm cd doc dV kV ho hd hcd hD hmg hg args vals as hpre hlay hrd hwl hlo
 obtain rfl : dV = .none := Dflts.none hD hdf
 obtain rfl : kV = .none := Dflts.noKw hD
 obtain ⟨a, vs, ns, rfl, rfl, hobj, hints, hlen⟩ := script_of hn hpre hwl
 refine enter_call (codeAny_mono (call w s₀ s₁ mg mb fa o pm cd doc a vs ns G Y ho (fd_plain hd) hcd hmg hobj hints hlen hg) fun r s' hq => ?_)
 obtain ⟨rfl, h2, h3, h4⟩ := hq
 exact ⟨.inl ⟨.bool true, .bool true, [], rfl, fun _ => rfl, .bool true, post_true l _, fun _ => ⟨List.Pairwise.nil, fun _ hm => (nomatch hm)⟩⟩, h2, h3, h4⟩
section
variable {prog : Program} {w : World} {A : Around} {E : Value → Shared → Prop} {s : Shared} {K : Frag}
def noObjs (h : Heap) : Heap := { h with objs := #[] }
theorem noObjs_get (h : Heap) (b : Addr) : (noObjs h).get? b = none := by
 cases e : (noObjs h).get? b with
 | none => rfl
 | some o => exact absurd (Heap.lt_size e) (Nat.not_lt_zero _)
theorem fr_all {h : Heap} {L : Addr} {m : Str → Option Value} (n : h.Ns L m) : Fr (noObjs h) L h m :=
 ⟨n, fun b o e => (by rw [noObjs_get] at e; cases e), Nat.zero_le _⟩
end
end Att
namespace L2
open PySem PySem.Spec PyProof.Rows
theorem vals_ints : ∀ {vs : List Value} {ns : List Int}, IntsAre vs ns → Vals (ns.map V.int) vs
 | _, _, .nil => .nil
 | _, _, .cons n t h => .cons ⟨t, rfl⟩ (vals_ints h)
def Only (H : Hp) : Prop := ∀ b, H b = none ∨ ∃ o xs, H b = some (.frz o (.lst xs))
def laidT (ts : List (Addr × Str × Pos)) (H : Hp) : Hp := fun b => match ts.find? (fun t => t.1 == b) with
 | some t => some (.tbl t.2.1 t.2.2)
 | none => H b
theorem laidT_or (ts : List (Addr × Str × Pos)) (H : Hp) (b : Addr) : (laidT ts H b = H b ∧ ∀ t ∈ ts, t.1 ≠ b) ∨ ∃ t ∈ ts, t.1 = b ∧ laidT ts H b = some (.tbl t.2.1 t.2.2) := by
 unfold laidT
 cases e : ts.find? (fun t => t.1 == b) with
 | none => exact .inl ⟨rfl, fun t ht z => by have := List.find?_eq_none.mp e t ht; simp [z] at this⟩
 | some t =>
  have h1 := List.mem_of_find?_eq_some e
  have h2 := List.find?_some e
  exact .inr ⟨t, h1, by simpa using h2, rfl⟩
theorem law_call {P : Program} {w : World} {K : PySem.W.Frag} {mg mb : Str → Option Value} {CX : CXT} {k : Nat} {fa a : Addr} {fd : FuncData} {x : Str} {sp : Sp} {s₁ : Shared} {vs : List Value} {ns : List Int}
 (KX : K.In s₁.heap) (hns : s₁.heap.Ns mainGlobals mg) (hb : s₁.heap.Ns builtinsNs mb) (hbb : ∀ x : Str, x ≠ "__name__" → mb x = bootBuiltins x) (hlim : s₁.heap.NoLimit) (hbm : ∃ bm ob, mg "__builtins__" = some (.ref bm) ∧ bm ≠ builtinsNs ∧ s₁.heap.get? bm = some ob ∧ ob.cls = .type "module" ∧ ob.dict = some builtinsNs ∧ ob.data = .plain) (hg : s₁.gens = #[])
 (ha : s₁.heap.get? a = some { cls := .type "list", data := .seq vs.toArray }) (hi : IntsAre vs ns) (hl : ns.length ≤ sizeLine) (hr : Room k callerA)
 (F : ∀ base : Heap, K.In base → base.Ns mainGlobals mg → FnOk P w K mg base CX k fa fd [x] sp) (hbind : ∀ (s : Shared) (u : Value), BindsTo s fd ⟨[u], []⟩ [(x, u)])
 (ts : List (Addr × Str × Pos)) (hts : ∀ t ∈ ts, s₁.heap.get? t.1 = some { cls := .none, data := .fields #[] }) (hCT : ∀ t ∈ ts, isCodeTable s₁.heap t.1) (hKt : ∀ t ∈ ts, K.lookup t.1 = none) (htu : ∀ t ∈ ts, ∀ t' ∈ ts, t.1 = t'.1 → t = t')
 (hsp : ∀ H : Hp, (∀ t ∈ ts, H t.1 = some (.tbl t.2.1 t.2.2)) → SqL K H a (ns.map V.int) → sp [.ref a] H (fun v _ => v = .bl true) fun _ _ _ => False)
 (hCX : ∀ H e s', CX [] H s₁ (fun _ _ _ => False) e s' → False) :
 codeAny (model P w) callerA (.call (.ref fa) ⟨[.ref a], []⟩) (fun r s' => r = .ok (.ret (.bool true)) ∧ OldK s₁.heap s'.heap ∧ s'.os = s₁.os ∧ AllBare s'.gens) s₁ := by
 have rv := vals_ints hi
 have lenV := hi.length
 have core : ∀ H : Hp, (∀ b, H b = none ∨ (∃ o xs, H b = some (.frz o (.lst xs))) ∨ ∃ t ∈ ts, t.1 = b ∧ H b = some (.tbl t.2.1 t.2.2)) → (∀ t ∈ ts, H t.1 = some (.tbl t.2.1 t.2.2)) → SqL K H a (ns.map V.int) → HOk P w H s₁.heap → (∀ b, H b ≠ none → b = a ∨ ∃ t ∈ ts, t.1 = b) → (H a ≠ none → K.lookup a = none) →
  codeAny (model P w) callerA (.call (.ref fa) ⟨[.ref a], []⟩) (fun r s' => r = .ok (.ret (.bool true)) ∧ OldK s₁.heap s'.heap ∧ s'.os = s₁.os ∧ AllBare s'.gens) s₁ := by
  intro H hO hT hS hok hA hK
  have base_of : ∀ {b : Addr} {o : Obj}, s₁.heap.get? b = some o → H b = none → (hidT s₁.heap H).get? b = some o := fun e n => hidT_get e n
  have noA : ∀ {b : Addr} {o : Obj} {es : Array DictEntry} {ep : Nat}, s₁.heap.get? b = some o → o.data = .dict es ep → H b = none := fun {b o es ep} e d => by
   cases q : H b with
   | none => rfl
   | some u =>
    rcases hA b (by rw [q]; simp) with e' | ⟨t, ht, e'⟩
    case inr =>
     subst e'
     rw [hts t ht] at e; cases e
     have d' : Data.fields #[] = Data.dict es ep := d
     cases d'
    subst e'
    rw [ha] at e; cases e
    have d' : Data.seq vs.toArray _ = Data.dict es ep := d
    cases d'
  have nsK : ∀ {b : Addr} {m : Str → Option Value}, s₁.heap.Ns b m → (hidT s₁.heap H).Ns b m := fun {b m} ⟨o, es, ep, e, d, r⟩ => ⟨o, es, ep, base_of e (noA e d), d, r⟩
  have hKb : K.In (hidT s₁.heap H) := fun b o e => base_of (KX b o e) (by
   cases q : H b with
   | none => rfl
   | some u =>
    rcases hA b (by rw [q]; simp) with e' | ⟨t, ht, e'⟩
    ·subst e'
     rw [hK (by rw [q]; simp)] at e; cases e
    ·subst e'
     rw [hKt t ht] at e; cases e)
  have hM : Mod K mg (hidT s₁.heap H) := ⟨hKb, nsK hns, ⟨mb, nsK hb, hbb⟩, let ⟨mc, h1, h2⟩ := hlim; ⟨mc, nsK h1, h2⟩, let ⟨bm, ob, g1, g2, g3, g4, g5, g6⟩ := hbm; ⟨bm, ob, g1, g2, base_of g3 (by
   cases q : H bm with
   | none => rfl
   | some u =>
    rcases hA bm (by rw [q]; simp) with e' | ⟨t, ht, e'⟩
    ·rw [e', ha] at g3; cases g3
     have z : Value.type "list" = Value.type "module" := g4
     injection z with z
     exact absurd z (by decide)
    ·rw [← e', hts t ht] at g3; cases g3
     cases g4), g4, g5, g6⟩⟩
  have e0 : Env0 P w K mg (hidT s₁.heap H) callerA [] s₁ H := ⟨rfl, hM, fun b o e => of_hidT e, Nat.le_of_eq (hidT_size _ _), trivial, fun b hb => absurd (show b ∈ ([] : List Addr) from hb) (by simp), hok, .of_eq hg⟩
  refine codeAny_mono ((F _ hKb (nsK hns)).run callerA [] s₁ H ⟨[.ref a], []⟩ [.ref a] [.ref a] _ _ hr e0 (hbind s₁ (.ref a)) (.cons rfl .nil) (hsp H hT hS)) fun r s' h => ?_
  cases r with
  | error e => exact (hCX H e s' h).elim
  | ok fl =>
   cases fl with
   | next => exact False.elim h
   | brk => exact False.elim h
   | cont => exact False.elim h
   | ret u =>
    obtain ⟨v, H', os, bare, un, hok', r', q⟩ := h
    have q' : v = .bl true := q
    subst q'
    obtain rfl : u = Value.bool true := r'
    refine ⟨rfl, ⟨fun b o e => ?_, fun b o e => un.there b o e (by simp)⟩, os, bare⟩
    cases q : H b with
    | none => exact .inl <| un.keep b o e q (by intro z; exact absurd (show b ∈ ([] : List Addr) from z) (by simp)) (by simp)
    | some u =>
     rcases hO b with z | ⟨ob, xs, z⟩ | ⟨t, ht, rfl, z⟩
     case inr.inr =>
      have z2 := un.tbls _ _ _ z
      obtain ⟨ps, e2, _⟩ := hok' _ _ z2
      rw [hts t ht] at e; cases e
      exact .inr (.inl ⟨hCT t ht, rfl, #[], ps, rfl, by rw [e2]; simp⟩)
     ·rw [q] at z; cases z
     ·have z2 := un.frzs b ob _ z
      obtain ⟨e1, _⟩ := hok b _ z
      obtain ⟨e2, _⟩ := hok' b _ z2
      rw [e] at e1; cases e1
      exact .inl e2
 have core1 : ∀ H : Hp, Only H → SqL K H a (ns.map V.int) → HOk P w H s₁.heap → (∀ b, H b ≠ none → b = a) → (H a ≠ none → K.lookup a = none) →
  codeAny (model P w) callerA (.call (.ref fa) ⟨[.ref a], []⟩) (fun r s' => r = .ok (.ret (.bool true)) ∧ OldK s₁.heap s'.heap ∧ s'.os = s₁.os ∧ AllBare s'.gens) s₁ := by
  intro H hO hS hok hA hK
  have na : ∀ t ∈ ts, t.1 ≠ a := fun t ht z => by
   have z2 := hts t ht
   rw [z, ha] at z2
   cases z2
  have cs : ∀ b, (laidT ts H b = H b ∧ ∀ t ∈ ts, t.1 ≠ b) ∨ ∃ t ∈ ts, t.1 = b ∧ laidT ts H b = some (.tbl t.2.1 t.2.2) := laidT_or ts H
  have la : laidT ts H a = H a := by
   rcases cs a with z | ⟨t, ht, z, _⟩
   ·exact z.1
   ·exact absurd z (na t ht)
  have noown : ∀ b x, H b ≠ some (.own x) := fun b x z => by rcases hO b with y | ⟨_, _, y⟩ <;> (rw [y] at z; cases z)
  have notup : ∀ b x, H b ≠ some (.tup x) := fun b x z => by rcases hO b with y | ⟨_, _, y⟩ <;> (rw [y] at z; cases z)
  refine core (laidT ts H) (fun b => ?_) (fun t ht => ?_) ?_ (fun b u z => ?_) (fun b z => ?_) (fun z => hK (by rw [← la]; exact z))
  ·rcases cs b with z | ⟨t, ht, z1, z2⟩
   ·rcases hO b with y | y
    ·exact .inl (z.1.trans y)
    ·obtain ⟨o, xs, y⟩ := y
     exact .inr (.inl ⟨o, xs, z.1.trans y⟩)
   ·exact .inr (.inr ⟨t, ht, z1, z2⟩)
  ·rcases cs t.1 with z | ⟨t', ht', z1, z2⟩
   ·exact absurd rfl (z.2 t ht)
   ·have := htu t' ht' t ht z1
    subst this
    exact z2
  ·rcases hS with (z | ⟨o, z⟩) | z
   ·exact .inl (.inl (by rw [la]; exact z))
   ·exact .inl (.inr ⟨o, by rw [la]; exact z⟩)
   ·exact .inr z
  ·rcases cs b with y | ⟨t, ht, z1, z2⟩
   ·rw [y.1] at z
    exact (hok b u z).stay (fun _ _ _ q => q) (fun c q => absurd q (noown c b)) fun c xs q => absurd q (notup c xs)
   ·rw [z2] at z
    cases z
    subst z1
    exact ⟨#[], hts t ht, .inl rfl⟩
  ·rcases cs b with y | ⟨t, ht, z1, z2⟩
   ·exact .inl (hA b (by rw [← y.1]; exact z))
   ·exact .inr ⟨t, ht, z1⟩
 cases hk : K.lookup a with
 | some o =>
  have e := KX a o hk
  rw [ha] at e
  cases e
  refine core1 (fun _ => none) (fun _ => .inl rfl) (.inr ⟨_, vs.toArray, _, hk, rfl, rfl, rfl, by rw [List.size_toArray, lenV]; exact hl, by simpa using rv⟩) (fun b u z => by have z' : (none : Option HO) = some u := z; cases z') (fun b z => absurd rfl z) fun z => absurd rfl z
 | none =>
  refine core1 (fun b => if b = a then some (.frz { cls := .type "list", data := .seq vs.toArray } (.lst (ns.map V.int))) else none) (fun b => ?_) (.inl (.inr ⟨{ cls := .type "list", data := .seq vs.toArray }, if_pos rfl⟩)) (fun b u z => ?_) (fun b z => ?_) fun _ => hk
  ·by_cases hb : b = a
   ·exact .inr ⟨_, _, if_pos hb⟩
   ·exact .inl (if_neg hb)
  ·by_cases hb : b = a
   ·have z' := (if_pos hb).symm.trans z
    cases z'
    subst hb
    exact ⟨ha, by rw [List.length_map]; exact hl, vs, _, rv, ha⟩
   ·have z' := (if_neg hb).symm.trans z
    cases z'
  ·by_cases hb : b = a
   ·exact hb
   ·exact absurd (if_neg hb) z
end L2
namespace L2
open PySem PySem.Spec PyProof.Rows
abbrev KOf {K : PySem.W.Frag} {h : Heap} (_ : K.In h) : PySem.W.Frag := K
theorem walk_of {l : PySem.W.OpenLaw} {n k : Nat} {q : Program} {loose : List Str} {XP : (Str → Option Value) → Heap → Prop} {YP : World → Heap → Prop} {d : DefRec} {K : Params → PySem.W.Frag} {CX : World → CXT} {sp : World → Sp} {x : Str}
 (hn : l.most = some n) (hn2 : n ≤ sizeLine) (hdf : d.params.defaults = []) (hr : Room k callerA)
 (hY : ∀ (w : World) (h : Heap), YP w h → (K w.params).In h)
 (F : ∀ (w : World) (mg : Str → Option Value) (fa : Addr) (h : Heap), (K w.params).In h → h.Ns mainGlobals mg → mg d.name = some (.ref fa) →
  ∃ fd : FuncData, (∀ (s : Shared) (u : Value), BindsTo s fd ⟨[u], []⟩ [(x, u)]) ∧
   ∀ base : Heap, (K w.params).In base → base.Ns mainGlobals mg → FnOk l.prog w (K w.params) mg base (CX w) k fa fd [x] (sp w))
 (ts : List (Addr × Str × Pos)) (hts : ∀ (w : World) (h : Heap), YP w h → (∀ t ∈ ts, h.get? t.1 = some { cls := .none, data := .fields #[] }) ∧ (∀ t ∈ ts, isCodeTable h t.1) ∧ ∀ t ∈ ts, (K w.params).lookup t.1 = none) (htu : ∀ t ∈ ts, ∀ t' ∈ ts, t.1 = t'.1 → t = t')
 (hsp : ∀ (w : World) (H : Hp) (a : Addr) (ns : List Int), ns.length ≤ n → (∀ t ∈ ts, H t.1 = some (.tbl t.2.1 t.2.2)) → SqL (K w.params) H a (ns.map V.int) → sp w [.ref a] H (fun v _ => v = .bl true) fun _ _ _ => False)
 (hCX : ∀ (w : World) (H : Hp) (s : Shared) (e : Value) (s' : Shared), CX w [] H s (fun _ _ _ => False) e s' → False) :
 PySem.W.WalkO q loose XP YP l.row.toRowW d [] (fun f vs => PySem.call f vs) := by
 refine Att.attach_call hn hdf fun w s₀ s₁ mg mb fa o pm cd doc a vs ns G Y ho hd hcd hmg hobj hints hlen hg => ?_
 have KX := hY w _ Y
 obtain ⟨fd, hb, hF⟩ := F w mg fa _ KX G.T.g hmg
 exact law_call KX G.T.g G.T.b G.T.builtins G.T.nolimit G.T.bmain hg hobj hints (Nat.le_trans hlen hn2) hr hF hb ts (hts w _ Y).1 (hts w _ Y).2.1 (hts w _ Y).2.2 htu (fun H hO hS => hsp w H a ns hlen hO hS) fun H e s' => hCX w H s₁ e s'
theorem walk_ofK {l : PySem.W.OpenLaw} {n k : Nat} {q : Program} {loose : List Str} {XP : (Str → Option Value) → Heap → Prop} {YP : World → Heap → Prop} {d : DefRec} {K : Params → PySem.W.Frag} {CX : CXT} {sp : PySem.W.Frag → Sp} {x : Str}
 (hn : l.most = some n) (hn2 : n ≤ sizeLine) (hdf : d.params.defaults = []) (hr : Room k callerA)
 (hY : ∀ (w : World) (h : Heap), YP w h → (K w.params).In h)
 (F : ∀ (w : World) (mg : Str → Option Value) (fa : Addr) (h : Heap), (K w.params).In h → h.Ns mainGlobals mg → mg d.name = some (.ref fa) →
  ∃ fd : FuncData, (∀ (s : Shared) (u : Value), BindsTo s fd ⟨[u], []⟩ [(x, u)]) ∧
   ∀ base : Heap, (K w.params).In base → base.Ns mainGlobals mg → FnOk l.prog w (K w.params) mg base CX k fa fd [x] (sp (K w.params)))
 (ts : List (Addr × Str × Pos)) (hts : ∀ (w : World) (h : Heap), YP w h → (∀ t ∈ ts, h.get? t.1 = some { cls := .none, data := .fields #[] }) ∧ (∀ t ∈ ts, isCodeTable h t.1) ∧ ∀ t ∈ ts, (K w.params).lookup t.1 = none) (htu : ∀ t ∈ ts, ∀ t' ∈ ts, t.1 = t'.1 → t = t')
 (hsp : ∀ (K : PySem.W.Frag) (H : Hp) (a : Addr) (ns : List Int), ns.length ≤ n → (∀ t ∈ ts, H t.1 = some (.tbl t.2.1 t.2.2)) → SqL K H a (ns.map V.int) → sp K [.ref a] H (fun v _ => v = .bl true) fun _ _ _ => False)
 (hCX : ∀ (H : Hp) (s : Shared) (e : Value) (s' : Shared), CX [] H s (fun _ _ _ => False) e s' → False) :
 PySem.W.WalkO q loose XP YP l.row.toRowW d [] (fun f vs => PySem.call f vs) :=
 walk_of (K := K) (CX := fun _ => CX) (sp := fun w => sp (K w.params)) hn hn2 hdf hr hY F ts hts htu (fun w H a ns h1 h2 h3 => hsp (K w.params) H a ns h1 h2 h3) fun _ H s e s' => hCX H s e s'
end L2
/- THE LAST THEOREM (shape; LID, My.* are yours):
   My.Adr: a structure of the addresses that your layer names (classes, functions); My.Txt K t: a structure (Prop) of the equations over K;
   My.txt_mk : {K} {implicit addresses ..} (e1 : nsIn K mainGlobals "law" = some (some (.ref f))) (e2 : K.lookup f = some ⟨oc, od, .func (fnOf "law" "law" params body scope dV kV doc pm an cdv ct), sl⟩) (e3 : codeIn K cdv "law" = true) .. : ∃ t, My.Txt K t
set_option maxRecDepth 100000 in
set_option maxHeartbeats 0 in
(the tactic k_is has no namespace: write k_is) -/
namespace L2
open PySem PySem.Spec PyProof.Rows
def defArgs (s : Stmt) : Arguments := match s with
 | .FunctionDef _ a _ _ _ _ _ _ _ _ => a
 | _ => { posonlyargs := [], args := [], vararg := none, kwonlyargs := [], kw_defaults := [], kwarg := none, defaults := [] }
def defBody (s : Stmt) : List Stmt := match s with
 | .FunctionDef _ _ b _ _ _ _ _ _ _ => b
 | _ => []
def defScope (s : Stmt) : Scope := match s with
 | .FunctionDef _ _ _ _ _ _ sc _ _ _ => sc
 | _ => { kind := .function, names := [], isGenerator := false, isCoroutine := false }
abbrev CX0 : CXT := fun _ _ _ _ _ _ => False
abbrev E0 : XK := fun _ _ _ => False
theorem pass0 {X : Cx} : Passes CX0 X E0 := fun _ _ _ _ _ _ _ h => h.elim
structure Fun (K : PySem.W.Frag) (x qual : Str) (st : Stmt) (f : Addr) (fd : FuncData) : Prop where
 ex : ∃ (oc : Value) (od : Option Addr) (kV doc pm : Value) (an : Option Addr) (cdv ct : Value) (osl : Array (Option Value)),
  fd = PySem.W.fnOf x qual (defArgs st) (defBody st) (defScope st) .none kV doc pm an cdv ct ∧ K.lookup f = some ⟨oc, od, .func fd, osl⟩ ∧ PySem.W.codeIn K cdv qual = true
 kp : PySem.W.keepIn K (.ref f) = true
section
variable {P : Program} {w : World} {K : PySem.W.Frag} {mg : Str → Option Value} {base : Heap}
end
section
variable {X : Cx}
end
theorem iteF {A B : Prop} (h : B) : if false = true then A else B := by
 rw [if_neg Bool.false_ne_true]
 exact h
theorem iteT {A B : Prop} (h : A) : if true = true then A else B := by
 rw [if_pos rfl]
 exact h
def Same (H H' : Hp) : Prop := ∀ b o, H b = some o → H' b = some o
theorem Same.refl (H : Hp) : Same H H := fun _ _ h => h
theorem Same.trans {H H1 H2 : Hp} (a : Same H H1) (b : Same H1 H2) : Same H H2 := fun c o h => b c o (a c o h)
theorem Same.free {H H' : Hp} (e : Same H H') {l : Addr} (h : H' l = Option.none) : H l = Option.none := by
 cases q : H l with
 | none => rfl
 | some o =>
  rw [e l o q] at h
  cases h
theorem Same.seq {K : PySem.W.Frag} {H H' : Hp} {a : Addr} {xs : List V} (e : Same H H') (h : SqL K H a xs) : SqL K H' a xs := by
 rcases h with (h | ⟨o, h⟩) | h
 ·exact .inl (.inl (e _ _ h))
 ·exact .inl (.inr ⟨o, e _ _ h⟩)
 ·exact .inr h
end L2
namespace My
open PySem PySem.Spec PyProof.Rows L2
abbrev St := L2.St
theorem same_new {H : Hp} {p : Addr} (h : H p = none) (o : HO) : Same H (upd H p o) := fun b u q => by rw [upd_ne (ne_of_none q h)]; exact q
structure Df (K : PySem.W.Frag) (mg : Str → Option Value) (x : Str) (st : Stmt) (ps : List Str) : Prop where
 ex : ∃ (f : Addr) (fd : FuncData), Fun K x x st f fd ∧ Binds K fd ps [] ∧ mg x = some (.ref f)
structure Has (P : Program) (w : World) (K : PySem.W.Frag) (mg : Str → Option Value) (base : Heap) (n : Nat) (x : Str) (ps : List Str) (sp : Sp) : Prop where
 ex : ∃ (f : Addr) (fd : FuncData), FnOk P w K mg base CX0 n f fd ps sp ∧ Binds K fd ps [] ∧ PySem.W.keepIn K (.ref f) = true ∧ mg x = some (.ref f)
section
variable {P : Program} {w : World} {K : PySem.W.Frag} {mg : Str → Option Value} {base : Heap} {x : Str} {ps N : List Str} {sp : Sp} {st : Stmt} {k n : Nat}
theorem Has.mono (h : Has P w K mg base k x ps sp) (l : k ≤ n) : Has P w K mg base n x ps sp := by
 obtain ⟨f, fd, F, b, kp, m⟩ := h.ex
 exact ⟨f, fd, F.mono l, b, kp, m⟩
end
section
variable {X : Cx} {x : Str} {ps : List Str} {sp : Sp} {n : Nat} {p pos : Pos} {e : Expr} {es : List Expr} {t : TA}
theorem pe_callH (h : Has X.prog X.w X.K X.mg X.base n x ps sp) (hr : Room n X.A) (ha : PA X (e :: es) t) (hg : Gl X x := by rfl) (hdb : (x == ("__debug__" : Str)) = false := by decide)
 (he : starEach (e :: es) X.env = (false, eval e X.env) :: starEach es X.env := by rfl) (hpl : (backTo pos (starEach es X.env)).any (·.1) = false := by rfl) :
 PE X (.Call (.Name x p) (e :: es) [] pos) (tCall sp [] E0 t) := by
 obtain ⟨f, fd, F, b, kp, m⟩ := h.ex
 exact pe_call F hr hg m kp b .nil pass0 ha hdb he hpl
end
mutual
inductive RdV (K : PySem.W.Frag) (H : Hp) : V → PyData → Prop
 | non : RdV K H .non .none
 | bl (b : Bool) : RdV K H (.bl b) (.bool b)
 | int (i : Int) : RdV K H (.int i) (.int i)
 | str (x : Str) : RdV K H (.str x) (.str x)
 | lst {a : Addr} {xs : List V} {ds : List PyData} : SqL K H a xs → RdVs K H xs ds → RdV K H (.ref a) (.list ds)
 | tup {a : Addr} {xs : List V} {ds : List PyData} : SqT K H a xs → RdVs K H xs ds → RdV K H (.ref a) (.tuple ds)
inductive RdVs (K : PySem.W.Frag) (H : Hp) : List V → List PyData → Prop
 | nil : RdVs K H [] []
 | cons {v : V} {d : PyData} {vs : List V} {ds : List PyData} : RdV K H v d → RdVs K H vs ds → RdVs K H (v :: vs) (d :: ds)
end
section
variable {X : Cx} {pins : List (Addr × Obj)} {σ : St} {H : Hp} {s : Shared}
mutual
theorem RdV.reads (I : Inv X pins σ H s) : ∀ {v : V} {d : PyData}, RdV X.K H v d → ∀ {u : Value}, RelV v u → ∃ as, Reads s.heap u d as
 | _, _, .non, _, r => by cases r; exact ⟨_, .none⟩
 | _, _, .bl b, _, r => by cases r; exact ⟨_, .bool b⟩
 | _, _, .int i, _, r => by obtain ⟨t, rfl⟩ := r; exact ⟨_, .int i t⟩
 | _, _, .str x, _, r => by obtain ⟨t, rfl⟩ := r; exact ⟨_, .str x t⟩
 | _, _, .lst h q, _, r => by
  cases r
  obtain ⟨its, rv, ⟨o, n, e, c, _, d⟩, _⟩ := I.list h
  obtain ⟨as, z⟩ := RdVs.reads I q rv
  exact ⟨_, .list e c d (by simpa using z)⟩
 | _, _, .tup h q, _, r => by
  cases r
  obtain ⟨its, rv, ⟨o, e, c, n, d⟩, _⟩ := I.tuple h
  obtain ⟨as, z⟩ := RdVs.reads I q rv
  exact ⟨_, .tuple e c d (by simpa using z)⟩
theorem RdVs.reads (I : Inv X pins σ H s) : ∀ {vs : List V} {ds : List PyData}, RdVs X.K H vs ds → ∀ {us : List Value}, Vals vs us → ∃ as, ReadsAll s.heap us ds as
 | _, _, .nil, _, r => by cases r; exact ⟨_, .nil⟩
 | _, _, .cons h q, _, r => by
  cases r with
  | cons r1 r2 =>
   obtain ⟨as, z⟩ := RdV.reads I h r1
   obtain ⟨bs, y⟩ := RdVs.reads I q r2
   exact ⟨_, .cons z y⟩
end
end
section
variable {X : Cx}
def rEqD (K : PySem.W.Frag) : R2 := fun x y H Q => ∃ da db, RdV K H x da ∧ RdV K H y db ∧ SeqAt.shaped da = true ∧ SeqAt.shaped db = true ∧ Q (.bl (PyData.eqv da db)) H
def rNeD (K : PySem.W.Frag) : R2 := fun x y H Q => ∃ da db, RdV K H x da ∧ RdV K H y db ∧ SeqAt.shaped da = true ∧ SeqAt.shaped db = true ∧ Q (.bl (!PyData.eqv da db)) H
theorem op_eqD (hu : X.A.units + 64 < cLine) : OpR X (compareOp .Eq) (rEqD X.K) := by
 intro pins s σ H x y v u Q I rx ry h
 obtain ⟨da, db, ha, hb, sa, sb, q⟩ := h
 obtain ⟨as, za⟩ := ha.reads I rx
 obtain ⟨bs, zb⟩ := hb.reads I ry
 exact SeqAt.compareEq_shaped za zb sa sb hu ⟨.bl _, H, I, rfl, q⟩
theorem op_neD (hu : X.A.units + 64 < cLine) : OpR X (compareOp .NotEq) (rNeD X.K) := by
 intro pins s σ H x y v u Q I rx ry h
 obtain ⟨da, db, ha, hb, sa, sb, q⟩ := h
 obtain ⟨as, za⟩ := ha.reads I rx
 obtain ⟨bs, zb⟩ := hb.reads I ry
 exact SeqAt.compareNe_shaped za zb sa sb hu ⟨.bl _, H, I, rfl, q⟩
end
def isT (c T : String) : Bool := T == c || (T == "bool" && c == "int")
section
variable {K : PySem.W.Frag}
theorem kit_nn (h : c = "int" ∨ c = "bool" ∨ c = "tuple" ∨ c = "list" ∨ c = "str") (g : T = "NoneType" ∨ T = "bool" ∨ T = "int" ∨ T = "str" ∨ T = "list" ∨ T = "tuple" ∨ T = "dict") :
 PySem.W.kitOne K (.type T) (.type c) = some (isT c T) := by
 rcases h with rfl | rfl | rfl | rfl | rfl <;> rcases g with rfl | rfl | rfl | rfl | rfl | rfl | rfl <;> kernel_rfl
end
section
variable {X : Cx}
end
theorem big {X : Cx} {pins : List (Addr × Obj)} {σ : St} {H : Hp} {s : Shared} (I : Inv X pins σ H s) : sysModules < s.heap.objs.size := by
 have h : mainGlobals < s.heap.objs.size := (I.mod.glob.keeps I.bk).lt
 exact Nat.lt_trans (by decide) h
theorem dk_empty {P : Program} {w : World} {H : Hp} (h : Heap) (hb : sysModules < h.objs.size) : ObjOk P w H (h.push { cls := .type "dict", data := .dict #[] }) h.objs.size (.dK []) :=
 ⟨Nat.zero_le _, beq_eq_false_iff_ne.mpr (Ne.symm (Nat.ne_of_lt hb)), [], .nil, Heap.DictOf.new h⟩
def tDNewK : TE := fun _ H Q => ∀ p, H p = none → Q (.ref p) (upd H p (.dK []))
theorem pe_dnewK {X : Cx} {pos : Pos} : PE X (.Dict [] [] pos) tDNewK := fun pins s σ H Q I h =>
 wpAny_Dict_empty ⟨.ref s.heap.objs.size, _, I.laid (a := s.heap.objs.size) (o := .dK []) (t' := s.toks) (fun _ _ q => Heap.get?_push_of_some _ q) (Nat.le_refl _) (dk_empty s.heap (big I)), rfl, h _ (I.hok.fresh (Nat.le_refl _))⟩
end My
namespace My
open PySem PySem.Spec PyProof.Rows L2
section
variable {X : Cx} {a b c d : Expr} {ta tb tc td : TE} {pos : Pos}
def tChain3 (r r' r'' : R2) (ta tb tc td : TE) : TE := fun σ H Q => ta σ H fun x H1 => tb σ H1 fun y H2 => r x y H2 fun z H3 => ∃ k, z = .bl k ∧
 (if k = true then tc σ H3 fun w' H4 => r' y w' H4 fun z' H5 => ∃ k', z' = .bl k' ∧ (if k' = true then td σ H5 fun v' H6 => r'' w' v' H6 Q else Q (.bl false) H5) else Q (.bl false) H3)
theorem pe_chain3 {op op' op'' : CmpOp} {r r' r'' : R2} (ho : OpR X (compareOp op) r) (ho' : OpR X (compareOp op') r') (ho'' : OpR X (compareOp op'') r'') (ha : PE X a ta) (hb : PE X b tb) (hc : PE X c tc) (hd : PE X d td)
 (hm : lastMarks [op, op', op''] [b, c, d] = false := by with_unfolding_all rfl) : PE X (.Compare a [op, op', op''] [b, c, d] pos) (tChain3 r r' r'' ta tb tc td) := by
 intro pins s σ H Q I h
 refine Compare_chain (thn (ha pins s σ H _ I h) fun v s1 ⟨x, H1, I1, r1, q1⟩ => chain_link (thn (hb pins s1 σ H1 _ I1 q1) fun u s2 ⟨y, H2, I2, r2, q2⟩ =>
  thn (ho pins s2 σ H2 x y v u _ I2 r1 r2 q2) fun d s3 ⟨z, H3, I3, r3, k, e, q3⟩ => ?_)) hm
 subst e
 cases r3
 refine wpAny_truthy_bool ?_
 cases k with
 | false => exact ite_ff ⟨.bl false, H3, I3, rfl, q3⟩
 | true =>
  refine ite_tt (chain_link (thn (hc pins s3 σ H3 _ I3 q3) fun w' s4 ⟨z', H4, I4, r4, q4⟩ => thn (ho' pins s4 σ H4 y z' u w' _ I4 r2 r4 q4) fun d' s5 ⟨z2, H5, I5, r5, k2, e2, q5⟩ => ?_))
  subst e2
  cases r5
  refine wpAny_truthy_bool ?_
  cases k2 with
  | false => exact ite_ff ⟨.bl false, H5, I5, rfl, q5⟩
  | true => exact ite_tt (chain_last (thn (hd pins s5 σ H5 _ I5 q5) fun w3 s6 ⟨z3, H6, I6, r6, q6⟩ => ho'' pins s6 σ H6 z' z3 w' w3 Q I6 r4 r6 q6))
end
structure Blt (mg : Str → Option Value) : Prop where
 len_ : mg "len" = none
 range_ : mg "range" = none
 abs_ : mg "abs" = none
 isinstance_ : mg "isinstance" = none
 int_ : mg "int" = none
 bool_ : mg "bool" = none
 tuple_ : mg "tuple" = none
 max_ : mg "max" = none
 min_ : mg "min" = none
end My
namespace My
open PySem PySem.Spec PyProof.Rows L2
abbrev cx (P : Program) (w : World) (K : PySem.W.Frag) (mg : Str → Option Value) (base : Heap) (N : List Str) (x : Str) (st : Stmt) (f : Addr) (cdv : Value) (A : Around) (outer : List Env) (s : Shared) (H : Hp) (E : XK) : Cx :=
 (cxOf CX0 P w K mg base N x (defScope st) f cdv A outer s H E).nox
end My
namespace My
open PySem PySem.Spec PyProof.Rows L2
def clGo (env : Env) : List (Str × NameKind) → List (Str × Addr) → List (Str × Addr)
 | [], cs => cs
 | (n, k) :: r, cs => if (k == NameKind.free) = true then clGo env r ((n, (env.cells.lookup n).getD 0) :: cs) else clGo env r cs
theorem closure_go {env : Env} : ∀ (l : List (Str × NameKind)) (cs : List (Str × Addr)), (∀ x ∈ l, x.2 = .free → ∃ c, env.cells.lookup x.1 = some c) →
 (forIn l cs fun (x : Str × NameKind) (r : List (Str × Addr)) => (if (x.2 == NameKind.free) = true then (do let c ← cellOf env x.1; pure (ForInStep.yield ((x.1, c) :: r))) else pure (ForInStep.yield r) : Sem (ForInStep (List (Str × Addr))))) = pure (clGo env l cs)
 | [], _, _ => rfl
 | (n, k) :: r, cs, h => by
  rw [List.forIn_cons]
  by_cases hk : (k == NameKind.free) = true
  ·obtain ⟨c, hc⟩ := h (n, k) List.mem_cons_self (beq_iff_eq.mp hk)
   have hc' : cellOf env n = pure c := by
    unfold cellOf
    rw [show env.cells.lookup n = some c from hc]
   show (do let x ← (if (k == NameKind.free) = true then (do let c ← cellOf env n; pure (ForInStep.yield ((n, c) :: cs))) else pure (ForInStep.yield cs) : Sem (ForInStep (List (Str × Addr)))); _) = _
   rw [if_pos hk, hc']
   have ih := closure_go r ((n, c) :: cs) fun x hx => h x (List.mem_cons_of_mem _ hx)
   rw [clGo, if_pos hk, show env.cells.lookup n = some c from hc]
   exact ih
  ·show (do let x ← (if (k == NameKind.free) = true then (do let c ← cellOf env n; pure (ForInStep.yield ((n, c) :: cs))) else pure (ForInStep.yield cs) : Sem (ForInStep (List (Str × Addr)))); _) = _
   rw [if_neg hk]
   have ih := closure_go r cs fun x hx => h x (List.mem_cons_of_mem _ hx)
   rw [clGo, if_neg hk]
   exact ih
theorem closure_eq {env : Env} {scope : Scope} (h : ∀ x ∈ scope.names, x.2 = .free → ∃ c, env.cells.lookup x.1 = some c) : closureFor scope env = pure (clGo env scope.names []) := by
 have z := closure_go (env := env) scope.names [] h
 show (forIn scope.names [] fun (x : Str × NameKind) (r : List (Str × Addr)) => (if (x.2 == NameKind.free) = true then (do let c ← cellOf env x.1; pure (ForInStep.yield ((x.1, c) :: r))) else pure (ForInStep.yield r) : Sem (ForInStep (List (Str × Addr))))) >>= (fun cs => pure cs) = _
 rw [z]
 rfl
theorem clGo_sub {env : Env} : ∀ (l : List (Str × NameKind)) (cs : List (Str × Addr)), (∀ x ∈ l, x.2 = .free → ∃ c, env.cells.lookup x.1 = some c) → (∀ x c, cs.lookup x = some c → env.cells.lookup x = some c) →
 ∀ x c, (clGo env l cs).lookup x = some c → env.cells.lookup x = some c
 | [], _, _, hc, x, c, e => hc x c e
 | (n, k) :: r, cs, h, hc, x, c, e => by
  rw [clGo] at e
  by_cases hk : (k == NameKind.free) = true
  ·rw [if_pos hk] at e
   obtain ⟨d, hd⟩ := h (n, k) List.mem_cons_self (beq_iff_eq.mp hk)
   refine clGo_sub r _ (fun x hx => h x (List.mem_cons_of_mem _ hx)) (fun y c' e' => ?_) x c e
   rw [List.lookup_cons] at e'
   cases hy : y == n with
   | true =>
    rw [hy] at e'
    have : y = n := beq_iff_eq.mp hy
    subst this
    rw [show env.cells.lookup y = some d from hd] at e' ⊢
    exact e'
   | false =>
    rw [hy] at e'
    exact hc y c' e'
  ·rw [if_neg hk] at e
   exact clGo_sub r cs (fun x hx => h x (List.mem_cons_of_mem _ hx)) hc x c e
theorem clGo_has {env : Env} : ∀ (l : List (Str × NameKind)) (cs : List (Str × Addr)) (x : Str), ((x, NameKind.free) ∈ l ∨ ∃ c, cs.lookup x = some c) → ∃ c, (clGo env l cs).lookup x = some c
 | [], _, x, h => by
  rcases h with h | h
  ·exact absurd h (by simp)
  ·exact h
 | (n, k) :: r, cs, x, h => by
  rw [clGo]
  by_cases hk : (k == NameKind.free) = true
  ·rw [if_pos hk]
   refine clGo_has r _ x ?_
   by_cases e : x = n
   ·subst e
    exact .inr ⟨_, by rw [List.lookup_cons, beq_self_eq_true]⟩
   ·rcases h with h | ⟨c, h⟩
    ·rcases List.mem_cons.mp h with h | h
     ·exact absurd (congrArg Prod.fst h) e
     ·exact .inl h
    ·exact .inr ⟨c, by rw [List.lookup_cons, beq_eq_false_iff_ne.mpr e]; exact h⟩
  ·rw [if_neg hk]
   refine clGo_has r cs x ?_
   rcases h with h | h
   ·rcases List.mem_cons.mp h with h | h
    ·have : k = .free := (congrArg Prod.snd h).symm
     subst this
     exact absurd rfl hk
    ·exact .inl h
   ·exact .inr h
abbrev blk (X : Cx) (N' : List Str) (scope : Scope) (cl : List (Str × Addr)) (C : Addr) (s3 : Shared) (H3 : Hp) (fp : List Addr) : Cx :=
 { X with N := N', s₀ := s3, H₀ := H3, env := compEnvC scope cl C X.env, outer := X.stack, ex := fp, fn := fun _ => false, xe := fun _ _ => False }
def capB (N : List Str) (kinds sn : List (Str × NameKind)) : List Str → List Nat → Bool
 | [], [] => true
 | x :: V, j :: ix => (N[j]? == some x) && ((kinds.lookup x == some NameKind.cell) && ((sn.lookup x == some NameKind.free) && capB N kinds sn V ix))
 | _, _ => false
def capσ (t : Nat) (ix : List Nat) (σ : St) : St := List.replicate t none ++ ix.map fun j => (σ[j]?).getD none
theorem capB_get {N : List Str} {kinds sn : List (Str × NameKind)} : ∀ {V : List Str} {ix : List Nat}, capB N kinds sn V ix = true → ix.length = V.length ∧ ∀ (k : Nat) (x : Str), V[k]? = some x → ∃ j, ix[k]? = some j ∧ N[j]? = some x ∧ kinds.lookup x = some .cell ∧ sn.lookup x = some .free
 | [], [], _ => ⟨rfl, fun k x h => by simp at h⟩
 | x :: V, j :: ix, h => by
  rw [capB, Bool.and_eq_true, Bool.and_eq_true, Bool.and_eq_true] at h
  obtain ⟨h1, h2, h3, h4⟩ := h
  obtain ⟨l, r⟩ := capB_get h4
  refine ⟨by simp [l], fun k y hy => ?_⟩
  cases k with
  | zero =>
   simp at hy
   subst hy
   exact ⟨j, rfl, beq_iff_eq.mp h1, beq_iff_eq.mp h2, beq_iff_eq.mp h3⟩
  | succ k => exact r k y (by simpa using hy)
 | [], _ :: _, h => by simp [capB] at h
 | _ :: _, [], h => by simp [capB] at h
theorem relabel_cell {env : Env} (hf : env.scope.kind = .function) : ∀ {names : List (Str × NameKind)} {x : Str}, names.lookup x = some .free → env.kindOf x = some .cell →
 (names.map fun (n, k) => if (k == NameKind.free && env.scope.kind == .function && env.kindOf n == some .cell) then (n, NameKind.cell) else (n, k)).lookup x = some .cell
 | [], _, h, _ => by simp at h
 | (n, k) :: r, x, h, hc => by
  have ih := @relabel_cell env hf r x
  show List.lookup x ((if (k == NameKind.free && env.scope.kind == .function && env.kindOf n == some .cell) = true then (n, NameKind.cell) else (n, k)) :: _) = _
  cases hx : x == n with
  | true =>
   have e : x = n := beq_iff_eq.mp hx
   subst e
   simp only [List.lookup_cons, hx] at h
   cases h
   rw [if_pos (by rw [hf, hc]; rfl)]
   simp [List.lookup_cons]
  | false =>
   simp only [List.lookup_cons, hx] at h
   by_cases hq : (k == NameKind.free && env.scope.kind == .function && env.kindOf n == some .cell) = true
   ·rw [if_pos hq]; simp only [List.lookup_cons, hx]; exact ih h hc
   ·rw [if_neg hq]; simp only [List.lookup_cons, hx]; exact ih h hc
theorem relabel_back {env : Env} : ∀ {names : List (Str × NameKind)} {x : Str} {k : NameKind}, (∀ y ∈ names, y.2 ≠ .cell) → (k = .cell ∨ k = .free) →
 (names.map fun (n, k) => if (k == NameKind.free && env.scope.kind == .function && env.kindOf n == some .cell) then (n, NameKind.cell) else (n, k)).lookup x = some k → (x, NameKind.free) ∈ names
 | [], _, _, _, _, h => by simp at h
 | (n, k') :: r, x, k, hc, hk, h => by
  have ih := @relabel_back env r x k (fun y hy => hc y (List.mem_cons_of_mem _ hy)) hk
  have h' : List.lookup x ((if (k' == NameKind.free && env.scope.kind == .function && env.kindOf n == some .cell) = true then (n, NameKind.cell) else (n, k')) :: (r.map fun (n, k) => if (k == NameKind.free && env.scope.kind == .function && env.kindOf n == some .cell) then (n, NameKind.cell) else (n, k))) = some k := h
  by_cases hq : (k' == NameKind.free && env.scope.kind == .function && env.kindOf n == some .cell) = true
  ·rw [if_pos hq] at h'
   have kf : k' = .free := by
    rw [Bool.and_eq_true, Bool.and_eq_true] at hq
    exact beq_iff_eq.mp hq.1.1
   cases hx : x == n with
   | true =>
    have e : x = n := beq_iff_eq.mp hx
    subst e
    subst kf
    exact List.mem_cons_self
   | false =>
    simp only [List.lookup_cons, hx] at h'
    exact List.mem_cons_of_mem _ (ih h')
  ·rw [if_neg hq] at h'
   cases hx : x == n with
   | true =>
    have e : x = n := beq_iff_eq.mp hx
    subst e
    simp only [List.lookup_cons, hx] at h'
    cases h'
    rcases hk with hk | hk
    ·exact absurd hk (hc _ List.mem_cons_self)
    ·subst hk
     exact List.mem_cons_self
   | false =>
    simp only [List.lookup_cons, hx] at h'
    exact List.mem_cons_of_mem _ (ih h')
section
variable {X : Cx} {pins : List (Addr × Obj)} {σ : St} {H : Hp} {s : Shared}
theorem Inv.forget {σ' : St} (I : Inv X pins σ H s) (hl : σ'.length = X.N.length) (h : ∀ (i : Nat) (v : V), σ'[i]? = some (some v) → σ[i]? = some (some v)) : Inv X pins σ' H s := by
 obtain ⟨m, hn, hx⟩ := I.loc
 exact ⟨I.ok, I.os, I.bare, I.base, ⟨m, hn, fun i x v e1 e2 e3 => hx i x v e1 (h i v e2) e3⟩, I.cell, I.free, I.freeC, I.pin, I.hok, hl⟩
end
end My
namespace My
open PySem PySem.Spec PyProof.Rows L2
theorem compLoop_go {prog : Program} {w : World} {A : Around} {R : Result → Shared → Prop} {elt target iter : Expr} {ifs : List Expr} {scope : Scope} {pos : Pos} {it acc : Value} {env : Env} {s : Shared} (I : Nat → Shared → Prop)
 (turn : ∀ n s, I n s → wpAny (model prog w) A (pyNext it) (fun r s₁ => match r with
  | none => R (.ok .next) s₁
  | some v => wpAny (model prog w) A (letOwnedTupleGo target it v) (fun _ s₁' => wpAny (model prog w) A (assign target env v) (fun _ s₂ =>
   wpAny (model prog w) A (forIn ifs true fun c r => if r = true then do let ok ← isTrue c env (eval c env); pure (ForInStep.yield ok) else pure (ForInStep.yield r)) (fun ok s₃ =>
    if ok = true then wpAny (model prog w) A (eval elt env) (fun x s₄ =>
     wpAny (model prog w) A (call (.builtin "list.append") [acc, x]) (fun _ s₅ => ∃ m, m < n ∧ I m s₅) (fun _ _ => False) s₄) (fun _ _ => False) s₃
    else ∃ m, m < n ∧ I m s₃) (fun _ _ => False) s₂) (fun _ _ => False) s₁') (fun _ _ => False) s₁) (fun _ _ => False) s)
 (n : Nat) (h : I n s) :
 codeAny (model prog w) A (.compLoop (.ListComp elt [⟨target, iter, ifs, 0⟩] scope pos) 0 it acc env) R s := by
 refine codeAny_loop rfl I (fun n s hI => ?_) n h
 show wpAny _ A ((compTurn (.ListComp elt [⟨target, iter, ifs, 0⟩] scope pos) 0 it acc env).onRaise (fun x => do noteFrame x env; theTreesLotGoes x)) _ _ s
 refine wpAny_noted ?_
 rw [compTurn_list]
 refine wpAny_bind (wpAny_standAt (wpAny_bind (wpAny_mono (turn n s hI) (fun r s₁ h₁ => ?_) fun _ _ h' => h'.elim)))
 cases r with
 | none => exact wpAny_pure h₁
 | some v =>
  refine wpAny_bind (wpAny_mono h₁ (fun _ s₁' h₁' => ?_) fun _ _ h' => h'.elim)
  refine wpAny_bind (wpAny_mono h₁' (fun _ s₂ h₂ => wpAny_bind (wpAny_mono h₂ (fun ok s₃ h₃ => ?_) fun _ _ h' => h'.elim)) fun _ _ h' => h'.elim)
  cases ok with
  | false => exact wpAny_pure ⟨rfl, h₃⟩
  | true =>
   exact wpAny_bind (wpAny_bind (wpAny_mono h₃ (fun x s₄ h₄ => wpAny_bind (wpAny_mono h₄ (fun _ s₅ h₅ => wpAny_pure (wpAny_pure ⟨rfl, h₅⟩)) fun _ _ h' => h'.elim)) fun _ _ h' => h'.elim))
section
variable {X : Cx} {pins : List (Addr × Obj)} {σ : St} {H : Hp}
theorem inv_block {T V : List Str} {ix : List Nat} {scope : Scope} {s3 : Shared} {fp : List Addr} {h₁ : Heap} {tk : Nat} {m : Str → Option Value}
 (I : Inv X pins σ H s3) (hf : ∀ b ∈ fp, FpOk X pins H b) (ho : ∀ b ∈ fp, ∃ o, s3.heap.get? b = some o)
 (hk : scope.kind = .function) (hcell : ∀ y ∈ scope.names, y.2 ≠ .cell) (hfr : ∀ x ∈ scope.names, x.2 = .free → x.1 ∈ V) (hB : capB X.N X.env.scope.names scope.names V ix = true)
 (hns : h₁.Ns s3.heap.objs.size m) (keep : ∀ b o, s3.heap.get? b = some o → h₁.get? b = some o) :
 Inv (blk X (T ++ V) scope (clGo X.env scope.names []) s3.heap.objs.size s3 H fp) pins (capσ T.length ix σ) H { s3 with heap := h₁, toks := tk } := by
 obtain ⟨lV, capV⟩ := capB_get hB
 have hcl : ∀ x ∈ scope.names, x.2 = .free → ∃ c, X.env.cells.lookup x.1 = some c := fun x hx e => by
  obtain ⟨k, ek⟩ := List.getElem?_of_mem (hfr x hx e)
  obtain ⟨j, _, _, hc, _⟩ := capV k _ ek
  exact I.ok.has _ (.inl hc)
 have sub := clGo_sub (env := X.env) scope.names [] hcl (fun x c e => by simp at e)
 have stkSub : ∀ b, b ∈ frs X.stack → b = X.env.locals ∨ b ∈ X.fs := fun b z => List.mem_cons.mp (I.stkSub b z)
 have lt : ∀ b o, s3.heap.get? b = some o → b ≠ s3.heap.objs.size := fun b o e => Nat.ne_of_lt (Heap.lt_size e)
 have cellK : ∀ c v, s3.heap.IsCell c v → h₁.IsCell c v := fun c v ⟨o, e, d⟩ => ⟨o, keep c o e, d⟩
 refine ⟨⟨I.ok.mod, hk, I.ok.glob, I.ok.blt, Nat.le_refl _, fun x y c e1 e2 => I.ok.inj x y c (sub x c e1) (sub y c e2), fun x hx => ?_, fun x c hx => ?_, I.ok.hd, I.ok.frames, .inl rfl, fun b hb => ⟨?_, fun x c e => ?_⟩, I.bs, Nat.le_trans I.ok.bsz I.sz, fun b o e hb => ?_, fun b hb z => ?_, I.stack, I.stkFree⟩,
  rfl, I.bare, Un.kept keep, ⟨m, hns, fun i x v e1 e2 e3 => ?_⟩, fun x c e => ?_, I.hok.fresh (Nat.le_refl _), fun x c e => I.freeC x c (sub x c e), fun p hp => ?_, I.hok.kept keep, ?_⟩
 ·rcases hx with hx | hx
  ·exact clGo_has _ _ x (.inl (relabel_back hcell (.inl rfl) hx))
  ·exact clGo_has _ _ x (.inl (relabel_back hcell (.inr rfl) hx))
 ·exact absurd hx (by simp)
 ·obtain ⟨o, e⟩ := ho b hb
  exact lt b o e
 ·exact (hf b hb).2.2.2.2.1 x c (sub x c e)
 ·rcases (hf b hb).2.2.2.1 with z | z
  ·exact I.ok.noex b o e z
  ·exact absurd (Nat.lt_of_lt_of_le (Heap.lt_size e) (Nat.le_trans I.ok.bsz z)) (Nat.lt_irrefl _)
 ·rcases stkSub b z with z | z
  ·exact (hf b hb).2.1 z
  ·exact (hf b hb).2.2.1 z
 ·by_cases hi : i < T.length
  ·have e2' : (List.replicate T.length none ++ ix.map fun j => (σ[j]?).getD none)[i]? = some (some v) := e2
   rw [List.getElem?_append_left (by rw [List.length_replicate]; exact hi), List.getElem?_replicate, if_pos hi] at e2'
   exact absurd e2' (by simp)
  ·have e1' : (T ++ V)[i]? = some x := e1
   rw [List.getElem?_append_right (by omega)] at e1'
   obtain ⟨j, hj, hN, hc, hfree⟩ := capV _ x e1'
   have e2' : (List.replicate T.length none ++ ix.map fun j => (σ[j]?).getD none)[i]? = some (some v) := e2
   rw [List.getElem?_append_right (by rw [List.length_replicate]; omega), List.length_replicate, List.getElem?_map, hj] at e2'
   have e2'' : (σ[j]?).getD none = some v := by simpa using e2'
   have e3' : σ[j]? = some (some v) := by
    cases q : σ[j]? with
    | none => rw [q] at e2''; exact absurd e2'' (by simp)
    | some o => rw [q] at e2''; simp at e2''; rw [e2'']
   obtain ⟨m0, hn0, hl⟩ := I.loc
   obtain ⟨u, r, l⟩ := hl j x v hN e3' (.inr (.inl hc))
   rcases l with ⟨z, _⟩ | ⟨_, c, ec, hcell'⟩
   ·have z' : X.env.scope.names.lookup x = some .local := z
    rw [hc] at z'
    exact absurd z' (by simp)
   ·obtain ⟨c', ec'⟩ := clGo_has (env := X.env) scope.names [] x (.inl (PySem.mem_of_lookup hfree))
    have : c' = c := by
     have q := sub x c' ec'
     rw [ec] at q
     exact (Option.some.inj q).symm
    subst this
    exact ⟨u, r, .inr ⟨.inl (relabel_cell I.ok.kind hfree hc), c', ec', cellK _ _ hcell'⟩⟩
 ·obtain ⟨v, z⟩ := I.cell x c (sub x c e)
  exact ⟨v, cellK c v z⟩
 ·obtain ⟨e, n, ne, nf, d⟩ := I.pin p hp
  refine ⟨keep _ _ e, n, lt _ _ e, fun z => ?_, d⟩
  rcases stkSub p.1 z with z | z
  ·exact ne z
  ·exact nf z
 ·show (List.replicate T.length none ++ ix.map fun j => (σ[j]?).getD none).length = (T ++ V).length
  rw [List.length_append, List.length_replicate, List.length_map, List.length_append, lV]
theorem inv_back {N' : List Str} {scope : Scope} {cl : List (Str × Addr)} {pins' : List (Addr × Obj)} {σ' : St} {H3 H' : Hp} {s3 s' : Shared} {fp : List Addr} (I3 : Inv X pins σ H3 s3) (hf : ∀ b ∈ fp, FpOk X pins H3 b)
 (I' : Inv (blk X N' scope cl s3.heap.objs.size s3 H3 fp) pins' σ' H' s') : Inv X pins σ H' s' ∧ FpOk X pins H' s3.heap.objs.size := by
 have fr : H' s3.heap.objs.size = none := I'.free
 refine ⟨?_, I3.fpOk (Nat.le_refl _) fr⟩
 have os : s'.os = s3.os := I'.os
 have u : Un (frs X.stack) fp H3 H' s3.heap s'.heap := I'.base
 have ho := I'.hok
 have hb := I'.bare
 obtain ⟨hh, g, d, t, os'⟩ := s'
 obtain rfl : os' = s3.os := os
 exact I3.call (h' := hh) (g' := g) (d' := d) (t' := t) (ch := fp) u ho hb fun b hb' => ⟨(hf b hb').2.2.2.1, (hf b hb').2.1, (hf b hb').2.2.2.2.1, (hf b hb').2.2.2.2.2⟩
end
def PTs (X : Cx) (ifs : List Expr) (t : TT) : Prop :=
 ∀ (pins : List (Addr × Obj)) (s : Shared) (σ : St) (H : Hp) (Q : Bool → Hp → Prop), Inv X pins σ H s → t σ H Q →
  wpAny (model X.prog X.w) X.A (forIn ifs true fun c r => if r = true then do let ok ← isTrue c X.env (eval c X.env); pure (ForInStep.yield ok) else pure (ForInStep.yield r)) (TP X pins σ Q) X.xe s
def tYes : TT := fun _ H Q => Q true H
theorem pts_nil {X : Cx} : PTs X [] tYes := fun _ _ _ H _ I h => wpAny_tests_nil ⟨H, I, h⟩
theorem pts_one {X : Cx} {c : Expr} {t : TT} (h : PT X c t) : PTs X [c] t := fun pins s σ H Q I q => wpAny_tests_one (h pins s σ H Q I q)
def tComp (wi : TI) (g : TG) (tt : TT) (te : TE) (t : Nat) (cap : St → St) : TE := fun σ H Q => wi σ H fun J H1 => ∀ D, H1 D = none → ∃ W : Nat → Nat → List V → Hp → Prop, (∃ m, W 0 m [] (upd H1 D (.lst []))) ∧
 ∀ i m xs H2, W i m xs H2 → H2 D = some (.lst xs) ∧ ((J.stop i H2 ∧ Q (.ref D) H2) ∨ (J.go i H2 ∧ xs.length < sizeLine ∧ ∀ x H3, J.yld i H2 x H3 → g x (cap σ) H3 fun σ4 H4 => σ4.drop t = (cap σ).drop t ∧
  tt σ4 H4 fun b H5 => if b = true then te σ4 H5 fun v H6 => H6 D = some (.lst xs) ∧ ∃ m', m' < m ∧ W (i + 1) m' (xs ++ [v]) (upd H6 D (.lst (xs ++ [v]))) else ∃ m', m' < m ∧ W (i + 1) m' xs H5))
section
variable {X : Cx} {elt tg iter : Expr} {ifs : List Expr} {scope : Scope} {pos : Pos} {T V : List Str} {ix : List Nat} {wi : TI} {g : TG} {tt : TT} {te : TE}
theorem comp_core (hc : X.calm = true) (hi : PI X tg iter wi)
 (hg : ∀ cl C s3 H3 fp, PG (blk X (T ++ V) scope cl C s3 H3 fp) tg g) (ht : ∀ cl C s3 H3 fp, PTs (blk X (T ++ V) scope cl C s3 H3 fp) ifs tt) (he : ∀ cl C s3 H3 fp, PE (blk X (T ++ V) scope cl C s3 H3 fp) elt te)
 (hB : capB X.N X.env.scope.names scope.names V ix = true) (hk : scope.kind = .function) (hcell : ∀ y ∈ scope.names, y.2 ≠ .cell) (hnames : ∀ x ∈ scope.names, x.2 = .local → scope.names.lookup x.1 = some .local)
 (hfr : ∀ x ∈ scope.names, x.2 = .free → x.1 ∈ V) (hs : ∀ x, foldedSetIterable iter X.env x = pure x) {p : Pos}
 {pins : List (Addr × Obj)} {s : Shared} {σ : St} {H : Hp} (I : Inv X pins σ H s) {use : Option (Value → Sem Unit)} {Qp : Value → Shared → Prop} {Qv : VK} (h : tComp wi g tt te T.length (capσ T.length ix) σ H Qv)
 (fin : ∀ (D C : Addr) (H' : Hp) (s' : Shared) (m : Str → Option Value), Inv X pins σ H' s' → FpOk X pins H' C → s'.heap.Ns C m → Qv (.ref D) H' → compPost (model X.prog X.w) X.A X.xe use Qp (.ref D) C (.ok .next) s') :
 wpAny (model X.prog X.w) X.A (comprehension (.ListComp elt [⟨tg, iter, ifs, 0⟩] scope pos) scope X.env p (newList []) false (eval iter X.env) use) Qp X.xe s := by
 obtain ⟨lV, capV⟩ := capB_get hB
 have hcl : ∀ x ∈ scope.names, x.2 = .free → ∃ c, X.env.cells.lookup x.1 = some c := fun x hx e => by
  obtain ⟨k, ek⟩ := List.getElem?_of_mem (hfr x hx e)
  obtain ⟨j, _, _, hc', _⟩ := capV k _ ek
  exact I.ok.has _ (.inl hc')
 refine wpAny_comprehension_free rfl hs (closure_eq hcl) hk hnames ?_
 refine thn (hi pins s σ H _ I h) fun v s1 h1 => thn h1 fun itv s2 h2 => ?_
 obtain ⟨it, fp, tn, J, H2, e, I2, Tn, st2, f2, R⟩ := h2
 subst e
 refine wpAny_newObj_type (hd := by size_fits) ?_
 have hD : H2 s2.heap.objs.size = none := I2.hok.fresh (Nat.le_refl _)
 have I3 : Inv X pins σ (upd H2 s2.heap.objs.size (.lst [])) { s2 with heap := s2.heap.push { cls := .type "list", dict := none, data := .seq ([] : List Value).toArray } } :=
  I2.laid (t' := s2.toks) (fun b o e => Heap.get?_push_of_some _ e) (Nat.le_refl _) ⟨Nat.zero_le _, [], 0, .nil, Heap.get?_push_size _ rfl⟩
 obtain ⟨W, ⟨m0, w0⟩, turn⟩ := R s2.heap.objs.size hD
 generalize hs3 : ({ s2 with heap := s2.heap.push { cls := .type "list", dict := none, data := .seq ([] : List Value).toArray } } : Shared) = s3 at I3 ⊢
 have st3 : tn 0 s3.heap := by
  rw [← hs3]
  exact Tn.keep 0 s2.heap _ st2 fun b hb o e => Heap.get?_push_of_some _ e
 have f3 : ∀ b ∈ fp, FpOk X pins (upd H2 s2.heap.objs.size (.lst [])) b := fun b hb => by
  obtain ⟨z0, z1⟩ := f2 b hb
  refine ⟨?_, z1⟩
  obtain ⟨o, eo, _⟩ := Tn.obj 0 _ st2 b hb
  rw [upd_ne (Nat.ne_of_lt (Heap.lt_size eo))]
  exact z0
 generalize hH3 : upd H2 s2.heap.objs.size (.lst []) = H3 at I3 f3 w0
 generalize hDn : s2.heap.objs.size = D at turn
 refine wpAny_newFunctionEnv hcell (by intro y hy; simp at hy) (fun h₁ hns₁ hsb₁ => ?_) hk
 have keep : ∀ b o, s3.heap.get? b = some o → h₁.get? b = some o := fun b o e => hsb₁.extBut b o (Nat.ne_of_lt (Heap.lt_size e)) (Heap.get?_push_of_some _ e)
 have I4 := inv_block (T := T) (tk := s3.toks + ([] : List (Str × Value)).length) I3 f3 (fun b hb => let ⟨o, eo, _⟩ := Tn.obj 0 _ st3 b hb; ⟨o, eo⟩) hk hcell hfr hB hns₁ keep
 have st4 : tn 0 h₁ := Tn.keep 0 _ _ st3 fun b hb o e => keep b o e
 have loop : codeAny (model X.prog X.w) X.A (.compLoop (.ListComp elt [⟨tg, iter, ifs, 0⟩] scope pos) 0 (.ref it) (.ref D) (compEnvC scope (clGo X.env scope.names []) s3.heap.objs.size X.env))
  (compPost (model X.prog X.w) X.A X.xe use Qp (.ref D) s3.heap.objs.size) { s3 with heap := h₁, toks := s3.toks + ([] : List (Str × Value)).length } := by
  refine compLoop_go (fun n s' => ∃ i xs H', Inv (blk X (T ++ V) scope (clGo X.env scope.names []) s3.heap.objs.size s3 H3 fp) pins (capσ T.length ix σ) H' s' ∧ tn i s'.heap ∧ (∀ b ∈ fp, H' b = none) ∧ W i n xs H') ?_ m0
   ⟨0, [], H3, I4, st4, fun b hb => (f3 b hb).1, w0⟩
  rintro n s5 ⟨i, xs, H5, I5, st5, fr5, w5⟩
  have stat : ∀ {H' : Hp} {pins' : List (Addr × Obj)} {σ' : St} {s' : Shared}, Inv (blk X (T ++ V) scope (clGo X.env scope.names []) s3.heap.objs.size s3 H3 fp) pins σ' H' s' → (∀ b ∈ fp, H' b = none) → ∀ b ∈ fp, FpOk (blk X (T ++ V) scope (clGo X.env scope.names []) s3.heap.objs.size s3 H3 fp) pins H' b := fun I' hn b hb => by
   obtain ⟨x1, x2⟩ := I'.ok.exf b hb
   refine ⟨hn b hb, x1, I'.ok.exfs b hb, .inl hb, x2, fun q hq => ?_⟩
   exact (f3 b hb).2.2.2.2.2 q hq
  obtain ⟨hD5, r5⟩ := turn i n xs H5 w5
  rcases r5 with ⟨stop, q⟩ | ⟨go, hz, step⟩
  ·refine thn (Tn.done (blk X (T ++ V) scope (clGo X.env scope.names []) s3.heap.objs.size s3 H3 fp) rfl rfl rfl hc i pins s5 _ H5 _ I5 (stat (pins' := pins) I5 fr5) st5 stop) fun r s6 ⟨hr, I6⟩ => ?_
   subst hr
   obtain ⟨Ib, fC⟩ := inv_back I3 f3 I6
   obtain ⟨m, hn, _⟩ := I6.loc
   exact fin D _ H5 s6 m Ib fC hn q
  ·refine thn (Tn.item (blk X (T ++ V) scope (clGo X.env scope.names []) s3.heap.objs.size s3 H3 fp) rfl rfl rfl hc i pins s5 _ H5 _ I5 (stat (pins' := pins) I5 fr5) st5 go) fun r s6 ⟨u, hr, h6⟩ => ?_
   subst hr
   refine thn h6 fun _ s7 ⟨x, H7, I7, rx, y7, st7, fr7⟩ => ?_
   have I7' := I7.pinned (stat (pins' := pins) I7 fr7) (Tn.obj _ _ st7)
   refine thn (hg _ _ _ _ _ _ s7 _ H7 x u _ I7' rx (step x H7 y7)) fun _ s8 ⟨σ8, H8, I8, k8, q8⟩ => ?_
   have again : ∀ {H9 : Hp} {s9 : Shared}, Inv (blk X (T ++ V) scope (clGo X.env scope.names []) s3.heap.objs.size s3 H3 fp) (pins ++ pinsAt fp s7.heap) σ8 H9 s9 →
    Inv (blk X (T ++ V) scope (clGo X.env scope.names []) s3.heap.objs.size s3 H3 fp) pins (capσ T.length ix σ) H9 s9 ∧ tn (i + 1) s9.heap ∧ ∀ b ∈ fp, H9 b = none := fun {H9 s9} I9 => by
    refine ⟨Inv.forget I9.unpinned I4.len fun j v e => ?_, Tn.keep _ _ _ st7 fun b hb o e => (I9.pin (b, o) (List.mem_append_right _ (List.mem_append_right _ (mem_pinsAt hb e)))).1, fun b hb => ?_⟩
    ·by_cases hj : j < T.length
     ·have e' : (List.replicate T.length none ++ ix.map fun j => (σ[j]?).getD none)[j]? = some (some v) := e
      rw [List.getElem?_append_left (by rw [List.length_replicate]; exact hj), List.getElem?_replicate, if_pos hj] at e'
      exact absurd e' (by simp)
     ·have ej : j = T.length + (j - T.length) := by omega
      rw [ej, ← List.getElem?_drop] at e ⊢
      rw [k8]
      exact e
    ·obtain ⟨o, e, d⟩ := Tn.obj _ _ st7 b hb
     exact (I9.pin (b, o) (List.mem_append_right _ (List.mem_append_right _ (mem_pinsAt hb e)))).2.1
   refine thn (ht _ _ _ _ _ _ s8 σ8 H8 _ I8 q8) fun ok s9 ⟨H9, I9, q9⟩ => ?_
   cases ok with
   | false =>
    obtain ⟨m', lm, w9⟩ := q9
    obtain ⟨a1, a2, a3⟩ := again I9
    exact ⟨m', lm, i + 1, xs, H9, a1, a2, a3, w9⟩
   | true =>
    refine thn (he _ _ _ _ _ _ s9 σ8 H9 _ I9 q9) fun y s10 ⟨v, H10, I10, ry, hD10, m', lm, w10⟩ => ?_
    refine thn (mt_append _ s10 σ8 H10 (.ref D) [v] (.ref D) [y] (fun _ Hn => Hn = upd H10 D (.lst (xs ++ [v]))) I10 rfl (.cons ry .nil) ⟨D, xs, v, rfl, rfl, hD10, hz, rfl⟩) fun _ s11 ⟨_, H11, I11, _, e11⟩ => ?_
    subst e11
    obtain ⟨a1, a2, a3⟩ := again I11
    exact ⟨m', lm, i + 1, _, _, a1, a2, a3, w10⟩
 exact codeAny_compStart_list loop (Tn.self _ 0 _ _ _ st4 loop)
theorem pe_comp (hc : X.calm = true) (T V : List Str) (ix : List Nat) (hi : PI X tg iter wi)
 (hg : ∀ cl C s3 H3 fp, PG (blk X (T ++ V) scope cl C s3 H3 fp) tg g) (ht : ∀ cl C s3 H3 fp, PTs (blk X (T ++ V) scope cl C s3 H3 fp) ifs tt) (he : ∀ cl C s3 H3 fp, PE (blk X (T ++ V) scope cl C s3 H3 fp) elt te)
 (hB : capB X.N X.env.scope.names scope.names V ix = true := by rfl) (hk : scope.kind = .function := by rfl) (hcell : ∀ y ∈ scope.names, y.2 ≠ .cell := by decide +kernel)
 (hnames : ∀ x ∈ scope.names, x.2 = .local → scope.names.lookup x.1 = some .local := by decide +kernel)
 (hfr : ∀ x ∈ scope.names, x.2 = .free → x.1 ∈ V := by decide +kernel) (hs : ∀ x, foldedSetIterable iter X.env x = pure x := by intro _; rfl) :
 PE X (.ListComp elt [⟨tg, iter, ifs, 0⟩] scope pos) (tComp wi g tt te T.length (capσ T.length ix)) := by
 intro pins s σ H Q I h
 rw [eval_ListComp]
 refine comp_core (use := none) hc hi hg ht he hB hk hcell hnames hfr hs I h fun D C H' s' m I' fC hn q => ⟨m, hn, fun h' sb => ⟨.ref D, H', ?_, rfl, q⟩⟩
 obtain ⟨z0, z1, z2, z3, z4, z5⟩ := fC
 exact I'.turned (t' := s'.toks) (fun b o hb e => sb.extBut b o hb e) z0 z1 z3 z4 z5
theorem ps_setC {i : Nat} {x : Str} {pos' spos : Pos} (hN : X.N.Nodup) (hi' : X.N[i]? = some x) (hx : X.env.scope.names.lookup x = some .local) (hc : X.calm = true) (T V : List Str) (ix : List Nat) (hi : PI X tg iter wi)
 (hg : ∀ cl C s3 H3 fp, PG (blk X (T ++ V) scope cl C s3 H3 fp) tg g) (ht : ∀ cl C s3 H3 fp, PTs (blk X (T ++ V) scope cl C s3 H3 fp) ifs tt) (he : ∀ cl C s3 H3 fp, PE (blk X (T ++ V) scope cl C s3 H3 fp) elt te)
 (hsw : swapsWith (.ListComp elt [⟨tg, iter, ifs, 0⟩] scope pos) (some (.Name x pos')) spos.line X.env = pure true := by rfl)
 (hB : capB X.N X.env.scope.names scope.names V ix = true := by rfl) (hk : scope.kind = .function := by rfl) (hcell : ∀ y ∈ scope.names, y.2 ≠ .cell := by decide +kernel)
 (hnames : ∀ x ∈ scope.names, x.2 = .local → scope.names.lookup x.1 = some .local := by decide +kernel)
 (hfr : ∀ x ∈ scope.names, x.2 = .free → x.1 ∈ V := by decide +kernel) (hs : ∀ x, foldedSetIterable iter X.env x = pure x := by intro _; rfl) :
 PS X (.Assign [.Name x pos'] (.ListComp elt [⟨tg, iter, ifs, 0⟩] scope pos) spos) (tAsg (tComp wi g tt te T.length (capσ T.length ix)) (gName i)) := by
 intro pins s σ H D I h
 rw [exec_Assign_Name_used _ _ _ _ hsw]
 refine wpAny_bind (wpAny_standAt (wpAny_bind ?_))
 show wpAny _ X.A (do let _ ← comprehension (.ListComp elt [⟨tg, iter, ifs, 0⟩] scope pos) scope X.env _ (newList []) false (eval iter X.env) (some (assign (.Name x pos') X.env))) _ _ s
 refine wpAny_bind (wpAny_mono (comp_core (use := some (assign (.Name x pos') X.env)) (Qp := fun _ s' => SP X pins D .next s') hc hi hg ht he hB hk hcell hnames hfr hs I h fun A' C H' s' m I' fC hn q => ?_) (fun _ s' hq => wpAny_pure (wpAny_pure hq)) fun _ _ e => e)
 obtain ⟨z0, z1, z2, z3, z4, z5⟩ := fC
 refine wpAny_assign_Name (store_ok2 I' hN hi' (.inl hx) (v := .ref A') rfl (fun s'' I'' ⟨a, sb, ha⟩ => ⟨m, hn.sameBut sb ?_, fun h' sb' => ⟨_, H', ?_, q⟩⟩) (.inr hx))
 ·rcases ha with ha | ha
  ·rw [ha]; exact z1
  ·exact Ne.symm (z4 x a ha)
 ·exact I''.turned (t' := s''.toks) (fun b o hb e => sb'.extBut b o hb e) z0 z1 z3 z4 z5
end
section
variable {X : Cx} {K : PySem.W.Frag}
end
end My
namespace D3
open PySem
abbrev D := PyData
inductive U where
 | d (x : D)
 | x (c f : Str) (v : D)
abbrev DS := List (Option U)
inductive Oc where
 | nx (δ : DS)
 | rt (d : D)
 | bk (δ : DS)
 | ct (δ : DS)
 | ex (c f : Str) (v : D)
abbrev FE := DS → Option D
abbrev FA := DS → Option (List D)
abbrev FT := DS → Option Bool
abbrev FS := DS → Option Oc
abbrev FG := D → DS → Option DS
mutual
def flat : D → Bool
 | .none => true
 | .bool _ => true
 | .int _ => true
 | .str _ => true
 | .list _ => false
 | .tuple xs => flats xs
 | .dict _ => false
def flats : List D → Bool
 | [] => true
 | x :: r => flat x && flats r
end
mutual
def nl : D → Nat
 | .none => 0
 | .bool _ => 0
 | .int _ => 0
 | .str _ => 0
 | .list xs => nls xs + 1
 | .tuple xs => nls xs
 | .dict _ => 1
def nls : List D → Nat
 | [] => 0
 | x :: r => nl x + nls r
end
def fl1 : D → Bool
 | .list xs => flats xs
 | d => flat d
def dVar (i : Nat) : FE := fun δ => match δ[i]? with
 | some (some (.d x)) => some x
 | _ => none
def dC (d : D) : FE := fun _ => some d
def dOp (g : D → D → Option D) (fa fb : FE) : FE := fun δ => (fa δ).bind fun x => (fb δ).bind fun y => g x y
def dUn (g : D → Option D) (fa : FE) : FE := fun δ => (fa δ).bind g
def dNil : FA := fun _ => some []
def dCons (fa : FE) (fr : FA) : FA := fun δ => (fa δ).bind fun x => (fr δ).bind fun r => some (x :: r)
def dTup (fa : FA) : FE := fun δ => (fa δ).bind fun l => if l.length ≤ sizeLine then some (.tuple l) else none
def dLst (fa : FA) : FE := fun δ => (fa δ).bind fun l => if l.length ≤ sizeLine then some (.list l) else none
def dCall (F : List D → Option D) (fa : FA) : FE := fun δ => (fa δ).bind F
def dFlat (fa : FE) : FE := fun δ => (fa δ).bind fun d => if flat d = true then some d else none
def dN1 (fa : FE) : FE := fun δ => (fa δ).bind fun d => if decide (nl d ≤ 1) = true then some d else none
def dFl1 (fa : FE) : FE := fun δ => (fa δ).bind fun d => if fl1 d = true then some d else none
def dAnd (fa fb : FE) : FE := fun δ => (fa δ).bind fun x => match x with
 | .bool true => fb δ
 | .bool false => some (.bool false)
 | _ => none
def dOr (fa fb : FE) : FE := fun δ => (fa δ).bind fun x => match x with
 | .bool true => some (.bool true)
 | .bool false => fb δ
 | _ => none
def dNot (fa : FE) : FE := fun δ => (fa δ).bind fun x => match x with
 | .bool b => some (.bool (!b))
 | _ => none
def dIf (c : FT) (fa fb : FE) : FE := fun δ => (c δ).bind fun b => if b = true then fa δ else fb δ
def tBool (fa : FE) : FT := fun δ => (fa δ).bind fun x => match x with
 | .bool b => some b
 | _ => none
def tAnd (a b : FT) : FT := fun δ => (a δ).bind fun x => if x = true then b δ else some false
def tOr (a b : FT) : FT := fun δ => (a δ).bind fun x => if x = true then some true else b δ
def tNot (a : FT) : FT := fun δ => (a δ).map fun x => !x
def sNil : FS := fun δ => some (.nx δ)
def sSeq (a b : FS) : FS := fun δ => (a δ).bind fun o => match o with
 | .nx δ' => b δ'
 | o => some o
def sSet (i : Nat) (fe : FE) : FS := fun δ => (fe δ).bind fun d => some (.nx (δ.set i (some (.d d))))
def sIf (c : FT) (a b : FS) : FS := fun δ => (c δ).bind fun t => if t = true then a δ else b δ
def sRet (fe : FE) : FS := fun δ => (fe δ).bind fun d => some (.rt d)
def sRetN : FS := fun _ => some (.rt .none)
def sExpr (fe : FE) : FS := fun δ => (fe δ).bind fun _ => some (.nx δ)
def sBk : FS := fun δ => some (.bk δ)
def sCt : FS := fun δ => some (.ct δ)
def gN (i : Nat) : FG := fun d δ => some (δ.set i (some (.d d)))
def gsNil : List D → DS → Option DS := fun l δ => match l with
 | [] => some δ
 | _ => none
def gsCons (g : FG) (r : List D → DS → Option DS) : List D → DS → Option DS := fun l δ => match l with
 | d :: l' => (g d δ).bind fun δ' => r l' δ'
 | [] => none
def sAsg (fe : FE) (g : FG) : FS := fun δ => (fe δ).bind fun d => (g d δ).bind fun δ' => some (.nx δ')
def forD (g : FG) (b : FS) : List D → DS → Option Oc
 | [], δ => some (.nx δ)
 | d :: r, δ => (g d δ).bind fun δ1 => (b δ1).bind fun o => match o with
  | .nx δ' => forD g b r δ'
  | .ct δ' => forD g b r δ'
  | .bk δ' => some (.nx δ')
  | .rt v => some (.rt v)
  | .ex c f v => some (.ex c f v)
def sFor (fi : FA) (g : FG) (b : FS) : FS := fun δ => (fi δ).bind fun l => forD g b l δ
def whileD (c : FT) (b : FS) : Nat → DS → Option Oc
 | 0, _ => none
 | n + 1, δ => (c δ).bind fun t => if t = true then (b δ).bind fun o => match o with
     | .nx δ' => whileD c b n δ'
     | .ct δ' => whileD c b n δ'
     | .bk δ' => some (.nx δ')
     | .rt v => some (.rt v)
     | .ex c f v => some (.ex c f v)
  else some (.nx δ)
theorem whileD_mono {c : FT} {b : FS} : ∀ {n : Nat} {δ : DS} {o : Oc}, whileD c b n δ = some o → ∀ {m : Nat}, n ≤ m → whileD c b m δ = some o
 | 0, _, _, h, _, _ => by simp [whileD] at h
 | n + 1, δ, o, h, 0, l => by omega
 | n + 1, δ, o, h, m + 1, l => by
  rw [whileD] at h ⊢
  cases hc : c δ with
  | none => rw [hc] at h; simp at h
  | some t =>
   rw [hc] at h
   simp only [Option.bind_some] at h ⊢
   cases t with
   | false => exact h
   | true =>
    simp only [if_pos] at h ⊢
    cases hb : b δ with
    | none => rw [hb] at h; simp at h
    | some q =>
     rw [hb] at h
     simp only [Option.bind_some] at h ⊢
     cases q with
     | nx δ' => exact whileD_mono h (by omega)
     | ct δ' => exact whileD_mono h (by omega)
     | bk δ' => exact h
     | rt v => exact h
     | ex c f v => exact h
theorem whileD_det {c : FT} {b : FS} {n m : Nat} {δ : DS} {o o' : Oc} (h : whileD c b n δ = some o) (h' : whileD c b m δ = some o') : o = o' := by
 have a := whileD_mono h (Nat.le_max_left n m)
 have a' := whileD_mono h' (Nat.le_max_right n m)
 rw [a] at a'
 exact Option.some.inj a'
open Classical in
noncomputable def sWhile (c : FT) (b : FS) : FS := fun δ => if h : ∃ o n, whileD c b n δ = some o then some (Classical.choose h) else none
theorem sWhile_of {c : FT} {b : FS} {n : Nat} {δ : DS} {o : Oc} (h : whileD c b n δ = some o) : sWhile c b δ = some o := by
 have e : ∃ o n, whileD c b n δ = some o := ⟨o, n, h⟩
 unfold sWhile
 rw [dif_pos e]
 obtain ⟨m, hm⟩ := Classical.choose_spec e
 rw [whileD_det hm h]
theorem sWhile_inv {c : FT} {b : FS} {δ : DS} {o : Oc} (h : sWhile c b δ = some o) : ∃ n, whileD c b n δ = some o := by
 unfold sWhile at h
 by_cases e : ∃ o n, whileD c b n δ = some o
 ·rw [dif_pos e] at h
  have := Classical.choose_spec e
  rw [Option.some.inj h] at this
  exact this
 ·rw [dif_neg e] at h
  cases h
def fnD (p q : Nat) (b : FS) : List D → Option D := fun ds => if ds.length = p then match b (ds.map (fun d => some (.d d)) ++ List.replicate q none) with
    | some (.rt d) => some d
    | some (.nx _) => some .none
    | _ => none
 else none
def capD (t : Nat) (ix : List Nat) (δ : DS) : DS := List.replicate t none ++ ix.map fun j => (δ[j]?).getD none
def compD (g : FG) (c : FT) (e : FE) (δ : DS) : List D → Option (List D)
 | [] => some []
 | d :: r => (g d δ).bind fun δ1 => (c δ1).bind fun b => if b = true then (e δ1).bind fun x => (compD g c e δ r).bind fun l => some (x :: l) else compD g c e δ r
def dComp (fi : FA) (g : FG) (c : FT) (e : FE) (t : Nat) (ix : List Nat) : FE := fun δ => (fi δ).bind fun l => if l.length ≤ 100000 then (compD g c e (capD t ix δ) l).bind fun r => some (.list r) else none
def tYes : FT := fun _ => some true
def gI (g : Int → Int → Option D) : D → D → Option D := fun x y => match x, y with
 | .int i, .int j => g i j
 | _, _ => none
def pIx (n : Nat) (i : Int) : Option Nat := if 0 ≤ i then (if i < n then some i.toNat else none) else if -(n : Int) ≤ i then some (i + n).toNat else none
def pAt (xs : List D) (i : Int) : Option D := (pIx xs.length i).bind fun j => xs[j]?
def isT (c T : String) : Bool := T == c || (T == "bool" && c == "int")
def sSetl (i : Nat) (fe : FE) : FS := fun δ => if i < δ.length then sSet i fe δ else none
def gAdd : D → D → Option D := gI fun i j => some (.int (i + j))
def gSub : D → D → Option D := gI fun i j => some (.int (i - j))
def mulG (i j : Int) : Bool := decide (i.natAbs < 2 ^ 64) || decide (j.natAbs < 2 ^ 64) || (decide (i.natAbs < 2 ^ 30000) && decide (j.natAbs < 2 ^ 30000))
def gMul : D → D → Option D := gI fun i j => if mulG i j = true then some (.int (i * j)) else none
def divG (_ j : Int) : Bool := decide (j ≠ 0) && decide (j.natAbs < 2 ^ 9000)
def gDiv : D → D → Option D := gI fun i j => if divG i j = true then some (.int (i.fdiv j)) else none
def gMod : D → D → Option D := gI fun i j => if decide (j ≠ 0) = true then some (.int (i.fmod j)) else none
def powG (i j : Int) : Bool := decide (0 ≤ j) && decide (j ≤ 1000) && decide (i.natAbs < 2 ^ 64)
def gPow : D → D → Option D := gI fun i j => if powG i j = true then some (.int (i ^ j.toNat)) else none
def gLt : D → D → Option D := gI fun i j => some (.bool (decide (i < j)))
def gLe : D → D → Option D := gI fun i j => some (.bool (decide (i ≤ j)))
def gGt : D → D → Option D := gI fun i j => some (.bool (decide (j < i)))
def gGe : D → D → Option D := gI fun i j => some (.bool (decide (j ≤ i)))
def gEq : D → D → Option D := fun x y => if (SeqAt.shaped x && SeqAt.shaped y) = true then some (.bool (PyData.eqv x y)) else none
def gNe : D → D → Option D := fun x y => if (SeqAt.shaped x && SeqAt.shaped y) = true then some (.bool (!PyData.eqv x y)) else none
def gNl (i : Nat) : FG := fun d δ => if i < δ.length then gN i d δ else none
def gTn (n : Nat) (g : List D → DS → Option DS) : FG := fun d δ => match d with
 | .tuple l => if l.length = n then g l δ else none
 | _ => none
def sApp (i : Nat) (f : FE) : FS := fun δ => (dVar i δ).bind fun x => (f δ).bind fun d => match x with
 | .list l => if l.length < 1000000 then some (.nx (δ.set i (some (.d (.list (l ++ [d])))))) else none
 | _ => none
def sPut (i : Nat) (fk f : FE) : FS := fun δ => (f δ).bind fun d => (dVar i δ).bind fun x => (fk δ).bind fun k => match x, k with
 | .list l, .int j => (pIx l.length j).bind fun n => some (.nx (δ.set i (some (.d (.list (l.set n d))))))
 | _, _ => none
def asList : D → Option (List D)
 | .list l => some l
 | _ => none
def fLst (f : FE) : FA := fun δ => (f δ).bind asList
def rngD (lo hi : Int) : List D := (List.range (hi - lo).toNat).map fun (k : Nat) => .int (lo + (k : Int))
def rngG (i : Int) : Bool := decide (-(2 ^ 62) ≤ i) && decide (i < 2 ^ 62)
def fRng1 (fa : FA) : FA := fun δ => (fa δ).bind fun l => match l with
 | [.int j] => if rngG j = true then some (rngD 0 j) else none
 | _ => none
def fRng2 (fa : FA) : FA := fun δ => (fa δ).bind fun l => match l with
 | [.int i, .int j] => if (rngG i && rngG j) = true then some (rngD i j) else none
 | _ => none
def gIx : D → D → Option D := fun x y => match x, y with
 | .list l, .int i => pAt l i
 | .tuple l, .int i => pAt l i
 | _, _ => none
def dChain (g g' : D → D → Option D) (fa fb fc : FE) : FE := fun δ => (fa δ).bind fun x => (fb δ).bind fun y => (g x y).bind fun z => match z with
 | .bool true => (fc δ).bind fun w => g' y w
 | .bool false => some (.bool false)
 | _ => none
def dChain3 (g g' g'' : D → D → Option D) (fa fb fc fd : FE) : FE := fun δ => (fa δ).bind fun x => (fb δ).bind fun y => (g x y).bind fun z => match z with
 | .bool true => (fc δ).bind fun w => (g' y w).bind fun z' => match z' with
  | .bool true => (fd δ).bind fun u => g'' w u
  | .bool false => some (.bool false)
  | _ => none
 | .bool false => some (.bool false)
 | _ => none
def isNone : D → Bool
 | .none => true
 | _ => false
def gIsN : D → Option D := fun x => some (.bool (isNone x))
def gNotN : D → Option D := fun x => some (.bool (!isNone x))
def gLen : List D → Option D
 | [.list l] => some (.int l.length)
 | [.tuple l] => some (.int l.length)
 | _ => none
def intsD : List D → Option (List Int)
 | [] => some []
 | .int i :: r => (intsD r).map (i :: ·)
 | _ => none
def gSum : List D → Option D
 | [.list l] => (intsD l).map fun ns => .int ns.sum
 | _ => none
def insI (x : Int) : List Int → List Int
 | [] => [x]
 | y :: r => if x ≤ y then x :: y :: r else y :: insI x r
def srtI : List Int → List Int
 | [] => []
 | x :: r => insI x (srtI r)
def gSort : List D → Option D
 | [.list l] => (intsD l).bind fun ns => if ns.length < 64 then some (.list ((srtI ns).map .int)) else none
 | _ => none
def gInt : List D → Option D
 | [.int i] => some (.int i)
 | [.bool b] => some (.int (if b then 1 else 0))
 | _ => none
def gAbs : List D → Option D
 | [.int i] => some (.int (if i < 0 then -i else i))
 | _ => none
def gMax2 : List D → Option D
 | [.int i, .int j] => some (.int (if j > i then j else i))
 | _ => none
def gMin2 : List D → Option D
 | [.int i, .int j] => some (.int (if j < i then j else i))
 | _ => none
def tyD : D → String
 | .none => "NoneType"
 | .bool _ => "bool"
 | .int _ => "int"
 | .str _ => "str"
 | .list _ => "list"
 | .tuple _ => "tuple"
 | .dict _ => "dict"
def gIs (c : String) : D → Option D := fun d => some (.bool (isT c (tyD d)))
def gNeg : D → Option D
 | .int i => some (.int (-i))
 | _ => none
def gCat : D → D → Option D := fun x y => match x, y with
 | .list l, .list m => if l.length + m.length ≤ 1000000 then some (.list (l ++ m)) else none
 | _, _ => none
def gRep : D → D → Option D := fun x y => match x, y with
 | .list l, .int k => if l.length * k.toNat ≤ 1000000 ∧ -(2 ^ 63) ≤ k ∧ k < 2 ^ 63 then some (.list (List.replicate k.toNat l).flatten) else none
 | _, _ => none
def gList : D → Option D
 | .list l => some (.list l)
 | .tuple l => some (.list l)
 | _ => none
abbrev FO := DS → Option (Option Int)
def oNone : FO := fun _ => some none
def oPart (f : FE) : FO := fun δ => (f δ).bind fun x => match x with
 | .int i => some (some i)
 | _ => none
def pSx (n d : Nat) : Option Int → Nat
 | none => d
 | some i => if i < 0 then (i + n).toNat else min i.toNat n
def cutD (xs : List D) (lo hi : Option Int) : List D := (xs.drop (pSx xs.length 0 lo)).take (pSx xs.length xs.length hi - pSx xs.length 0 lo)
def dSl (f : FE) (lo hi : FO) : FE := fun δ => (f δ).bind fun x => (lo δ).bind fun a => (hi δ).bind fun b => match x with
 | .list l => some (.list (cutD l a b))
 | _ => none
def sPar (i j : Nat) (fa : FA) : FS := fun δ => (fa δ).bind fun l => match l with
 | [x, y] => if i < δ.length ∧ j < δ.length then some (.nx ((δ.set i (some (.d x))).set j (some (.d y)))) else none
 | _ => none
def enumD (l : List D) : List D := l.mapIdx fun i x => .tuple [.int (i : Int), x]
def fEnum (f : FE) : FA := fun δ => (f δ).bind fun d => match d with
 | .list l => some (enumD l)
 | _ => none
def mnI (i : Int) (r : List Int) : Int := r.foldl (fun a b => if b < a then b else a) i
def gMinL : List D → Option D
 | [.list l] => match intsD l with
  | some (i :: r) => some (.int (mnI i r))
  | _ => none
 | _ => none
def boolsD : List D → Option (List Bool)
 | [] => some []
 | .bool b :: r => (boolsD r).map (b :: ·)
 | _ => none
def gAll : List D → Option D
 | [.list l] => (boolsD l).map fun bs => .bool (bs.all id)
 | _ => none
def zipD : List D → List D → List D
 | x :: r, y :: s => .tuple [x, y] :: zipD r s
 | _, _ => []
def fZip (f g : FE) : FA := fun δ => (f δ).bind fun d => (g δ).bind fun e => match d, e with
 | .list l, .list m => some (zipD l m)
 | _, _ => none
def fRev (f : FE) : FA := fun δ => (f δ).bind fun d => match d with
 | .list l => some l.reverse
 | _ => none
def gIsT : D → Option D
 | .bool b => some (.bool b)
 | _ => none
def gNotT : D → Option D
 | .bool b => some (.bool (!b))
 | _ => none
theorem mnI_spec : ∀ (r : List Int) (i : Int), mnI i r ∈ i :: r ∧ ∀ a ∈ i :: r, mnI i r ≤ a
 | [], i => ⟨List.mem_cons_self, fun a h => by rw [List.mem_singleton.mp h]; exact Int.le_refl _⟩
 | b :: r, i => by
  have ih := mnI_spec r (if b < i then b else i)
  have e : mnI i (b :: r) = mnI (if b < i then b else i) r := rfl
  rw [e]
  constructor
  ·rcases List.mem_cons.mp ih.1 with z | z
   ·rw [z]
    split <;> simp
   ·exact List.mem_cons_of_mem _ (List.mem_cons_of_mem _ z)
  ·intro a h
   have h0 := ih.2 _ List.mem_cons_self
   have hb : (if b < i then b else i) ≤ i ∧ (if b < i then b else i) ≤ b := by split <;> omega
   rcases List.mem_cons.mp h with rfl | h
   ·exact Int.le_trans h0 hb.1
   ·rcases List.mem_cons.mp h with rfl | h
    ·exact Int.le_trans h0 hb.2
    ·exact ih.2 a (List.mem_cons_of_mem _ h)
theorem insI_perm (x : Int) : ∀ l, (insI x l).Perm (x :: l)
 | [] => .refl _
 | y :: r => by
  unfold insI
  split
  ·exact .refl _
  ·exact ((insI_perm x r).cons y).trans (.swap x y r)
theorem srtI_perm : ∀ l, (srtI l).Perm l
 | [] => .refl _
 | x :: r => (insI_perm x _).trans ((srtI_perm r).cons x)
theorem insI_sorted (x : Int) : ∀ l, l.Pairwise (· ≤ ·) → (insI x l).Pairwise (· ≤ ·)
 | [], _ => by simp [insI]
 | y :: r, h => by
  obtain ⟨h1, h2⟩ := List.pairwise_cons.mp h
  unfold insI
  split
  ·next c =>
   refine List.pairwise_cons.mpr ⟨fun a ha => ?_, h⟩
   rcases List.mem_cons.mp ha with rfl | z
   ·exact c
   ·exact Int.le_trans c (h1 a z)
  ·next c =>
   refine List.pairwise_cons.mpr ⟨fun a ha => ?_, insI_sorted x r h2⟩
   rcases List.mem_cons.mp ((insI_perm x r).mem_iff.mp ha) with rfl | z
   ·omega
   ·exact h1 a z
theorem srtI_sorted : ∀ l, (srtI l).Pairwise (· ≤ ·)
 | [] => .nil
 | x :: r => insI_sorted x _ (srtI_sorted r)
end D3
namespace D3
open PySem PySem.Spec PyProof.Rows L2 My
abbrev Ok := Addr → Prop
abbrev St := L2.St
class Chg (u : HO) : Prop where
 ch : (∃ xs, u = .lst xs) ∨ (∃ kvs, u = .dK kvs) ∨ ∃ kvs, u = .dT kvs
instance (xs : List V) : Chg (.lst xs) := ⟨.inl ⟨xs, rfl⟩⟩
instance (kvs : List (Key × V)) : Chg (.dK kvs) := ⟨.inr (.inl ⟨kvs, rfl⟩)⟩
instance (kvs : List (List Key × V)) : Chg (.dT kvs) := ⟨.inr (.inr ⟨kvs, rfl⟩)⟩
theorem Chg.frz {o : Obj} {u : HO} (h : Chg (.frz o u)) : False := by
 rcases h.ch with ⟨_, z⟩ | ⟨_, z⟩ | ⟨_, z⟩ <;> cases z
theorem Chg.tup {xs : List V} (h : Chg (.tup xs)) : False := by
 rcases h.ch with ⟨_, z⟩ | ⟨_, z⟩ | ⟨_, z⟩ <;> cases z
def Chd (o : Option HO) : Prop := ∃ u, o = some u ∧ Chg u
theorem Chd.ne {o : Option HO} (h : Chd o) : o ≠ none := by
 obtain ⟨u, rfl, _⟩ := h
 simp
def SqK (K : PySem.W.Frag) (H : Hp) (a : Addr) (xs : List V) : Prop := (∃ o, H a = some (.frz o (.lst xs))) ∨
 ∃ (o : Obj) (its : Array Value) (n : Nat), K.lookup a = some o ∧ o.cls = .type "list" ∧ o.dict = none ∧ o.data = .seq its n ∧ its.size ≤ sizeLine ∧ Vals xs its.toList
theorem SqK.sq {K : PySem.W.Frag} {H : Hp} {a : Addr} {xs : List V} (h : SqK K H a xs) : SqL K H a xs := by
 rcases h with ⟨o, h⟩ | h
 ·exact .inl (.inr ⟨o, h⟩)
 ·exact .inr h
def SqT0 (H : Hp) (a : Addr) (xs : List V) : Prop := H a = some (.tup xs)
theorem SqT0.sq {K : PySem.W.Frag} {H : Hp} {a : Addr} {xs : List V} (h : SqT0 H a xs) : SqT K H a xs := .inl (.inl h)
theorem SqT0.same {H H' : Hp} {a : Addr} {xs : List V} (e : Same H H') (h : SqT0 H a xs) : SqT0 H' a xs := e _ _ h
theorem SqT0.upd {H : Hp} {a b : Addr} {xs : List V} {u o : HO} [cu : Chg u] (h : H a = some u) (q : SqT0 H b xs) : SqT0 (upd H a o) b xs := by
 unfold SqT0
 rw [upd_ne (ne_of q h (by intro z; subst z; exact cu.tup))]
 exact q
def dk0 : List (D × D) → List (Key × V)
 | [] => []
 | (.int i, .int j) :: r => (.inl i, .int j) :: dk0 r
 | (.int i, .bool true) :: r => (.inl i, .bl true) :: dk0 r
 | _ :: r => (.inl 0, .non) :: dk0 r
def tkK : List D → Option (List Key)
 | [] => some []
 | .int i :: r => (tkK r).map (.inl i :: ·)
 | _ => none
def tkD : List (D × D) → Option (List (List Key × V))
 | [] => some []
 | (.tuple l, .bool true) :: r => (tkK l).bind fun k => (tkD r).map ((k, .bl true) :: ·)
 | _ => none
def dh0 (kvs : List (D × D)) : HO := match kvs with
 | [] => .dK []
 | q :: r => match tkD (q :: r) with
  | some ts => .dT ts
  | none => .dK (dk0 (q :: r))
theorem dh0_or (kvs : List (D × D)) : (∃ ks, dh0 kvs = .dK ks) ∨ ∃ ks, dh0 kvs = .dT ks := by
 cases kvs with
 | nil => exact .inl ⟨_, rfl⟩
 | cons q r =>
  unfold dh0
  dsimp only
  split
  ·exact .inr ⟨_, rfl⟩
  ·exact .inl ⟨_, rfl⟩
instance (kvs : List (D × D)) : Chg (dh0 kvs) := ⟨by
 rcases dh0_or kvs with ⟨ks, z⟩ | ⟨ks, z⟩
 ·exact .inr (.inl ⟨ks, z⟩)
 ·exact .inr (.inr ⟨ks, z⟩)⟩
mutual
inductive RA (K : PySem.W.Frag) (ok : Ok) (pl : Bool) (H : Hp) : V → D → Prop
 | non : RA K ok pl H .non .none
 | bl (b : Bool) : RA K ok pl H (.bl b) (.bool b)
 | int (i : Int) : RA K ok pl H (.int i) (.int i)
 | str (x : Str) : RA K ok pl H (.str x) (.str x)
 | lst {a : Addr} {xs : List V} {ds : List D} : H a = some (.lst xs) → ok a → RAs K ok pl H xs ds → RA K ok pl H (.ref a) (.list ds)
 | lsk {a : Addr} {xs : List V} {ds : List D} : SqK K H a xs → pl = true → RAs K ok pl H xs ds → RA K ok pl H (.ref a) (.list ds)
 | tup {a : Addr} {xs : List V} {ds : List D} : SqT0 H a xs → RAs K ok pl H xs ds → RA K ok pl H (.ref a) (.tuple ds)
 | dic {a : Addr} {kvs : List (D × D)} : H a = some (dh0 kvs) → ok a → RA K ok pl H (.ref a) (.dict kvs)
 | dik {a : Addr} {kvs : List (D × D)} {o : Obj} : H a = some (.frz o (dh0 kvs)) → pl = true → RA K ok pl H (.ref a) (.dict kvs)
inductive RAs (K : PySem.W.Frag) (ok : Ok) (pl : Bool) (H : Hp) : List V → List D → Prop
 | nil : RAs K ok pl H [] []
 | cons {v : V} {d : D} {vs : List V} {ds : List D} : RA K ok pl H v d → RAs K ok pl H vs ds → RAs K ok pl H (v :: vs) (d :: ds)
end
section
variable {K : PySem.W.Frag} {ok ok' : Ok} {pl pl' : Bool} {H H' : Hp}
theorem RA.ind {P : V → D → Prop} {Q : List V → List D → Prop} (c1 : P .non .none) (c2 : ∀ b, P (.bl b) (.bool b)) (c3 : ∀ i, P (.int i) (.int i)) (c4 : ∀ x, P (.str x) (.str x))
 (c5 : ∀ {a : Addr} {xs : List V} {ds : List D}, H a = some (.lst xs) → ok a → Q xs ds → P (.ref a) (.list ds)) (c6 : ∀ {a : Addr} {xs : List V} {ds : List D}, SqK K H a xs → pl = true → Q xs ds → P (.ref a) (.list ds)) (c7 : ∀ {a : Addr} {xs : List V} {ds : List D}, SqT0 H a xs → Q xs ds → P (.ref a) (.tuple ds))
 (c8 : ∀ {a : Addr} {kvs : List (D × D)}, H a = some (dh0 kvs) → ok a → P (.ref a) (.dict kvs)) (c9 : ∀ {a : Addr} {kvs : List (D × D)} {o : Obj}, H a = some (.frz o (dh0 kvs)) → pl = true → P (.ref a) (.dict kvs)) (c10 : Q [] []) (c11 : ∀ {v : V} {d : D} {vs : List V} {ds : List D}, P v d → Q vs ds → Q (v :: vs) (d :: ds)) :
 (∀ {v : V} {d : D}, RA K ok pl H v d → P v d) ∧ ∀ {v : List V} {d : List D}, RAs K ok pl H v d → Q v d :=
 ⟨fun h => RA.rec (motive_1 := fun v d _ => P v d) (motive_2 := fun v d _ => Q v d) c1 c2 c3 c4 (fun h o _ q => c5 h o q) (fun h o _ q => c6 h o q) (fun h _ q => c7 h q) (fun h o => c8 h o) (fun h o => c9 h o) c10 (fun _ _ a q => c11 a q) h,
  fun h => RAs.rec (motive_1 := fun v d _ => P v d) (motive_2 := fun v d _ => Q v d) c1 c2 c3 c4 (fun h o _ q => c5 h o q) (fun h o _ q => c6 h o q) (fun h _ q => c7 h q) (fun h o => c8 h o) (fun h o => c9 h o) c10 (fun _ _ a q => c11 a q) h⟩
theorem RA.imp2 (ho : ∀ a, ok a → ok' a) (hp : pl = true → pl' = true) : (∀ {v : V} {d : D}, RA K ok pl H v d → RA K ok' pl' H v d) ∧ ∀ {v : List V} {d : List D}, RAs K ok pl H v d → RAs K ok' pl' H v d :=
 RA.ind .non .bl .int .str (fun h o q => .lst h (ho _ o) q) (fun h o q => .lsk h (hp o) q) (fun h q => .tup h q) (fun h o => .dic h (ho _ o)) (fun h o => .dik h (hp o)) .nil .cons
theorem RA.imp (ho : ∀ a, ok a → ok' a) (hp : pl = true → pl' = true) {v : V} {d : D} (h : RA K ok pl H v d) : RA K ok' pl' H v d := (RA.imp2 ho hp).1 h
theorem RAs.imp (ho : ∀ a, ok a → ok' a) (hp : pl = true → pl' = true) {v : List V} {d : List D} (h : RAs K ok pl H v d) : RAs K ok' pl' H v d := (RA.imp2 ho hp).2 h
theorem SqK.same {a : Addr} {xs : List V} (e : Same H H') (h : SqK K H a xs) : SqK K H' a xs := by
 rcases h with ⟨o, h⟩ | h
 ·exact .inl ⟨o, e _ _ h⟩
 ·exact .inr h
theorem RA.same2 (e : Same H H') : (∀ {v : V} {d : D}, RA K ok pl H v d → RA K ok pl H' v d) ∧ ∀ {v : List V} {d : List D}, RAs K ok pl H v d → RAs K ok pl H' v d :=
 RA.ind .non .bl .int .str (fun h o q => .lst (e _ _ h) o q) (fun h o q => .lsk (h.same e) o q) (fun h q => .tup (SqT0.same e h) q) (fun h o => .dic (e _ _ h) o) (fun h o => .dik (e _ _ h) o) .nil .cons
theorem RA.same (e : Same H H') {v : V} {d : D} (h : RA K ok pl H v d) : RA K ok pl H' v d := (RA.same2 e).1 h
theorem RAs.same (e : Same H H') {v : List V} {d : List D} (h : RAs K ok pl H v d) : RAs K ok pl H' v d := (RA.same2 e).2 h
theorem RA.flat2 : (∀ {v : V} {d : D}, RA K ok pl H v d → flat d = true → RA K ok' pl' H v d) ∧ ∀ {v : List V} {d : List D}, RAs K ok pl H v d → flats d = true → RAs K ok' pl' H v d :=
 RA.ind (fun _ => .non) (fun b _ => .bl b) (fun i _ => .int i) (fun x _ => .str x) (fun _ _ _ h => by simp [D3.flat] at h) (fun _ _ _ h => by simp [D3.flat] at h) (fun t q h => .tup t (q (by simpa [D3.flat] using h))) (fun _ _ h => by simp [D3.flat] at h) (fun _ _ h => by simp [D3.flat] at h) (fun _ => .nil) fun a q h => by
  rw [flats, Bool.and_eq_true] at h
  exact .cons (a h.1) (q h.2)
theorem RA.flat {v : V} {d : D} (hf : flat d = true) (h : RA K ok pl H v d) : RA K ok' pl' H v d := RA.flat2.1 h hf
theorem RAs.flat {v : List V} {d : List D} (hf : flats d = true) (h : RAs K ok pl H v d) : RAs K ok' pl' H v d := RA.flat2.2 h hf
theorem SqK.upd {a b : Addr} {xs : List V} {u o : HO} [cu : Chg u] (h : H a = some u) (q : SqK K H b xs) : SqK K (upd H a o) b xs := by
 rcases q with ⟨o', q⟩ | q
 ·refine .inl ⟨o', ?_⟩
  rw [upd_ne (ne_of q h (by intro z; subst z; first | exact cu.frz | exact cu.tup))]
  exact q
 ·exact .inr q
theorem RA.upd2 {a : Addr} {u o : HO} [cu : Chg u] (h : H a = some u) (na : ¬ ok a) : (∀ {v : V} {d : D}, RA K ok pl H v d → RA K ok pl (upd H a o) v d) ∧ ∀ {v : List V} {d : List D}, RAs K ok pl H v d → RAs K ok pl (upd H a o) v d :=
 RA.ind .non .bl .int .str (fun e k q => .lst (by rw [upd_ne (by intro z; subst z; exact na k)]; exact e) k q) (fun e k q => .lsk (e.upd h) k q) (fun e q => .tup (SqT0.upd h e) q) (fun e k => .dic (by rw [upd_ne (by intro z; subst z; exact na k)]; exact e) k) (fun e k => .dik (by rw [upd_ne (ne_of e h (by intro z; subst z; exact cu.frz))]; exact e) k) .nil .cons
theorem RA.upd {a : Addr} {u o : HO} [cu : Chg u] (h : H a = some u) (na : ¬ ok a) {v : V} {d : D} (r : RA K ok pl H v d) : RA K ok pl (upd H a o) v d := (RA.upd2 h na).1 r
theorem RAs.upd {a : Addr} {u o : HO} [cu : Chg u] (h : H a = some u) (na : ¬ ok a) {v : List V} {d : List D} (r : RAs K ok pl H v d) : RAs K ok pl (upd H a o) v d := (RA.upd2 h na).2 r
theorem RA.track2 : (∀ {v : V} {d : D}, RA K ok pl H v d → RA K (fun b => ok b ∧ H b ≠ none) pl H v d) ∧ ∀ {v : List V} {d : List D}, RAs K ok pl H v d → RAs K (fun b => ok b ∧ H b ≠ none) pl H v d :=
 RA.ind .non .bl .int .str (fun e k q => .lst e ⟨k, by rw [e]; simp⟩ q) (fun e k q => .lsk e k q) (fun e q => .tup e q) (fun e k => .dic e ⟨k, by rw [e]; simp⟩) (fun e k => .dik e k) .nil .cons
theorem RA.track {v : V} {d : D} (h : RA K ok pl H v d) : RA K (fun b => ok b ∧ H b ≠ none) pl H v d := RA.track2.1 h
theorem RAs.track {v : List V} {d : List D} (h : RAs K ok pl H v d) : RAs K (fun b => ok b ∧ H b ≠ none) pl H v d := RA.track2.2 h
theorem RAs.length : ∀ {v : List V} {d : List D}, RAs K ok pl H v d → v.length = d.length
 | _, _, .nil => rfl
 | _, _, .cons _ q => by simp [RAs.length q]
theorem RAs.get : ∀ {v : List V} {d : List D} {i : Nat} {x : D}, RAs K ok pl H v d → d[i]? = some x → ∃ y, v[i]? = some y ∧ RA K ok pl H y x
 | _, _, _, _, .nil, h => by simp at h
 | _, _, 0, _, .cons a _, h => by simp at h; subst h; exact ⟨_, rfl, a⟩
 | _, _, i + 1, _, .cons _ q, h => by
  obtain ⟨y, e, r⟩ := RAs.get (i := i) q (by simpa using h)
  exact ⟨y, by simpa using e, r⟩
theorem RAs.append : ∀ {v v' : List V} {d d' : List D}, RAs K ok pl H v d → RAs K ok pl H v' d' → RAs K ok pl H (v ++ v') (d ++ d')
 | _, _, _, _, .nil, q => q
 | _, _, _, _, .cons a r, q => .cons a (RAs.append r q)
theorem RAs.set {x : V} {y : D} (r : RA K ok pl H x y) : ∀ {v : List V} {d : List D} (i : Nat), RAs K ok pl H v d → RAs K ok pl H (v.set i x) (d.set i y)
 | _, _, _, .nil => .nil
 | _, _, 0, .cons _ q => .cons r q
 | _, _, i + 1, .cons a q => .cons a (RAs.set r i q)
theorem RAs.take : ∀ {v : List V} {d : List D} (n : Nat), RAs K ok pl H v d → RAs K ok pl H (v.take n) (d.take n)
 | _, _, 0, _ => by simp; exact .nil
 | _, _, _ + 1, .nil => .nil
 | _, _, n + 1, .cons a q => .cons a (RAs.take n q)
theorem RAs.drop : ∀ {v : List V} {d : List D} (n : Nat), RAs K ok pl H v d → RAs K ok pl H (v.drop n) (d.drop n)
 | _, _, 0, q => q
 | _, _, _ + 1, .nil => .nil
 | _, _, n + 1, .cons _ q => RAs.drop n q
theorem RAs.reverse : ∀ {v : List V} {d : List D}, RAs K ok pl H v d → RAs K ok pl H v.reverse d.reverse
 | _, _, .nil => .nil
 | _, _, .cons a q => by
  rw [List.reverse_cons, List.reverse_cons]
  exact (RAs.reverse q).append (.cons a .nil)
theorem RA.rd2 : (∀ {v : V} {d : D}, RA K ok pl H v d → d.canLay0 = true → RdV K H v d) ∧ ∀ {v : List V} {d : List D}, RAs K ok pl H v d → PyData.canLayAll0 d = true → RdVs K H v d :=
 RA.ind (fun _ => .non) (fun b _ => .bl b) (fun i _ => .int i) (fun x _ => .str x) (fun e _ q h => .lst (SqL.of e) (q (by simpa [PyData.canLay0] using h))) (fun e _ q h => .lst e.sq (q (by simpa [PyData.canLay0] using h))) (fun e q h => .tup e.sq (q (by simpa [PyData.canLay0] using h))) (fun _ _ h => by simp [PyData.canLay0] at h) (fun _ _ h => by simp [PyData.canLay0] at h) (fun _ => .nil) fun a q h => by
  rw [PyData.canLayAll0, Bool.and_eq_true] at h
  exact .cons (a h.1) (q h.2)
theorem RA.rd {v : V} {d : D} (hf : d.canLay0 = true) (h : RA K ok pl H v d) : RdV K H v d := RA.rd2.1 h hf
theorem RA.intE {v : V} {i : Int} (h : RA K ok pl H v (.int i)) : v = .int i := by cases h; rfl
theorem RA.blE {v : V} {b : Bool} (h : RA K ok pl H v (.bool b)) : v = .bl b := by cases h; rfl
theorem RA.lstE {v : V} {ds : List D} (h : RA K ok pl H v (.list ds)) : ∃ a xs, v = .ref a ∧ SqL K H a xs ∧ RAs K ok pl H xs ds := by
 cases h with
 | lst e k q => exact ⟨_, _, rfl, SqL.of e, q⟩
 | lsk e k q => exact ⟨_, _, rfl, e.sq, q⟩
theorem RA.tupE {v : V} {ds : List D} (h : RA K ok pl H v (.tuple ds)) : ∃ a xs, v = .ref a ∧ SqT K H a xs ∧ RAs K ok pl H xs ds := by
 cases h with
 | tup e q => exact ⟨_, _, rfl, e.sq, q⟩
theorem RA.tupE0 {v : V} {ds : List D} (h : RA K ok pl H v (.tuple ds)) : ∃ a xs, v = .ref a ∧ SqT0 H a xs ∧ RAs K ok pl H xs ds := by
 cases h with
 | tup e q => exact ⟨_, _, rfl, e, q⟩
end
inductive Fl where
 | A
 | O
 | L
 | N
 | M
 deriving DecidableEq
def isN : Option Fl → Bool
 | some .N => true
 | some .M => true
 | _ => false
mutual
inductive RT (K : PySem.W.Frag) (H : Hp) : V → D → List Addr → Prop
 | non : RT K H .non .none []
 | bl (b : Bool) : RT K H (.bl b) (.bool b) []
 | int (i : Int) : RT K H (.int i) (.int i) []
 | str (x : Str) : RT K H (.str x) (.str x) []
 | lst {a : Addr} {xs : List V} {ds : List D} {as : List Addr} : H a = some (.lst xs) → RTs K H xs ds as → RT K H (.ref a) (.list ds) (a :: as)
 | tup {a : Addr} {xs : List V} {ds : List D} {as : List Addr} : SqT0 H a xs → RTs K H xs ds as → RT K H (.ref a) (.tuple ds) as
 | dic {a : Addr} {kvs : List (D × D)} : H a = some (dh0 kvs) → RT K H (.ref a) (.dict kvs) [a]
inductive RTs (K : PySem.W.Frag) (H : Hp) : List V → List D → List Addr → Prop
 | nil : RTs K H [] [] []
 | cons {v : V} {d : D} {vs : List V} {ds : List D} {as bs : List Addr} : RT K H v d as → RTs K H vs ds bs → RTs K H (v :: vs) (d :: ds) (as ++ bs)
end
section
variable {K : PySem.W.Frag} {H H' : Hp}
theorem RT.ind {P : V → D → List Addr → Prop} {Q : List V → List D → List Addr → Prop} (c1 : P .non .none []) (c2 : ∀ b, P (.bl b) (.bool b) []) (c3 : ∀ i, P (.int i) (.int i) []) (c4 : ∀ x, P (.str x) (.str x) [])
 (c5 : ∀ {a : Addr} {xs : List V} {ds : List D} {as : List Addr}, H a = some (.lst xs) → Q xs ds as → P (.ref a) (.list ds) (a :: as)) (c7 : ∀ {a : Addr} {xs : List V} {ds : List D} {as : List Addr}, SqT0 H a xs → Q xs ds as → P (.ref a) (.tuple ds) as)
 (c8 : ∀ {a : Addr} {kvs : List (D × D)}, H a = some (dh0 kvs) → P (.ref a) (.dict kvs) [a]) (c10 : Q [] [] []) (c11 : ∀ {v : V} {d : D} {vs : List V} {ds : List D} {as bs : List Addr}, P v d as → Q vs ds bs → Q (v :: vs) (d :: ds) (as ++ bs)) :
 (∀ {v : V} {d : D} {as : List Addr}, RT K H v d as → P v d as) ∧ ∀ {v : List V} {d : List D} {as : List Addr}, RTs K H v d as → Q v d as :=
 ⟨fun h => RT.rec (motive_1 := fun v d as _ => P v d as) (motive_2 := fun v d as _ => Q v d as) c1 c2 c3 c4 (fun h _ q => c5 h q) (fun h _ q => c7 h q) (fun h => c8 h) c10 (fun _ _ a q => c11 a q) h,
  fun h => RTs.rec (motive_1 := fun v d as _ => P v d as) (motive_2 := fun v d as _ => Q v d as) c1 c2 c3 c4 (fun h _ q => c5 h q) (fun h _ q => c7 h q) (fun h => c8 h) c10 (fun _ _ a q => c11 a q) h⟩
theorem RT.ra2 {ok : Ok} {pl : Bool} : (∀ {v : V} {d : D} {as : List Addr}, RT K H v d as → (∀ a ∈ as, ok a) → RA K ok pl H v d) ∧ ∀ {v : List V} {d : List D} {as : List Addr}, RTs K H v d as → (∀ a ∈ as, ok a) → RAs K ok pl H v d :=
 RT.ind (fun _ => .non) (fun b _ => .bl b) (fun i _ => .int i) (fun x _ => .str x) (fun e q h => .lst e (h _ List.mem_cons_self) (q fun a ha => h a (List.mem_cons_of_mem _ ha))) (fun e q h => .tup e (q h)) (fun e h => .dic e (h _ List.mem_cons_self)) (fun _ => .nil) fun e q h => .cons (e fun a ha => h a (List.mem_append_left _ ha)) (q fun a ha => h a (List.mem_append_right _ ha))
theorem RT.ra {ok : Ok} {pl : Bool} {v : V} {d : D} {as : List Addr} (r : RT K H v d as) (h : ∀ a ∈ as, ok a) : RA K ok pl H v d := RT.ra2.1 r h
theorem RT.same2 (s : Same H H') : (∀ {v : V} {d : D} {as : List Addr}, RT K H v d as → RT K H' v d as) ∧ ∀ {v : List V} {d : List D} {as : List Addr}, RTs K H v d as → RTs K H' v d as :=
 RT.ind .non .bl .int .str (fun e q => .lst (s _ _ e) q) (fun e q => .tup (SqT0.same s e) q) (fun e => .dic (s _ _ e)) .nil .cons
theorem RT.same (s : Same H H') {v : V} {d : D} {as : List Addr} (h : RT K H v d as) : RT K H' v d as := (RT.same2 s).1 h
theorem RT.upd2 {a : Addr} {u o : HO} [cu : Chg u] (h : H a = some u) : (∀ {v : V} {d : D} {as : List Addr}, RT K H v d as → a ∉ as → RT K (upd H a o) v d as) ∧ ∀ {v : List V} {d : List D} {as : List Addr}, RTs K H v d as → a ∉ as → RTs K (upd H a o) v d as :=
 RT.ind (fun _ => .non) (fun b _ => .bl b) (fun i _ => .int i) (fun x _ => .str x) (fun e q na => .lst (by rw [upd_ne (fun z => na (by rw [← z]; exact List.mem_cons_self))]; exact e) (q fun z => na (List.mem_cons_of_mem _ z))) (fun e q na => .tup (SqT0.upd h e) (q na)) (fun e na => .dic (by rw [upd_ne (fun z => na (by rw [← z]; exact List.mem_cons_self))]; exact e)) (fun _ => .nil) fun e q na => .cons (e fun z => na (List.mem_append_left _ z)) (q fun z => na (List.mem_append_right _ z))
theorem RT.upd {a : Addr} {u o : HO} [cu : Chg u] (h : H a = some u) {v : V} {d : D} {as : List Addr} (na : a ∉ as) (r : RT K H v d as) : RT K (upd H a o) v d as := (RT.upd2 h).1 r na
theorem RT.chd2 : (∀ {v : V} {d : D} {as : List Addr}, RT K H v d as → ∀ a ∈ as, Chd (H a)) ∧ ∀ {v : List V} {d : List D} {as : List Addr}, RTs K H v d as → ∀ a ∈ as, Chd (H a) :=
 RT.ind (fun _ h => by cases h) (fun _ _ h => by cases h) (fun _ _ h => by cases h) (fun _ _ h => by cases h) (fun e q a h => by
  rcases List.mem_cons.mp h with rfl | z
  ·exact ⟨_, e, inferInstance⟩
  ·exact q a z) (fun _ q => q) (fun e a h => by rw [List.mem_singleton.mp h]; exact ⟨_, e, inferInstance⟩) (fun _ h => by cases h) fun e q a h => by
  rcases List.mem_append.mp h with z | z
  ·exact e a z
  ·exact q a z
theorem RT.chd {v : V} {d : D} {as : List Addr} (r : RT K H v d as) : ∀ a ∈ as, Chd (H a) := RT.chd2.1 r
theorem RTs.chd {v : List V} {d : List D} {as : List Addr} (r : RTs K H v d as) : ∀ a ∈ as, Chd (H a) := RT.chd2.2 r
theorem RT.tracked {v : V} {d : D} {as : List Addr} (h : RT K H v d as) (a : Addr) (ha : a ∈ as) : H a ≠ none := (h.chd a ha).ne
theorem RTs.tracked {v : List V} {d : List D} {as : List Addr} (h : RTs K H v d as) (a : Addr) (ha : a ∈ as) : H a ≠ none := (h.chd a ha).ne
theorem RA.rt2 {ok : Ok} : (∀ {v : V} {d : D}, RA K ok false H v d → ∃ as, RT K H v d as ∧ as.length = nl d ∧ ∀ a ∈ as, ok a) ∧ ∀ {v : List V} {d : List D}, RAs K ok false H v d → ∃ as, RTs K H v d as ∧ as.length = nls d ∧ ∀ a ∈ as, ok a :=
 RA.ind ⟨[], .non, rfl, fun _ h => by cases h⟩ (fun b => ⟨[], .bl b, rfl, fun _ h => by cases h⟩) (fun i => ⟨[], .int i, rfl, fun _ h => by cases h⟩) (fun x => ⟨[], .str x, rfl, fun _ h => by cases h⟩) (fun e k q => by
  obtain ⟨as, h1, h2, h3⟩ := q
  refine ⟨_ :: as, .lst e h1, by rw [List.length_cons, h2, nl], fun a ha => ?_⟩
  rcases List.mem_cons.mp ha with rfl | z
  ·exact k
  ·exact h3 a z) (fun _ k _ => by cases k) (fun e q => by
  obtain ⟨as, h1, h2, h3⟩ := q
  exact ⟨as, .tup e h1, by rw [h2, nl], h3⟩) (fun e k => ⟨[_], .dic e, by simp [nl], fun a ha => by rw [List.mem_singleton.mp ha]; exact k⟩) (fun _ k => by cases k) ⟨[], .nil, rfl, fun _ h => by cases h⟩ fun e q => by
  obtain ⟨as, h1, h2, h3⟩ := e
  obtain ⟨bs, g1, g2, g3⟩ := q
  refine ⟨as ++ bs, .cons h1 g1, by rw [List.length_append, h2, g2, nls], fun a ha => ?_⟩
  rcases List.mem_append.mp ha with z | z
  ·exact h3 a z
  ·exact g3 a z
theorem RA.rt {ok : Ok} {v : V} {d : D} (h : RA K ok false H v d) : ∃ as, RT K H v d as ∧ as.length = nl d ∧ ∀ a ∈ as, ok a := RA.rt2.1 h
end
def tabs : List (Addr × Str × Pos) := []
def Tb (H : Hp) : Prop := ∀ t ∈ tabs, H t.1 = some (.tbl t.2.1 t.2.2)
theorem Tb.same {H H' : Hp} (t : Tb H) (s : Same H H') : Tb H' := fun x hx => s _ _ (t x hx)
structure Gh where
 H0 : Hp
 HF : Hp
 pk : Nat → Option Addr
 pn : Nat → List Addr
 tb : Tb H0
structure Ow where
 s : Nat → Option Addr
 n : Nat → List Addr := fun _ => []
instance : CoeFun Ow (fun _ => Nat → Option Addr) := ⟨Ow.s⟩
abbrev ow0 : Ow := ⟨fun _ => none, fun _ => []⟩
def okA (ow : Ow) : Ok := fun a => (∀ i, ow i ≠ some a) ∧ ∀ i, a ∉ ow.n i
structure Rel (K : PySem.W.Frag) (fl : List Fl) (G : Gh) (ow : Ow) (σ : St) (H : Hp) (δ : DS) : Prop where
 s0 : Same G.H0 G.HF
 s1 : Same G.HF H
 len : σ.length = δ.length
 own : ∀ i a, ow i = some a → G.H0 a = none ∧ ((fl[i]? = some .O ∧ G.HF a = none) ∨ (fl[i]? = some .L ∧ ∃ xs, G.HF a = some (.lst xs))) ∧
  ∃ xs ds, σ[i]? = some (some (.ref a)) ∧ H a = some (.lst xs) ∧ RAs K (okA ow) true H xs ds ∧ δ[i]? = some (some (.d (.list ds)))
 inj : ∀ i j a, ow i = some a → ow j = some a → i = j
 pin : ∀ i, fl[i]? = some .L → ow i = G.pk i
 dat : ∀ i d, δ[i]? = some (some (.d d)) → isN fl[i]? = false → ow i = none → ∃ v, σ[i]? = some (some v) ∧ RA K (okA ow) true H v d
 oo : ∀ i d, δ[i]? = some (some (.d d)) → isN fl[i]? = false → fl[i]? ≠ some .A → ow i = none → flat d = true
 nt : ∀ i a, a ∈ ow.n i → G.H0 a = none ∧ Chd (H a) ∧ ((fl[i]? = some .N ∧ G.HF a = none) ∨ fl[i]? = some .M)
 nd : ∀ i j a, a ∈ ow.n i → a ∈ ow.n j → i = j
 ns : ∀ i j a, a ∈ ow.n i → ow j ≠ some a
 np : ∀ i, fl[i]? = some .M → ow.n i = G.pn i
 nr : ∀ i d, isN fl[i]? = true → δ[i]? = some (some (.d d)) → ∃ v, σ[i]? = some (some v) ∧ RT K H v d (ow.n i) ∧ (ow.n i).Nodup
theorem Rel.tb {K : PySem.W.Frag} {fl : List Fl} {G : Gh} {ow : Ow} {σ : St} {H : Hp} {δ : DS} (R : Rel K fl G ow σ H δ) : Tb H := G.tb.same (R.s0.trans R.s1)
theorem Rel.same0 {K : PySem.W.Frag} {fl : List Fl} {G : Gh} {ow : Ow} {σ : St} {H : Hp} {δ : DS} (R : Rel K fl G ow σ H δ) : Same G.H0 H := R.s0.trans R.s1
theorem Rel.grow {K : PySem.W.Frag} {fl : List Fl} {G : Gh} {ow : Ow} {σ : St} {H H' : Hp} {δ : DS} (R : Rel K fl G ow σ H δ) (e : Same H H') : Rel K fl G ow σ H' δ :=
 ⟨R.s0, R.s1.trans e, R.len, fun i a h => by
  obtain ⟨h0, hf, xs, ds, h1, h2, h3, h4⟩ := R.own i a h
  exact ⟨h0, hf, xs, ds, h1, e _ _ h2, h3.same e, h4⟩, R.inj, R.pin, fun i d h1 hn h2 => by
  obtain ⟨v, h3, h4⟩ := R.dat i d h1 hn h2
  exact ⟨v, h3, h4.same e⟩, R.oo, fun i a h => by
  obtain ⟨h1, h2, h3⟩ := R.nt i a h
  exact ⟨h1, (let ⟨u, z, c⟩ := h2; ⟨u, e _ _ z, c⟩), h3⟩, R.nd, R.ns, R.np, fun i d h1 h2 => by
  obtain ⟨v, h3, h4, h5⟩ := R.nr i d h1 h2
  exact ⟨v, h3, h4.same e, h5⟩⟩
inductive Kd where
 | P
 | B (L : List Nat)
 | A
 | R
 | F
 | C
 | FC
 | T
def ok1 : Ok := fun _ => True
def ok0 : Ok := fun _ => False
def okN (H : Hp) : Ok := fun a => H a = none
def Rs (K : PySem.W.Frag) (H0 : Hp) (ow : Ow) (Hb H : Hp) : Kd → V → D → Prop
 | .P, v, d => RA K ok1 true H v d
 | .B L, v, d => RA K (okA ow) true H v d ∨ ∃ i ∈ L, ∃ a xs ds, ow i = some a ∧ v = .ref a ∧ d = .list ds ∧ H a = some (.lst xs) ∧ RAs K (okA ow) true H xs ds
 | .A, v, d => RA K (okA ow) true H v d
 | .R, v, d => RA K (okN H0) false H v d
 | .F, v, d => (flat d = true ∧ RA K ok0 false H v d) ∨ ∃ a xs ds, v = .ref a ∧ d = .list ds ∧ Hb a = none ∧ H a = some (.lst xs) ∧ RAs K (fun b => okA ow b ∧ b ≠ a) true H xs ds
 | .C, v, d => RA K (okN Hb) false H v d
 | .T, v, d => ∃ as, RT K H v d as ∧ as.Nodup ∧ ∀ a ∈ as, Hb a = none
 | .FC, v, d => (flat d = true ∧ RA K ok0 false H v d) ∨ ∃ a xs ds, v = .ref a ∧ d = .list ds ∧ Hb a = none ∧ H a = some (.lst xs) ∧ RAs K (fun b => okN Hb b ∧ b ≠ a) false H xs ds
section
variable {K : PySem.W.Frag} {Hb H H' : Hp} {fl : List Fl} {G : Gh} {ow : Ow} {σ : St} {δ : DS} {v : V} {d : D}
theorem okA_new (R : Rel K fl G ow σ Hb δ) {a : Addr} (h : Hb a = none) : okA ow a := ⟨fun i e => (by
 obtain ⟨_, _, xs, _, _, h2, _⟩ := R.own i a e
 rw [h] at h2
 cases h2), fun i e => (R.nt i a e).2.1.ne h⟩
theorem okN_0 (R : Rel K fl G ow σ Hb δ) {a : Addr} (h : Hb a = none) : okN G.H0 a := R.same0.free h
theorem Rs.FC_F (R : Rel K fl G ow σ Hb δ) (h : Rs K G.H0 ow Hb H .FC v d) : Rs K G.H0 ow Hb H .F v d := by
 rcases h with h | ⟨a, xs, ds, h1, h2, h3, h4, h5⟩
 ·exact .inl h
 ·exact .inr ⟨a, xs, ds, h1, h2, h3, h4, h5.imp (fun b z => ⟨okA_new R z.1, z.2⟩) (fun _ => rfl)⟩
theorem Rs.FC_C (h : Rs K G.H0 ow Hb H .FC v d) : Rs K G.H0 ow Hb H .C v d := by
 rcases h with h | ⟨a, xs, ds, rfl, rfl, h3, h4, h5⟩
 ·exact RA.flat h.1 h.2
 ·exact .lst h4 h3 (h5.imp (fun b z => z.1) (fun z => z))
theorem Rs.F_A (R : Rel K fl G ow σ Hb δ) (h : Rs K G.H0 ow Hb H .F v d) : Rs K G.H0 ow Hb H .A v d := by
 rcases h with h | ⟨a, xs, ds, rfl, rfl, h3, h4, h5⟩
 ·exact RA.flat h.1 h.2
 ·exact .lst h4 (okA_new R h3) (h5.imp (fun b z => z.1) (fun z => z))
theorem Rs.C_A (R : Rel K fl G ow σ Hb δ) (h : Rs K G.H0 ow Hb H .C v d) : Rs K G.H0 ow Hb H .A v d := RA.imp (fun _ z => okA_new R z) (fun _ => rfl) h
theorem Rs.C_R (R : Rel K fl G ow σ Hb δ) (h : Rs K G.H0 ow Hb H .C v d) : Rs K G.H0 ow Hb H .R v d := RA.imp (fun _ z => okN_0 R z) (fun z => z) h
theorem Rs.A_B (L : List Nat) (h : Rs K G.H0 ow Hb H .A v d) : Rs K G.H0 ow Hb H (.B L) v d := .inl h
theorem Rs.B_P {L : List Nat} (h : Rs K G.H0 ow Hb H (.B L) v d) : Rs K G.H0 ow Hb H .P v d := by
 rcases h with h | ⟨i, _, a, xs, ds, _, rfl, rfl, h4, h5⟩
 ·exact RA.imp (fun _ _ => trivial) (fun z => z) h
 ·exact .lst h4 trivial (h5.imp (fun _ _ => trivial) (fun z => z))
theorem Rs.P_flat (hf : flat d = true) (h : Rs K G.H0 ow Hb H .P v d) : Rs K G.H0 ow Hb H .FC v d := .inl ⟨hf, RA.flat hf h⟩
theorem Rs.F_fl1 (hf : fl1 d = true) (h : Rs K G.H0 ow Hb H .F v d) : Rs K G.H0 ow Hb H .FC v d := by
 rcases h with h | ⟨a, xs, ds, h1, h2, h3, h4, h5⟩
 ·exact .inl h
 ·subst h2
  exact .inr ⟨a, xs, ds, h1, rfl, h3, h4, RAs.flat hf h5⟩
end
def tD (K : PySem.W.Frag) (fl : List Fl) (k : Kd) (f : FE) : TE := fun σ H Q => ∃ G ow δ d, Rel K fl G ow σ H δ ∧ f δ = some d ∧ ∀ v H', Same H H' → Rs K G.H0 ow H H' k v d → Q v H'
abbrev DE (X : Cx) (fl : List Fl) (k : Kd) (e : Expr) (f : FE) : Prop := PE X e (tD X.K fl k f)
def tDA (K : PySem.W.Frag) (fl : List Fl) (f : FA) : TA := fun σ H Q => ∃ G ow δ ds, Rel K fl G ow σ H δ ∧ f δ = some ds ∧ ∀ vs H', Same H H' → RAs K ok1 true H' vs ds → Q vs H'
abbrev DA (X : Cx) (fl : List Fl) (es : List Expr) (f : FA) : Prop := PA X es (tDA X.K fl f)
def tDT (K : PySem.W.Frag) (fl : List Fl) (f : FT) : TT := fun σ H Q => ∃ G ow δ b, Rel K fl G ow σ H δ ∧ f δ = some b ∧ ∀ H', Same H H' → Q b H'
abbrev DT (X : Cx) (fl : List Fl) (e : Expr) (f : FT) : Prop := PT X e (tDT X.K fl f)
abbrev DW (X : Cx) (fl : List Fl) (e : Expr) (f : FT) : Prop := PW X e (tDT X.K fl f)
def EndD (K : PySem.W.Frag) (fl : List Fl) (G : Gh) (Dn : Ends) : Oc → Prop
 | .nx δ' => ∀ ow' σ' H', Rel K fl G ow' σ' H' δ' → Dn.nx σ' H'
 | .rt d => ∀ v H', Same G.H0 H' → RA K (okN G.H0) false H' v d → Dn.rt v H'
 | .bk δ' => ∀ ow' σ' H', Rel K fl G ow' σ' H' δ' → Dn.bk σ' H'
 | .ct δ' => ∀ ow' σ' H', Rel K fl G ow' σ' H' δ' → Dn.ct σ' H'
 | .ex _ _ d => ∀ v H', Same G.H0 H' → RA K ok1 true H' v d → Dn.rt v H'
def tDS (K : PySem.W.Frag) (fl : List Fl) (f : FS) : TS := fun Dn σ H => ∃ G ow δ o, Rel K fl G ow σ H δ ∧ f δ = some o ∧ EndD K fl G Dn o
abbrev DS1 (X : Cx) (fl : List Fl) (s : Stmt) (f : FS) : Prop := PS X s (tDS X.K fl f)
abbrev DSs (X : Cx) (fl : List Fl) (s : List Stmt) (f : FS) : Prop := PSs X s (tDS X.K fl f)
def tDG (K : PySem.W.Frag) (fl : List Fl) (tg : List Nat) (g : FG) : TG := fun v σ H Q => ∃ G ow δ d δ', Rel K fl G ow σ H δ ∧ RA K (okA ow) true H v d ∧ g d δ = some δ' ∧ ∀ σ', Rel K fl G ow σ' H δ' → (∀ j, j ∉ tg → σ'[j]? = σ[j]?) → Q σ' H
abbrev DG (X : Cx) (fl : List Fl) (tg : List Nat) (e : Expr) (g : FG) : Prop := PG X e (tDG X.K fl tg g)
section
variable {X : Cx} {e : Expr} {es : List Expr} {st : Stmt} {sts : List Stmt}
theorem PE.imp {t t' : TE} (h : PE X e t) (i : ∀ σ H Q, t' σ H Q → t σ H Q) : PE X e t' := fun pins s σ H Q I q => h pins s σ H Q I (i σ H Q q)
theorem PT.imp {t t' : TT} (h : PT X e t) (i : ∀ σ H Q, t' σ H Q → t σ H Q) : PT X e t' := fun pins s σ H Q I q => h pins s σ H Q I (i σ H Q q)
theorem PW.imp {t t' : TT} (h : PW X e t) (i : ∀ σ H Q, t' σ H Q → t σ H Q) : PW X e t' := fun w pins s σ H Q I q => h w pins s σ H Q I (i σ H Q q)
theorem PA.imp {t t' : TA} (h : PA X es t) (i : ∀ σ H Q, t' σ H Q → t σ H Q) : PA X es t' := fun p pins s σ H Q I q => h p pins s σ H Q I (i σ H Q q)
theorem PS.imp {t t' : TS} (h : PS X st t) (i : ∀ D σ H, t' D σ H → t D σ H) : PS X st t' := fun pins s σ H D I q => h pins s σ H D I (i D σ H q)
theorem PSs.imp {t t' : TS} (h : PSs X sts t) (i : ∀ D σ H, t' D σ H → t D σ H) : PSs X sts t' := fun pins s σ H D I q => h pins s σ H D I (i D σ H q)
theorem PG.imp {t t' : TG} (h : PG X e t) (i : ∀ v σ H Q, t' v σ H Q → t v σ H Q) : PG X e t' := fun pins s σ H v u Q I r q => h pins s σ H v u Q I r (i v σ H Q q)
end
end D3
namespace D3
open PySem PySem.Spec PyProof.Rows L2 My
section
variable {X : Cx} {fl : List Fl} {e a b c : Expr} {es : List Expr} {k : Kd} {f fa fb fc : FE} {pos : Pos}
theorem dVar_eq {i : Nat} {δ : DS} {d : D} (h : dVar i δ = some d) : δ[i]? = some (some (.d d)) := by
 unfold dVar at h
 split at h
 ·next x e => rw [e]; cases h; rfl
 ·cases h
theorem de_var (i : Nat) {x : Str} (hN : X.N[i]? = some x := by rfl) (hv : Vis X.env.scope x := by first | exact Or.inl rfl | exact Or.inr (Or.inl rfl) | exact Or.inr (Or.inr rfl)) (hd : (x == ("__debug__" : Str)) = false := by decide)
 (hcd : (x == ("__classdict__" : Str)) = false := by decide) (hn : isN fl[i]? = false := by rfl) : DE X fl (.B [i]) (.Name x pos) (dVar i) := by
 refine PE.imp (pe_var hN hv hd hcd) fun σ H Q h => ?_
 obtain ⟨G, ow, δ, d, R, hf, q⟩ := h
 have e := dVar_eq hf
 cases ho : ow i with
 | none =>
  obtain ⟨v, h1, h2⟩ := R.dat i d e hn ho
  exact ⟨v, h1, q v H (Same.refl H) (.inl h2)⟩
 | some a =>
  obtain ⟨h0, _, xs, ds, h1, h2, h3, h4⟩ := R.own i a ho
  rw [e] at h4
  cases h4
  exact ⟨_, h1, q _ H (Same.refl H) (.inr ⟨i, List.mem_singleton.mpr rfl, a, xs, ds, ho, rfl, rfl, h2, h3⟩)⟩
theorem de_varA (i : Nat) (hfl : fl[i]? = some .A) {x : Str} (hN : X.N[i]? = some x := by rfl) (hv : Vis X.env.scope x := by first | exact Or.inl rfl | exact Or.inr (Or.inl rfl) | exact Or.inr (Or.inr rfl)) (hd : (x == ("__debug__" : Str)) = false := by decide)
 (hcd : (x == ("__classdict__" : Str)) = false := by decide) : DE X fl .A (.Name x pos) (dVar i) := by
 refine PE.imp (pe_var hN hv hd hcd) fun σ H Q h => ?_
 obtain ⟨G, ow, δ, d, R, hf, q⟩ := h
 have e := dVar_eq hf
 cases ho : ow i with
 | none =>
  obtain ⟨v, h1, h2⟩ := R.dat i d e (by rw [hfl]; rfl) ho
  exact ⟨v, h1, q v H (Same.refl H) h2⟩
 | some a =>
  obtain ⟨h0, hz, _⟩ := R.own i a ho
  rw [hfl] at hz
  rcases hz with ⟨z, _⟩ | ⟨z, _⟩ <;> cases z
theorem de_varR (i : Nat) (hfl : fl[i]? ≠ some .A) {x : Str} (hN : X.N[i]? = some x := by rfl) (hv : Vis X.env.scope x := by first | exact Or.inl rfl | exact Or.inr (Or.inl rfl) | exact Or.inr (Or.inr rfl)) (hd : (x == ("__debug__" : Str)) = false := by decide)
 (hcd : (x == ("__classdict__" : Str)) = false := by decide) (hn : isN fl[i]? = false := by rfl) : DE X fl .R (.Name x pos) (dFl1 (dVar i)) := by
 refine PE.imp (pe_var hN hv hd hcd) fun σ H Q h => ?_
 obtain ⟨G, ow, δ, d, R, hf, q⟩ := h
 unfold dFl1 at hf
 cases hv' : dVar i δ with
 | none => rw [hv'] at hf; cases hf
 | some d' =>
  rw [hv', Option.bind_some] at hf
  by_cases hc : fl1 d' = true
  ·rw [if_pos hc] at hf
   cases hf
   have e := dVar_eq hv'
   cases ho : ow i with
   | none =>
    obtain ⟨v, h1, h2⟩ := R.dat i d e hn ho
    exact ⟨v, h1, q v H (Same.refl H) (RA.flat (R.oo i d e hn hfl ho) h2)⟩
   | some a =>
    obtain ⟨h0, _, xs, ds, h1, h2, h3, h4⟩ := R.own i a ho
    rw [e] at h4
    cases h4
    exact ⟨_, h1, q _ H (Same.refl H) (.lst h2 h0 (RAs.flat hc h3))⟩
  ·rw [if_neg hc] at hf
   cases hf
theorem de_cast {k k' : Kd} (h : DE X fl k e f) (hc : ∀ (Hb H : Hp) (G : Gh) (ow : Ow) (σ : St) (δ : DS) (v : V) (d : D), Rel X.K fl G ow σ Hb δ → Rs X.K G.H0 ow Hb H k v d → Rs X.K G.H0 ow Hb H k' v d) : DE X fl k' e f := by
 refine PE.imp h fun σ H Q h => ?_
 obtain ⟨G, ow, δ, d, R, hf, q⟩ := h
 exact ⟨G, ow, δ, d, R, hf, fun v H' s r => q v H' s (hc _ _ G ow σ δ v d R r)⟩
theorem de_guard {k k' : Kd} {p : D → Bool} (h : DE X fl k e f) (hc : ∀ (Hb H : Hp) (G : Gh) (ow : Ow) (σ : St) (δ : DS) (v : V) (d : D), p d = true → Rel X.K fl G ow σ Hb δ → Rs X.K G.H0 ow Hb H k v d → Rs X.K G.H0 ow Hb H k' v d) :
 DE X fl k' e (fun δ => (f δ).bind fun d => if p d = true then some d else none) := by
 refine PE.imp h fun σ H Q h => ?_
 obtain ⟨G, ow, δ, d, R, hf, q⟩ := h
 dsimp only at hf
 cases hv : f δ with
 | none => rw [hv] at hf; cases hf
 | some d' =>
  rw [hv, Option.bind_some] at hf
  by_cases hp : p d' = true
  ·rw [if_pos hp] at hf
   cases hf
   exact ⟨G, ow, δ, d, R, hv, fun v H' s r => q v H' s (hc _ _ G ow σ δ v d hp R r)⟩
  ·rw [if_neg hp] at hf
   cases hf
theorem c_FC_F (h : DE X fl .FC e f) : DE X fl .F e f := de_cast h fun _ _ _ _ _ _ _ _ R r => r.FC_F R
theorem c_FC_C (h : DE X fl .FC e f) : DE X fl .C e f := de_cast h fun _ _ _ _ _ _ _ _ R r => r.FC_C
theorem c_F_A (h : DE X fl .F e f) : DE X fl .A e f := de_cast h fun _ _ _ _ _ _ _ _ R r => r.F_A R
theorem c_C_A (h : DE X fl .C e f) : DE X fl .A e f := de_cast h fun _ _ _ _ _ _ _ _ R r => r.C_A R
theorem c_C_R (h : DE X fl .C e f) : DE X fl .R e f := de_cast h fun _ _ _ _ _ _ _ _ R r => r.C_R R
theorem c_A_B (h : DE X fl .A e f) : DE X fl (.B []) e f := de_cast h fun _ _ _ _ _ _ _ _ R r => Rs.A_B [] r
theorem c_B_P {L : List Nat} (h : DE X fl (.B L) e f) : DE X fl .P e f := de_cast h fun _ _ _ _ _ _ _ _ R r => r.B_P
theorem c_flat (h : DE X fl .P e f) : DE X fl .FC e (dFlat f) := de_guard h fun _ _ _ _ _ _ _ _ hf R r => r.P_flat hf
theorem c_Ffl1 (h : DE X fl .F e f) : DE X fl .FC e (dFl1 f) := de_guard h fun _ _ _ _ _ _ _ _ hf R r => r.F_fl1 hf
theorem c_FC_A (h : DE X fl .FC e f) : DE X fl .A e f := c_F_A (c_FC_F h)
theorem c_FC_R (h : DE X fl .FC e f) : DE X fl .R e f := c_C_R (c_FC_C h)
theorem c_A_P (h : DE X fl .A e f) : DE X fl .P e f := c_B_P (c_A_B h)
theorem c_C_P (h : DE X fl .C e f) : DE X fl .P e f := c_A_P (c_C_A h)
theorem c_FC_P (h : DE X fl .FC e f) : DE X fl .P e f := c_A_P (c_FC_A h)
theorem c_F_P (h : DE X fl .F e f) : DE X fl .P e f := c_A_P (c_F_A h)
theorem de_cst {v : V} {d : D} (h : PE X e (tC v)) (hf : flat d = true) (hr : ∀ H, RA X.K ok0 false H v d) : DE X fl .FC e (dC d) := by
 refine PE.imp h fun σ H Q h => ?_
 obtain ⟨G, ow, δ, d', R, hd, q⟩ := h
 cases hd
 exact q v H (Same.refl H) (.inl ⟨hf, hr H⟩)
theorem de_int {i j pos} : DE X fl .FC (.Constant (.int i) j pos) (dC (.int i)) := de_cst pe_int rfl fun _ => .int _
theorem de_bl {b j pos} : DE X fl .FC (.Constant (.bool b) j pos) (dC (.bool b)) := de_cst pe_bl rfl fun _ => .bl _
theorem de_non {j pos} : DE X fl .FC (.Constant .none j pos) (dC .none) := de_cst pe_non rfl fun _ => .non
theorem de_str {x j pos} : DE X fl .FC (.Constant (.str x) j pos) (dC (.str x)) := de_cst pe_str rfl fun _ => .str _
theorem de_glob {x : Str} {i : Int} {pos : Pos} (h : ∃ t, X.mg x = some (.int i t)) (hg : Gl X x := by rfl) (hd : (x == ("__debug__" : Str)) = false := by decide) : DE X fl .FC (.Name x pos) (dC (.int i)) := by
 obtain ⟨t, h⟩ := h
 exact de_cst (pe_glob (v := .int i) hg h ⟨t, rfl⟩ hd) rfl fun _ => .int _
def BrO (K : PySem.W.Frag) (r : R2) (g : D → D → Option D) : Prop := ∀ (H : Hp) (x y : V) (dx dy d : D) (Q : VK), RA K ok1 true H x dx → RA K ok1 true H y dy → g dx dy = some d → (∀ v, flat d = true → RA K ok0 false H v d → Q v H) → r x y H Q
theorem bind2 {fa fb : FE} {g : D → D → Option D} {δ : DS} {d : D} (h : dOp g fa fb δ = some d) : ∃ x y, fa δ = some x ∧ fb δ = some y ∧ g x y = some d := by
 unfold dOp at h
 cases ha : fa δ with
 | none => rw [ha] at h; cases h
 | some x =>
  rw [ha, Option.bind_some] at h
  cases hb : fb δ with
  | none => rw [hb] at h; cases h
  | some y =>
   rw [hb, Option.bind_some] at h
   exact ⟨x, y, rfl, rfl, h⟩
theorem bind1 {α β : Type} {x : Option α} {g : α → Option β} {d : β} (h : x.bind g = some d) : ∃ y, x = some y ∧ g y = some d := by
 cases x with
 | none => cases h
 | some y => exact ⟨y, rfl, h⟩
theorem op_bridge {r : R2} {g : D → D → Option D} {σ : St} {H : Hp} {Q : VK} (hb : BrO X.K r g) (h : tD X.K fl .FC (dOp g fa fb) σ H Q) : tOp r (tD X.K fl .P fa) (tD X.K fl .P fb) σ H Q := by
 obtain ⟨G, ow, δ, d, R, hf, q⟩ := h
 obtain ⟨x, y, e1, e2, e3⟩ := bind2 hf
 refine ⟨G, ow, δ, x, R, e1, fun v H1 s1 r1 => ⟨G, ow, δ, y, R.grow s1, e2, fun u H2 s2 r2 => ?_⟩⟩
 exact hb H2 v u x y d Q (RA.same s2 r1) r2 e3 fun z hz rz => q z H2 (s1.trans s2) (.inl ⟨hz, rz⟩)
theorem de_op {op : Operator} {r : R2} {g : D → D → Option D} (ho : OpR X (binaryOp op) r) (hb : BrO X.K r g) (h1 : DE X fl .P a fa) (h2 : DE X fl .P b fb) : DE X fl .FC (.BinOp a op b pos) (dOp g fa fb) :=
 PE.imp (pe_op ho h1 h2) fun _ _ _ h => op_bridge hb h
theorem de_cmp {op : CmpOp} {r : R2} {g : D → D → Option D} (ho : OpR X (compareOp op) r) (hb : BrO X.K r g) (h1 : DE X fl .P a fa) (h2 : DE X fl .P b fb) (hm : behindInMarks op b = false) : DE X fl .FC (.Compare a [op] [b] pos) (dOp g fa fb) :=
 PE.imp (pe_cmpR ho h1 h2 hm) fun _ _ _ h => op_bridge hb h
theorem dt_cmp {op : CmpOp} {r : R2} {g : D → D → Option D} (ho : OpR X (compareOp op) r) (hb : BrO X.K r g) (h1 : DE X fl .P a fa) (h2 : DE X fl .P b fb) (hm : behindInMarks op b = false) : DT X fl (.Compare a [op] [b] pos) (tBool (dOp g fa fb)) := by
 refine PT.imp (pt_cmpR ho h1 h2 hm) fun σ H Q h => ?_
 obtain ⟨G, ow, δ, c, R, hf, q⟩ := h
 obtain ⟨d, e1, e2⟩ := bind1 hf
 cases d <;> first | (cases e2; done) | skip
 cases e2
 refine op_bridge (fl := fl) (fa := fa) (fb := fb) hb ⟨G, ow, δ, _, R, e1, fun v H' s r => ?_⟩
 obtain rfl := (Rs.FC_C r).blE
 exact ⟨_, rfl, q H' s⟩
theorem dt_val (h : DE X fl .P e f) (he : ∀ whole, isTrue e X.env whole = (do let v ← whole; standAt e.pos; holding [v] (truthy v)) := by intro _; rfl) : DT X fl e (tBool f) := by
 refine PT.imp (pt_val h he) fun σ H Q h => ?_
 obtain ⟨G, ow, δ, c, R, hf, q⟩ := h
 obtain ⟨d, e1, e2⟩ := bind1 hf
 cases d <;> first | (cases e2; done) | skip
 cases e2
 refine ⟨G, ow, δ, _, R, e1, fun v H' s r => ?_⟩
 obtain rfl := RA.blE r
 exact ⟨_, rfl, q H' s⟩
theorem br_I0 {K : PySem.W.Frag} {h : Int → Int → V} {g : Int → Int → D} (hf : ∀ i j, flat (g i j) = true) (hr : ∀ H i j, RA K ok0 false H (h i j) (g i j)) : BrO K (rI0 h) (gI fun i j => some (g i j)) := by
 intro H x y dx dy d Q rx ry e q
 unfold gI at e
 split at e
 ·next i j =>
  cases e
  exact ⟨i, j, rx.intE, ry.intE, q _ (hf i j) (hr H i j)⟩
 ·cases e
theorem br_I {K : PySem.W.Frag} {C : Int → Int → Prop} {h : Int → Int → V} {g : Int → Int → D} {c : Int → Int → Bool} (hc : ∀ i j, c i j = true → C i j) (hf : ∀ i j, flat (g i j) = true) (hr : ∀ H i j, RA K ok0 false H (h i j) (g i j)) :
 BrO K (rI C h) (gI fun i j => if c i j = true then some (g i j) else none) := by
 intro H x y dx dy d Q rx ry e q
 unfold gI at e
 split at e
 ·next i j =>
  dsimp only at e
  by_cases z : c i j = true
  ·rw [if_pos z] at e
   cases e
   exact ⟨i, j, rx.intE, ry.intE, hc i j z, q _ (hf i j) (hr H i j)⟩
  ·rw [if_neg z] at e
   cases e
 ·cases e
end
section
variable {X : Cx} {K : PySem.W.Frag}
theorem mulG_ok {i j : Int} (h : mulG i j = true) : IntMulOk i j := by
 unfold mulG at h
 rw [Bool.or_eq_true, Bool.or_eq_true, Bool.and_eq_true] at h
 rcases h with (h | h) | ⟨h1, h2⟩
 ·exact IntMulOk.of_left (PySem.intBits_le_iff.mpr (of_decide_eq_true h))
 ·exact IntMulOk.of_right (PySem.intBits_le_iff.mpr (of_decide_eq_true h))
 ·exact PySem.IntMulOk.of_le (PySem.intBits_le_iff.mpr (of_decide_eq_true h1)) (PySem.intBits_le_iff.mpr (of_decide_eq_true h2)) (by decide)
theorem op_mulG : OpR X (binaryOp .Mult) (rI (fun i j => mulG i j = true) fun i j => .int (i * j)) := opI fun _ _ _ _ _ _ _ hc q => mul_int q (mulG_ok hc)
theorem op_divG : OpR X (binaryOp .FloorDiv) (rI (fun i j => divG i j = true) fun i j => .int (i.fdiv j)) := opI fun i j _ _ _ _ _ hc q => by
 unfold divG at hc
 rw [Bool.and_eq_true] at hc
 have h1 := of_decide_eq_true hc.1
 have h2 := of_decide_eq_true hc.2
 refine floordiv_int h1 q (.inl (PyProof.noPylong_of_log2 ?_))
 exact (Nat.log2_lt (by omega)).mpr h2
theorem powG_ok {i j : Int} (h : powG i j = true) : CPow i j := by
 unfold powG at h
 rw [Bool.and_eq_true, Bool.and_eq_true] at h
 have h1 := of_decide_eq_true h.1.1
 have h2 := of_decide_eq_true h.1.2
 exact ⟨h1, by omega, of_decide_eq_true h.2⟩
theorem b_add : BrO K (rI0 fun i j => .int (i + j)) gAdd := br_I0 (fun _ _ => rfl) fun _ _ _ => .int _
theorem b_sub : BrO K (rI0 fun i j => .int (i - j)) gSub := br_I0 (fun _ _ => rfl) fun _ _ _ => .int _
theorem b_mul : BrO K (rI (fun i j => mulG i j = true) fun i j => .int (i * j)) gMul := br_I (fun _ _ h => h) (fun _ _ => rfl) fun _ _ _ => .int _
theorem b_div : BrO K (rI (fun i j => divG i j = true) fun i j => .int (i.fdiv j)) gDiv := br_I (fun _ _ h => h) (fun _ _ => rfl) fun _ _ _ => .int _
theorem b_mod : BrO K (rI (fun _ j => j ≠ 0) fun i j => .int (i.fmod j)) gMod := br_I (fun _ _ h => of_decide_eq_true h) (fun _ _ => rfl) fun _ _ _ => .int _
theorem b_pow : BrO K (rI CPow fun i j => .int (i ^ j.toNat)) gPow := br_I (fun _ _ h => powG_ok h) (fun _ _ => rfl) fun _ _ _ => .int _
theorem b_lt : BrO K (rI0 fun i j => .bl (decide (i < j))) gLt := br_I0 (fun _ _ => rfl) fun _ _ _ => .bl _
theorem b_le : BrO K (rI0 fun i j => .bl (decide (i ≤ j))) gLe := br_I0 (fun _ _ => rfl) fun _ _ _ => .bl _
theorem b_gt : BrO K (rI0 fun i j => .bl (decide (j < i))) gGt := br_I0 (fun _ _ => rfl) fun _ _ _ => .bl _
theorem b_ge : BrO K (rI0 fun i j => .bl (decide (j ≤ i))) gGe := br_I0 (fun _ _ => rfl) fun _ _ _ => .bl _
theorem b_eq : BrO K (rEqD K) gEq := by
 intro H x y dx dy d Q rx ry e q
 unfold gEq at e
 by_cases z : (SeqAt.shaped dx && SeqAt.shaped dy) = true
 ·rw [if_pos z] at e
  cases e
  rw [Bool.and_eq_true] at z
  exact ⟨dx, dy, rx.rd (SeqAt.canLay_of_shaped z.1), ry.rd (SeqAt.canLay_of_shaped z.2), z.1, z.2, q _ rfl (.bl _)⟩
 ·rw [if_neg z] at e
  cases e
theorem b_ne : BrO K (rNeD K) gNe := by
 intro H x y dx dy d Q rx ry e q
 unfold gNe at e
 by_cases z : (SeqAt.shaped dx && SeqAt.shaped dy) = true
 ·rw [if_pos z] at e
  cases e
  rw [Bool.and_eq_true] at z
  exact ⟨dx, dy, rx.rd (SeqAt.canLay_of_shaped z.1), ry.rd (SeqAt.canLay_of_shaped z.2), z.1, z.2, q _ rfl (.bl _)⟩
 ·rw [if_neg z] at e
  cases e
end
end D3
namespace D3
open PySem PySem.Spec PyProof.Rows L2 My
section
variable {X : Cx} {fl : List Fl} {e a b c : Expr} {es : List Expr} {st : Stmt} {sts body orelse : List Stmt} {k : Kd} {f fa fb fc : FE} {fs gs : FS} {ft gt : FT} {pos : Pos}
theorem EndD.nx_imp {K : PySem.W.Frag} {G : Gh} {Dn : Ends} {N : St → Hp → Prop} {o : Oc} (h : EndD K fl G Dn o) (hn : ∀ δ', o ≠ .nx δ') : EndD K fl G { Dn with nx := N } o := by
 cases o with
 | nx δ' => exact absurd rfl (hn δ')
 | rt d => exact h
 | bk δ' => exact h
 | ct δ' => exact h
 | ex c f v => exact h
theorem dss_nil : DSs X fl [] sNil := PSs.imp pss_nil fun Dn σ H h => by
 obtain ⟨G, ow, δ, o, R, hf, q⟩ := h
 cases hf
 exact q ow σ H R
theorem dss_cons (h1 : DS1 X fl st fs) (h2 : DSs X fl sts gs) : DSs X fl (st :: sts) (sSeq fs gs) := PSs.imp (pss_cons h1 h2) fun Dn σ H h => by
 obtain ⟨G, ow, δ, o, R, hf, q⟩ := h
 obtain ⟨o1, e1, e2⟩ := bind1 hf
 refine ⟨G, ow, δ, o1, R, e1, ?_⟩
 cases o1 with
 | nx δ' => exact fun ow' σ' H' R' => ⟨G, ow', δ', o, R', e2, q⟩
 | rt d => cases e2; exact EndD.nx_imp q (fun _ z => by cases z)
 | bk d => cases e2; exact EndD.nx_imp q (fun _ z => by cases z)
 | ct d => cases e2; exact EndD.nx_imp q (fun _ z => by cases z)
 | ex c f v => cases e2; exact q
theorem dss_one (h1 : DS1 X fl st fs) : DSs X fl [st] fs := PSs.imp (pss_one h1) fun _ _ _ h => h
theorem ds_ret (h : DE X fl .R e f) : DS1 X fl (.Return (some e) pos) (sRet f) := PS.imp (ps_ret h) fun Dn σ H h => by
 obtain ⟨G, ow, δ, o, R, hf, q⟩ := h
 obtain ⟨d, e1, e2⟩ := bind1 hf
 cases e2
 exact ⟨G, ow, δ, d, R, e1, fun v H' s r => q v H' (R.same0.trans s) r⟩
theorem ds_expr (h : DE X fl .P e f) (hs : swapsWith e none pos.line X.env = pure false := by rfl) : DS1 X fl (.Expr e pos) (sExpr f) := PS.imp (ps_expr h hs) fun Dn σ H h => by
 obtain ⟨G, ow, δ, o, R, hf, q⟩ := h
 obtain ⟨d, e1, e2⟩ := bind1 hf
 cases e2
 exact ⟨G, ow, δ, d, R, e1, fun v H' s r => q ow σ H' (R.grow s)⟩
theorem ds_if (hc : DT X fl c ft) (h1 : DSs X fl body fs) (h2 : DSs X fl orelse gs) : DS1 X fl (.If c body orelse pos) (sIf ft fs gs) := PS.imp (ps_if hc h1 h2) fun Dn σ H h => by
 obtain ⟨G, ow, δ, o, R, hf, q⟩ := h
 obtain ⟨t, e1, e2⟩ := bind1 hf
 refine ⟨G, ow, δ, t, R, e1, fun H' s => ?_⟩
 cases t with
 | true => exact iteT ⟨G, ow, δ, o, R.grow s, e2, q⟩
 | false => exact iteF ⟨G, ow, δ, o, R.grow s, e2, q⟩
theorem set_get {α : Type} {l : List (Option α)} {i j : Nat} {x y : α} (h : (l.set i (some x))[j]? = some (some y)) : (j = i ∧ x = y) ∨ (j ≠ i ∧ l[j]? = some (some y)) := by
 rw [List.getElem?_set] at h
 by_cases e : i = j
 ·subst e
  rw [if_pos rfl] at h
  by_cases z : i < l.length
  ·rw [if_pos z] at h
   cases h
   exact .inl ⟨rfl, rfl⟩
  ·rw [if_neg z] at h
   cases h
 ·rw [if_neg e] at h
  exact .inr ⟨fun z => e z.symm, h⟩
theorem Rel.setA {K : PySem.W.Frag} {G : Gh} {ow : Ow} {σ : St} {H : Hp} {δ : DS} {i : Nat} {v : V} {d : D} (R : Rel K fl G ow σ H δ) (hfl : fl[i]? = some .A) (hi : i < σ.length) (r : RA K (okA ow) true H v d) :
 Rel K fl G ow (σ.set i (some v)) H (δ.set i (some (.d d))) := by
 have no : ∀ a, ow i ≠ some a := fun a z => by
  obtain ⟨_, hz, _⟩ := R.own i a z
  rw [hfl] at hz
  rcases hz with ⟨z, _⟩ | ⟨z, _⟩ <;> cases z
 refine ⟨R.s0, R.s1, by rw [List.length_set, List.length_set]; exact R.len, fun j a h => ?_, R.inj, R.pin, fun j d' h1 hn h2 => ?_, fun j d' h1 hn h2 h3 => ?_, R.nt, R.nd, R.ns, R.np, fun j d' hn h1 => ?_⟩
 ·have hj : j ≠ i := fun z => no a (z ▸ h)
  obtain ⟨h0, hf, xs, ds, h1, h2, h3, h4⟩ := R.own j a h
  exact ⟨h0, hf, xs, ds, by rw [List.getElem?_set_ne (Ne.symm hj)]; exact h1, h2, h3, by rw [List.getElem?_set_ne (Ne.symm hj)]; exact h4⟩
 ·rcases set_get h1 with ⟨rfl, e⟩ | ⟨hj, e⟩
  ·cases e
   exact ⟨v, by rw [List.getElem?_set_self hi], r⟩
  ·obtain ⟨v', h3, h4⟩ := R.dat j d' e hn h2
   exact ⟨v', by rw [List.getElem?_set_ne (Ne.symm hj)]; exact h3, h4⟩
 ·rcases set_get h1 with ⟨rfl, e⟩ | ⟨hj, e⟩
  ·exact absurd hfl h2
  ·exact R.oo j d' e hn h2 h3
 ·rcases set_get h1 with ⟨rfl, e⟩ | ⟨hj, e⟩
  ·rw [hfl] at hn; cases hn
  ·obtain ⟨v', h3, h4⟩ := R.nr j d' hn e
   exact ⟨v', by rw [List.getElem?_set_ne (Ne.symm hj)]; exact h3, h4⟩
def owSet (ow : Ow) (i : Nat) (a : Option Addr) : Ow := ⟨fun j => if j = i then a else ow j, ow.n⟩
theorem owSet_eq {ow : Ow} {i : Nat} {a : Option Addr} : owSet ow i a i = a := if_pos rfl
theorem owSet_ne {ow : Ow} {i j : Nat} {a : Option Addr} (h : j ≠ i) : owSet ow i a j = ow j := if_neg h
theorem Rel.setO {K : PySem.W.Frag} {G : Gh} {ow : Ow} {σ : St} {H H' : Hp} {δ : DS} {i : Nat} {v : V} {d : D} (R : Rel K fl G ow σ H δ) (s : Same H H') (hfl : fl[i]? = some .O) (hi : i < σ.length) (r : Rs K G.H0 ow H H' .F v d) :
 ∃ ow', Rel K fl G ow' (σ.set i (some v)) H' (δ.set i (some (.d d))) := by
 have R' := R.grow s
 have sub0 : ∀ b, okA ow b → okA (owSet ow i none) b := fun b z => ⟨fun j e => by
  by_cases hj : j = i
  ·subst hj; rw [owSet_eq] at e; cases e
  ·rw [owSet_ne hj] at e; exact z.1 j e, z.2⟩
 have nrs : ∀ j d', isN fl[j]? = true → (δ.set i (some (.d d)))[j]? = some (some (.d d')) → ∃ v', (σ.set i (some v))[j]? = some (some v') ∧ RT K H' v' d' (ow.n j) ∧ (ow.n j).Nodup := fun j d' hn h1 => by
  rcases set_get h1 with ⟨rfl, e⟩ | ⟨hj, e⟩
  ·rw [hfl] at hn; cases hn
  ·obtain ⟨v', h3, h4⟩ := R'.nr j d' hn e
   exact ⟨v', by rw [List.getElem?_set_ne (Ne.symm hj)]; exact h3, h4⟩
 rcases r with ⟨hfd, r⟩ | ⟨a, xs, ds, rfl, rfl, ha, hx, hr⟩
 ·refine ⟨owSet ow i none, R'.s0, R'.s1, by rw [List.length_set, List.length_set]; exact R.len, fun j a h => ?_, fun j j' a h h' => ?_, fun j h => ?_, fun j d' h1 hn h2 => ?_, fun j d' h1 hn h2 h3 => ?_, R'.nt, R'.nd, fun j j' a h h' => ?_, R'.np, nrs⟩
  ·have hj : j ≠ i := fun z => by subst z; rw [owSet_eq] at h; cases h
   rw [owSet_ne hj] at h
   obtain ⟨h0, hf, xs, ds, h1, h2, h3, h4⟩ := R'.own j a h
   exact ⟨h0, hf, xs, ds, by rw [List.getElem?_set_ne (Ne.symm hj)]; exact h1, h2, h3.imp sub0 (fun z => z), by rw [List.getElem?_set_ne (Ne.symm hj)]; exact h4⟩
  ·have hj : j ≠ i := fun z => by subst z; rw [owSet_eq] at h; cases h
   have hj' : j' ≠ i := fun z => by subst z; rw [owSet_eq] at h'; cases h'
   rw [owSet_ne hj] at h
   rw [owSet_ne hj'] at h'
   exact R.inj j j' a h h'
  ·have hj : j ≠ i := fun z => by subst z; rw [hfl] at h; cases h
   rw [owSet_ne hj]
   exact R.pin j h
  ·rcases set_get h1 with ⟨rfl, e⟩ | ⟨hj, e⟩
   ·cases e
    exact ⟨v, by rw [List.getElem?_set_self hi], RA.flat hfd r⟩
   ·rw [owSet_ne hj] at h2
    obtain ⟨v', h3, h4⟩ := R'.dat j d' e hn h2
    exact ⟨v', by rw [List.getElem?_set_ne (Ne.symm hj)]; exact h3, h4.imp sub0 (fun z => z)⟩
  ·rcases set_get h1 with ⟨rfl, e⟩ | ⟨hj, e⟩
   ·cases e
    exact hfd
   ·rw [owSet_ne hj] at h3
    exact R.oo j d' e hn h2 h3
  ·by_cases hj : j' = i
   ·subst hj; rw [owSet_eq] at h'; cases h'
   ·rw [owSet_ne hj] at h'; exact R.ns j j' a h h'
 ·have sub : ∀ b, okA ow b ∧ b ≠ a → okA (owSet ow i (some a)) b := fun b z => ⟨fun j e => by
   by_cases hj : j = i
   ·subst hj; rw [owSet_eq] at e; exact z.2 (Option.some.inj e).symm
   ·rw [owSet_ne hj] at e; exact z.1.1 j e, z.1.2⟩
  have old : ∀ {v : V} {d : D}, RA K (okA ow) true H v d → RA K (okA (owSet ow i (some a))) true H' v d := fun r => (r.track.imp (fun b z => sub b ⟨z.1, fun e => z.2 (e ▸ ha)⟩) (fun z => z)).same s
  have olds : ∀ {v : List V} {d : List D}, RAs K (okA ow) true H v d → RAs K (okA (owSet ow i (some a))) true H' v d := fun r => (r.track.imp (fun b z => sub b ⟨z.1, fun e => z.2 (e ▸ ha)⟩) (fun z => z)).same s
  have nota : ∀ j, ow j ≠ some a := fun j z => by
   obtain ⟨_, _, _, _, _, h2, _⟩ := R.own j a z
   rw [ha] at h2
   cases h2
  have hF : G.HF a = none := R.s1.free ha
  refine ⟨owSet ow i (some a), R'.s0, R'.s1, by rw [List.length_set, List.length_set]; exact R.len, fun j b h => ?_, fun j j' b h h' => ?_, fun j h => ?_, fun j d' h1 hn h2 => ?_, fun j d' h1 hn h2 h3 => ?_, R'.nt, R'.nd, fun j j' b h h' => ?_, R'.np, nrs⟩
  ·by_cases hj : j = i
   ·subst hj
    rw [owSet_eq] at h
    cases h
    exact ⟨R.same0.free ha, .inl ⟨hfl, hF⟩, xs, ds, by rw [List.getElem?_set_self hi], hx, hr.imp sub (fun z => z), by rw [List.getElem?_set_self (by rw [← R.len]; exact hi)]⟩
   ·rw [owSet_ne hj] at h
    obtain ⟨h0, hf, ys, ds', h1, h2, h3, h4⟩ := R.own j b h
    exact ⟨h0, hf, ys, ds', by rw [List.getElem?_set_ne (Ne.symm hj)]; exact h1, s _ _ h2, olds h3, by rw [List.getElem?_set_ne (Ne.symm hj)]; exact h4⟩
  ·by_cases hj : j = i
   ·by_cases hj' : j' = i
    ·rw [hj, hj']
    ·subst hj
     rw [owSet_eq] at h
     cases h
     rw [owSet_ne hj'] at h'
     exact absurd h' (nota j')
   ·rw [owSet_ne hj] at h
    by_cases hj' : j' = i
    ·subst hj'
     rw [owSet_eq] at h'
     cases h'
     exact absurd h (nota j)
    ·rw [owSet_ne hj'] at h'
     exact R.inj j j' b h h'
  ·have hj : j ≠ i := fun z => by subst z; rw [hfl] at h; cases h
   rw [owSet_ne hj]
   exact R.pin j h
  ·rcases set_get h1 with ⟨rfl, e⟩ | ⟨hj, e⟩
   ·rw [owSet_eq] at h2; cases h2
   ·rw [owSet_ne hj] at h2
    obtain ⟨v', h3, h4⟩ := R.dat j d' e hn h2
    exact ⟨v', by rw [List.getElem?_set_ne (Ne.symm hj)]; exact h3, old h4⟩
  ·rcases set_get h1 with ⟨rfl, e⟩ | ⟨hj, e⟩
   ·rw [owSet_eq] at h3; cases h3
   ·rw [owSet_ne hj] at h3
    exact R.oo j d' e hn h2 h3
  ·by_cases hj : j' = i
   ·subst hj
    rw [owSet_eq] at h'
    cases h'
    exact (R.nt j a h).2.1.ne ha
   ·rw [owSet_ne hj] at h'; exact R.ns j j' b h h'
theorem Rel.mut {K : PySem.W.Frag} {G : Gh} {ow : Ow} {σ : St} {H : Hp} {δ : DS} {i : Nat} {a : Addr} {ys : List V} {ds : List D} (R : Rel K fl G ow σ H δ) (hfl : fl[i]? = some .O) (ho : ow i = some a) (r : RAs K (okA ow) true H ys ds) :
 Rel K fl G ow σ (upd H a (.lst ys)) (δ.set i (some (.d (.list ds)))) := by
 obtain ⟨h0, hz, xs, ds0, e1, e2, e3, e4⟩ := R.own i a ho
 have na : ¬ okA ow a := fun z => z.1 i ho
 have hF : G.HF a = none := by
  rcases hz with ⟨_, z⟩ | ⟨z, _⟩
  ·exact z
  ·rw [hfl] at z; cases z
 have hi : i < δ.length := by
  rcases Nat.lt_or_ge i δ.length with z | z
  ·exact z
  ·rw [List.getElem?_eq_none z] at e4; cases e4
 refine ⟨R.s0, fun b o hb => ?_, by rw [List.length_set]; exact R.len, fun j b h => ?_, R.inj, R.pin, fun j d' h1 hn h2 => ?_, fun j d' h1 hn h2 h3 => ?_, fun j b h => ?_, R.nd, R.ns, R.np, fun j d' hn h1 => ?_⟩
 ·rw [upd_ne (fun z => by subst z; rw [hF] at hb; cases hb)]
  exact R.s1 b o hb
 ·by_cases hj : j = i
  ·subst hj
   rw [ho] at h
   cases h
   exact ⟨h0, hz, ys, ds, e1, upd_same, r.upd e2 na, by rw [List.getElem?_set_self hi]⟩
  ·obtain ⟨h0', hf', zs, ds', h1, h2, h3, h4⟩ := R.own j b h
   have hb : b ≠ a := fun z => hj (R.inj j i a (z ▸ h) ho)
   exact ⟨h0', hf', zs, ds', h1, by rw [upd_ne hb]; exact h2, h3.upd e2 na, by rw [List.getElem?_set_ne (Ne.symm hj)]; exact h4⟩
 ·rcases set_get h1 with ⟨rfl, e⟩ | ⟨hj, e⟩
  ·rw [ho] at h2; cases h2
  ·obtain ⟨v', h3, h4⟩ := R.dat j d' e hn h2
   exact ⟨v', h3, h4.upd e2 na⟩
 ·rcases set_get h1 with ⟨rfl, e⟩ | ⟨hj, e⟩
  ·rw [ho] at h3; cases h3
  ·exact R.oo j d' e hn h2 h3
 ·obtain ⟨g1, g2, g3⟩ := R.nt j b h
  refine ⟨g1, ?_, g3⟩
  by_cases hb : b = a
  ·rw [hb, upd_same]; exact ⟨_, rfl, inferInstance⟩
  ·rw [upd_ne hb]; exact g2
 ·rcases set_get h1 with ⟨rfl, e⟩ | ⟨hj, e⟩
  ·rw [hfl] at hn; cases hn
  ·obtain ⟨v', h3, h4, h5⟩ := R.nr j d' hn e
   exact ⟨v', h3, h4.upd e2 (fun z => R.ns j i a z ho), h5⟩
theorem slot_lt {K : PySem.W.Frag} {G : Gh} {ow : Ow} {σ : St} {H : Hp} {δ : DS} {i : Nat} (R : Rel K fl G ow σ H δ) (h : i < δ.length) : i < σ.length := by rw [R.len]; exact h
theorem ds_setA {i : Nat} {x : Str} {pos' : Pos} (hfl : fl[i]? = some .A) (hN : X.N.Nodup) (hi : X.N[i]? = some x) (hv : X.env.scope.names.lookup x = some .local ∨ X.env.scope.names.lookup x = some .cell) (h : DE X fl .A e f)
 (hs : swapsWith e (some (.Name x pos')) pos.line X.env = pure false := by rfl) (hfn : X.fn x = true ∨ X.env.scope.names.lookup x = some .local := by first | exact .inl rfl | exact .inr rfl) :
 DS1 X fl (.Assign [.Name x pos'] e pos) (sSetl i f) := PS.imp (ps_set (i := i) hN hi hv h hs hfn) fun Dn σ H h => by
 obtain ⟨G, ow, δ, o, R, hf, q⟩ := h
 unfold sSetl at hf
 by_cases hl : i < δ.length
 ·rw [if_pos hl] at hf
  obtain ⟨d, e1, e2⟩ := bind1 hf
  cases e2
  exact ⟨G, ow, δ, d, R, e1, fun v H' s r => q ow _ H' ((R.grow s).setA hfl (slot_lt R hl) r)⟩
 ·rw [if_neg hl] at hf
  cases hf
theorem ds_setO {i : Nat} {x : Str} {pos' : Pos} (hfl : fl[i]? = some .O) (hN : X.N.Nodup) (hi : X.N[i]? = some x) (hv : X.env.scope.names.lookup x = some .local ∨ X.env.scope.names.lookup x = some .cell) (h : DE X fl .F e f)
 (hs : swapsWith e (some (.Name x pos')) pos.line X.env = pure false := by rfl) (hfn : X.fn x = true ∨ X.env.scope.names.lookup x = some .local := by first | exact .inl rfl | exact .inr rfl) :
 DS1 X fl (.Assign [.Name x pos'] e pos) (sSetl i f) := PS.imp (ps_set (i := i) hN hi hv h hs hfn) fun Dn σ H h => by
 obtain ⟨G, ow, δ, o, R, hf, q⟩ := h
 unfold sSetl at hf
 by_cases hl : i < δ.length
 ·rw [if_pos hl] at hf
  obtain ⟨d, e1, e2⟩ := bind1 hf
  cases e2
  refine ⟨G, ow, δ, d, R, e1, fun v H' s r => ?_⟩
  obtain ⟨ow', R'⟩ := R.setO s hfl (slot_lt R hl) r
  exact q ow' _ H' R'
 ·rw [if_neg hl] at hf
  cases hf
theorem dg_name {i : Nat} {x : Str} {pos : Pos} (hfl : fl[i]? = some .A) (hN : X.N.Nodup) (hi : X.N[i]? = some x) (hv : X.env.scope.names.lookup x = some .local ∨ X.env.scope.names.lookup x = some .cell)
 (hfn : X.fn x = true ∨ X.env.scope.names.lookup x = some .local := by first | exact .inl rfl | exact .inr rfl) : DG X fl [i] (.Name x pos) (gNl i) :=
 PG.imp (pg_name (i := i) hN hi hv hfn) fun v σ H Q h => by
 obtain ⟨G, ow, δ, d, δ', R, r, hf, q⟩ := h
 unfold gNl at hf
 by_cases hl : i < δ.length
 ·rw [if_pos hl] at hf
  cases hf
  exact q _ (R.setA hfl (slot_lt R hl) r) fun j hj => List.getElem?_set_ne (fun z => hj (by rw [z]; exact List.mem_singleton.mpr rfl))
 ·rw [if_neg hl] at hf
  cases hf
def tDGs (K : PySem.W.Frag) (fl : List Fl) (tg : List Nat) (g : List D → DS → Option DS) : TGs := fun vs σ H Q => ∃ G ow δ ds δ', Rel K fl G ow σ H δ ∧ RAs K (okA ow) true H vs ds ∧ g ds δ = some δ' ∧ ∀ σ', Rel K fl G ow σ' H δ' → (∀ j, j ∉ tg → σ'[j]? = σ[j]?) → Q σ' H
theorem PGs.imp {t t' : TGs} (h : PGs X es t) (i : ∀ v σ H Q, t' v σ H Q → t v σ H Q) : PGs X es t' := fun pins s σ H v u Q I r q => h pins s σ H v u Q I r (i v σ H Q q)
abbrev DGs (X : Cx) (fl : List Fl) (tg : List Nat) (es : List Expr) (g : List D → DS → Option DS) : Prop := PGs X es (tDGs X.K fl tg g)
theorem dgs_nil : DGs X fl [] [] gsNil := PGs.imp pgs_nil fun vs σ H Q h => by
 obtain ⟨G, ow, δ, ds, δ', R, r, hf, q⟩ := h
 cases r with
 | nil => cases hf; exact ⟨rfl, q σ R fun _ _ => rfl⟩
 | cons _ _ => cases hf
theorem dgs_cons {tg tg' : List Nat} {g : FG} {gs : List D → DS → Option DS} (h1 : DG X fl tg e g) (h2 : DGs X fl tg' es gs) (hs : (assignEach (e :: es) X.env).map (·.2) = assign e X.env :: (assignEach es X.env).map (·.2) := by rfl) :
 DGs X fl (tg ++ tg') (e :: es) (gsCons g gs) := PGs.imp (pgs_cons h1 h2 hs) fun vs σ H Q h => by
 obtain ⟨G, ow, δ, ds, δ', R, r, hf, q⟩ := h
 cases r with
 | nil => cases hf
 | cons r1 r2 =>
  obtain ⟨δ1, e1, e2⟩ := bind1 hf
  refine ⟨_, _, rfl, G, ow, δ, _, δ1, R, r1, e1, fun σ' R' k1 => ⟨G, ow, δ1, _, δ', R', r2, e2, fun σ'' R'' k2 => q σ'' R'' fun j hj => ?_⟩⟩
  rw [k2 j fun z => hj (List.mem_append_right _ z), k1 j fun z => hj (List.mem_append_left _ z)]
theorem dg_tup {tg : List Nat} {gs : List D → DS → Option DS} {k n : Nat} (hc : X.calm = true) (h : DGs X fl tg es gs) (hn : (assignEach es X.env).length = n := by rfl) (hst : (assignEach es X.env).findIdx? (·.1) = none := by rfl) :
 DG X fl tg (.Tuple es k pos) (gTn n gs) := PG.imp (pg_tup (n := n) hc h hn hst) fun v σ H Q h => by
 obtain ⟨G, ow, δ, d, δ', R, r, hf, q⟩ := h
 unfold gTn at hf
 split at hf
 ·next l =>
  by_cases z : l.length = n
  ·rw [if_pos z] at hf
   obtain ⟨a, xs, rfl, hx, hr⟩ := r.tupE
   exact ⟨a, xs, rfl, hx, by rw [hr.length]; exact z, G, ow, δ, l, δ', R, hr, hf, q⟩
  ·rw [if_neg z] at hf
   cases hf
 ·cases hf
theorem ds_asg {tg : List Nat} {g : FG} {t : Expr} (h : DE X fl .A e f) (hg : DG X fl tg t g) (hs : swapsWithSole [t] e pos.line X.env = pure false := by rfl) (hw : swappedStores [t] e X.env = pure none := by rfl)
 (h1 : (assignEach [t] X.env).map (·.2) = [assign t X.env] := by rfl) : DS1 X fl (.Assign [t] e pos) (sAsg f g) := PS.imp (ps_asg h hg hs hw h1) fun Dn σ H h => by
 obtain ⟨G, ow, δ, o, R, hf, q⟩ := h
 obtain ⟨d, e1, e2⟩ := bind1 hf
 obtain ⟨δ', e3, e4⟩ := bind1 e2
 cases e4
 exact ⟨G, ow, δ, d, R, e1, fun v H' s r => ⟨G, ow, δ, d, δ', R.grow s, r, e3, fun σ' R' _ => q ow σ' H' R'⟩⟩
end
end D3
namespace D3
open PySem PySem.Spec PyProof.Rows L2 My
section
variable {X : Cx} {fl : List Fl} {e a b c : Expr} {es : List Expr} {st : Stmt} {sts body orelse : List Stmt} {k : Kd} {f fa fb fc : FE} {fs gs : FS} {ft gt : FT} {pos : Pos}
theorem own_of {K : PySem.W.Frag} {G : Gh} {ow : Ow} {σ : St} {H : Hp} {δ : DS} {i : Nat} {l : List D} (R : Rel K fl G ow σ H δ) (hfl : fl[i]? = some .O) (h : dVar i δ = some (.list l)) :
 ∃ a xs, ow i = some a ∧ σ[i]? = some (some (.ref a)) ∧ H a = some (.lst xs) ∧ RAs K (okA ow) true H xs l := by
 have e := dVar_eq h
 cases ho : ow i with
 | none =>
  have z := R.oo i _ e (by rw [hfl]; rfl) (by rw [hfl]; simp) ho
  simp [flat] at z
 | some a =>
  obtain ⟨h0, _, xs, ds, h1, h2, h3, h4⟩ := R.own i a ho
  rw [e] at h4
  cases h4
  exact ⟨a, xs, rfl, h1, h2, h3⟩
theorem ds_append {i : Nat} {x : Str} {vpos apos cpos : Pos} (hfl : fl[i]? = some .O) (h : DE X fl .A e f) (hN : X.N[i]? = some x) (hv : Vis X.env.scope x := by first | exact Or.inl rfl | exact Or.inr (Or.inl rfl) | exact Or.inr (Or.inr rfl)) (hd : (x == ("__debug__" : Str)) = false := by decide)
 (hcd : (x == ("__classdict__" : Str)) = false := by decide)
 (hs : swapsWith (.Call (.Attribute (.Name x vpos) "append" apos) [e] [] cpos) none pos.line X.env = pure false := by rfl)
 (hbase : attributeBase (.Name x vpos) "append" X.env (eval (.Name x vpos) X.env) = eval (.Name x vpos) X.env := by rfl)
 (hfew : ((backTo cpos (starEach [e] X.env)).all (fun x => !x.1) && (backToKw cpos (keywordEach [] X.env)).all (fun x => x.1.isSome)
  && decide (([e] : List Expr).length + ([] : List Keyword).length + (if ([] : List Keyword).isEmpty then 0 else 1) < 30)) = true := by rfl)
 (hline : (apos.endLine == cpos.line) = true := by rfl) (hst : starEach [e] X.env = (false, eval e X.env) :: starEach [] X.env := by rfl) (hplain : (backTo cpos (starEach [] X.env)).any (·.1) = false := by rfl) :
 DS1 X fl (.Expr (.Call (.Attribute (.Name x vpos) "append" apos) [e] [] cpos) pos) (sApp i f) :=
 PS.imp (ps_expr (pe_bm PySem.F.plainAttrs_list PySem.F.slot_list_append PySem.F.type_list_append mt_append (pe_var hN hv hd hcd) (pa_cons h pa_nil hst) hbase hfew hline hst hplain) hs) fun Dn σ H h => by
 obtain ⟨G, ow, δ, o, R, hf, q⟩ := h
 obtain ⟨x, e1, hf1⟩ := bind1 hf
 obtain ⟨d, e2, hf2⟩ := bind1 hf1
 clear hf hf1
 have hf := hf2
 clear hf2
 split at hf
 case h_2 => cases hf
 next l =>
 by_cases hl : l.length < 1000000
 ·rw [if_pos hl] at hf
  cases hf
  obtain ⟨a, xs, ho, h1, h2, h3⟩ := own_of R hfl e1
  refine ⟨_, h1, .inl ⟨rfl, _, SqL.of h2⟩, G, ow, δ, d, R, e2, fun v H' s r => ?_⟩
  have R' := R.grow s
  refine ⟨a, xs, v, rfl, rfl, s _ _ h2, by rw [h3.length]; exact Nat.lt_trans hl (by decide), ?_⟩
  exact q ow σ _ (R'.mut hfl ho ((h3.same s).append (.cons r .nil)))
 ·rw [if_neg hl] at hf
  cases hf
theorem ds_put {i : Nat} {x : Str} {vpos spos : Pos} {ke : Expr} {fk : FE} (hfl : fl[i]? = some .O) (h : DE X fl .A e f) (hk : DE X fl .P ke fk) (hN : X.N[i]? = some x) (hv : Vis X.env.scope x := by first | exact Or.inl rfl | exact Or.inr (Or.inl rfl) | exact Or.inr (Or.inr rfl)) (hd : (x == ("__debug__" : Str)) = false := by decide)
 (hcd : (x == ("__classdict__" : Str)) = false := by decide) (ha : ∀ v, assign (.Subscript (.Name x vpos) ke spos) X.env v = (do
  let ov ← holding [v] (eval (.Name x vpos) X.env)
  let iv ← holding [v, ov] (eval ke X.env)
  standAt spos
  holding [v, ov, iv] (setItem ov iv v)
  release [v, ov, iv] []) := by intro _; rfl)
 (hs : swapsWithSole [.Subscript (.Name x vpos) ke spos] e pos.line X.env = pure false := by rfl) (hw : swappedStores [.Subscript (.Name x vpos) ke spos] e X.env = pure none := by rfl)
 (h1 : (assignEach [.Subscript (.Name x vpos) ke spos] X.env).map (·.2) = [assign (.Subscript (.Name x vpos) ke spos) X.env] := by rfl) :
 DS1 X fl (.Assign [.Subscript (.Name x vpos) ke spos] e pos) (sPut i fk f) :=
 PS.imp (ps_asg h (pg_sub (pe_var hN hv hd hcd) hk set_list ha) hs hw h1) fun Dn σ H h => by
 obtain ⟨G, ow, δ, o, R, hf, q⟩ := h
 obtain ⟨d, e2, hf1⟩ := bind1 hf
 obtain ⟨x, e1, hf2⟩ := bind1 hf1
 obtain ⟨k, e3, hf3⟩ := bind1 hf2
 clear hf hf1 hf2
 have hf := hf3
 clear hf3
 split at hf
 case h_2 => cases hf
 next l j =>
 obtain ⟨n, e4, e5⟩ := bind1 hf
 cases e5
 obtain ⟨a, xs, ho, h1, h2, h3⟩ := own_of R hfl e1
 refine ⟨G, ow, δ, d, R, e2, fun v H' s r => ⟨_, h1, G, ow, δ, _, R.grow s, e3, fun u H2 s2 r2 => ?_⟩⟩
 obtain rfl := RA.intE r2
 have R2 := R.grow (s.trans s2)
 refine ⟨a, xs, j, n, rfl, rfl, (s.trans s2) _ _ h2, by rw [h3.length]; exact e4, ?_⟩
 exact q ow σ _ (R2.mut hfl ho (RAs.set (RA.same s2 r) n (h3.same (s.trans s2))))
def WalkD (K : PySem.W.Frag) (ow : Ow) (L : List Nat) (H1 : Hp) (J : It) (l : List D) : Prop := ∀ H2 : Hp, (∀ b o, H1 b = some o → (∀ i, ow i = some b → i ∈ L) → (∀ i, b ∉ ow.n i) → H2 b = some o) → ∀ i : Nat,
 (∀ d, l[i]? = some d → J.go i H2 ∧ ∀ x H3, J.yld i H2 x H3 → Same H2 H3 ∧ RA K (fun b => okA ow b ∧ H1 b ≠ none) true H3 x d) ∧ (l.length ≤ i → J.stop i H2)
def tDI (K : PySem.W.Frag) (fl : List Fl) (L : List Nat) (fi : FA) : TI := fun σ H R' => ∃ G ow δ l, Rel K fl G ow σ H δ ∧ fi δ = some l ∧ ∀ J H1, Same H H1 → WalkD K ow L H1 J l → R' J H1
abbrev DI (X : Cx) (fl : List Fl) (L : List Nat) (tg iter : Expr) (fi : FA) : Prop := PI X tg iter (tDI X.K fl L fi)
theorem PI.imp {tg iter : Expr} {t t' : TI} (h : PI X tg iter t) (i : ∀ σ H R', t' σ H R' → t σ H R') : PI X tg iter t' := fun pins s σ H R' I q => h pins s σ H R' I (i σ H R' q)
section
variable {K : PySem.W.Frag} {ok : Ok} {pl : Bool} {H1 H2 : Hp} {ow : Ow} {L : List Nat}
theorem nm {b : Addr} {o : HO} (hl : ∀ i b, ow i = some b → ∃ xs, H1 b = some (.lst xs)) (h : H1 b = some o) (hn : ∀ xs, o ≠ .lst xs) : ∀ i, ow i = some b → i ∈ L := fun i e => by
 obtain ⟨xs, z⟩ := hl i b e
 rw [h] at z
 exact absurd (Option.some.inj z) (hn xs)
theorem nm2 {b : Addr} {o : HO} (hl : ∀ i b, b ∈ ow.n i → Chd (H1 b)) (h : H1 b = some o) (hn : Chg o → False) : ∀ i, b ∉ ow.n i := fun i e => by
 obtain ⟨u, z, c⟩ := hl i b e
 rw [h] at z
 cases z
 exact hn c
mutual
theorem RA.keep (hk : ∀ b o, H1 b = some o → (∀ i, ow i = some b → i ∈ L) → (∀ i, b ∉ ow.n i) → H2 b = some o) (hl : ∀ i b, ow i = some b → ∃ xs, H1 b = some (.lst xs)) (hm : ∀ i b, b ∈ ow.n i → Chd (H1 b)) (ho : ∀ b, ok b → okA ow b) : ∀ {v : V} {d : D}, RA K ok pl H1 v d → RA K ok pl H2 v d
 | _, _, .non => .non
 | _, _, .bl b => .bl b
 | _, _, .int i => .int i
 | _, _, .str x => .str x
 | _, _, .lst e k q => .lst (hk _ _ e (fun i z => absurd z ((ho _ k).1 i)) (ho _ k).2) k (RAs.keep hk hl hm ho q)
 | _, _, .lsk e k q => .lsk (by
  rcases e with ⟨o, e⟩ | e
  ·exact .inl ⟨o, hk _ _ e (nm hl e (by intro xs z; cases z)) (nm2 hm e Chg.frz)⟩
  ·exact .inr e) k (RAs.keep hk hl hm ho q)
 | _, _, .tup e q => .tup (hk _ _ e (nm hl e (by intro xs z; cases z)) (nm2 hm e Chg.tup)) (RAs.keep hk hl hm ho q)
 | _, _, .dic e k => .dic (hk _ _ e (fun i z => absurd z ((ho _ k).1 i)) (ho _ k).2) k
 | _, _, .dik e k => .dik (hk _ _ e (nm hl e (by intro xs z; cases z)) (nm2 hm e Chg.frz)) k
theorem RAs.keep (hk : ∀ b o, H1 b = some o → (∀ i, ow i = some b → i ∈ L) → (∀ i, b ∉ ow.n i) → H2 b = some o) (hl : ∀ i b, ow i = some b → ∃ xs, H1 b = some (.lst xs)) (hm : ∀ i b, b ∈ ow.n i → Chd (H1 b)) (ho : ∀ b, ok b → okA ow b) : ∀ {v : List V} {d : List D}, RAs K ok pl H1 v d → RAs K ok pl H2 v d
 | _, _, .nil => .nil
 | _, _, .cons e q => .cons (RA.keep hk hl hm ho e) (RAs.keep hk hl hm ho q)
end
end
theorem Rel.ownL {K : PySem.W.Frag} {G : Gh} {ow : Ow} {σ : St} {H : Hp} {δ : DS} (R : Rel K fl G ow σ H δ) : ∀ i b, ow i = some b → ∃ xs, H b = some (.lst xs) := fun i b e => by
 obtain ⟨_, _, xs, _, _, h2, _⟩ := R.own i b e
 exact ⟨xs, h2⟩
theorem Rel.ownC {K : PySem.W.Frag} {G : Gh} {ow : Ow} {σ : St} {H : Hp} {δ : DS} (R : Rel K fl G ow σ H δ) : ∀ i b, b ∈ ow.n i → Chd (H b) := fun i b e => (R.nt i b e).2.1
theorem walk_B {K : PySem.W.Frag} {G : Gh} {ow : Ow} {σ : St} {H Hb : Hp} {δ : DS} {L : List Nat} {v : V} {l : List D} (R : Rel K fl G ow σ H δ) (r : Rs K G.H0 ow Hb H (.B L) v (.list l)) : ∃ a xs, v = .ref a ∧ SqL K H a xs ∧
 ∀ H2 : Hp, (∀ b o, H b = some o → (∀ i, ow i = some b → i ∈ L) → (∀ i, b ∉ ow.n i) → H2 b = some o) → SqL K H2 a xs ∧ RAs K (fun b => okA ow b ∧ H b ≠ none) true H2 xs l := by
 rcases r with r | ⟨i, hi, a, xs, ds, ho, rfl, e, hx, hr⟩
 ·cases r with
  | lst e k q => exact ⟨_, _, rfl, SqL.of e, fun H2 hk => ⟨SqL.of (hk _ _ e (fun i z => absurd z (k.1 i)) k.2), RAs.keep hk R.ownL R.ownC (fun b z => z.1) q.track⟩⟩
  | lsk e k q => exact ⟨_, _, rfl, e.sq, fun H2 hk => ⟨SqK.sq (by
   rcases e with ⟨o, e⟩ | e
   ·exact .inl ⟨o, hk _ _ e (nm R.ownL e (by intro xs z; cases z)) (nm2 R.ownC e Chg.frz)⟩
   ·exact .inr e), RAs.keep hk R.ownL R.ownC (fun b z => z.1) q.track⟩⟩
 ·cases e
  exact ⟨a, xs, rfl, SqL.of hx, fun H2 hk => ⟨SqL.of (hk _ _ hx (fun j z => by rw [R.inj j i a z ho]; exact hi) (fun j z => R.ns j i a z ho)), RAs.keep hk R.ownL R.ownC (fun b z => z.1) hr.track⟩⟩
theorem di_list {tg : Expr} {L : List Nat} (h : DE X fl (.B L) e f) : DI X fl L tg e (fLst f) := PI.imp (pi_list h) fun σ H R' h => by
 obtain ⟨G, ow, δ, l, R, hf, q⟩ := h
 obtain ⟨d, e1, e2⟩ := bind1 hf
 cases d <;> first | (cases e2; done) | skip
 cases e2
 refine ⟨G, ow, δ, _, R, e1, fun v H1 s r => ?_⟩
 obtain ⟨a, xs, rfl, hx, keep⟩ := walk_B (R.grow s) r
 refine ⟨a, rfl, ⟨xs, hx⟩, q _ _ s fun H2 k2 i => ?_⟩
 obtain ⟨k3, k4⟩ := keep H2 k2
 refine ⟨fun d hd => ?_, fun hl => ⟨xs, k3, by rw [k4.length]; exact hl⟩⟩
 obtain ⟨y, hy, ry⟩ := k4.get hd
 refine ⟨⟨xs, y, k3, hy⟩, fun x H3 hyl => ?_⟩
 obtain ⟨e, hz⟩ := hyl
 subst e
 have : some y = some x := hy.symm.trans (hz xs k3)
 cases this
 exact ⟨Same.refl _, ry⟩
theorem rngD_len (lo hi : Int) : (rngD lo hi).length = (hi - lo).toNat := by simp [rngD]
theorem walk_rng {K : PySem.W.Frag} {ow : Ow} {L : List Nat} {H1 : Hp} (lo hi : Int) : WalkD K ow L H1 (Itr lo (hi - lo).toNat) (rngD lo hi) := by
 intro H2 _ i
 refine ⟨fun d hd => ?_, fun hl => by rw [rngD_len] at hl; exact hl⟩
 unfold rngD at hd
 rw [List.getElem?_map] at hd
 by_cases hi' : i < (hi - lo).toNat
 ·rw [List.getElem?_range hi'] at hd
  cases hd
  refine ⟨hi', fun x H3 hy => ?_⟩
  obtain ⟨e, e2⟩ := hy
  subst e e2
  exact ⟨Same.refl _, .int _⟩
 ·rw [List.getElem?_eq_none (by simpa using hi')] at hd
  cases hd
theorem rngG_ok {i : Int} (h : rngG i = true) : -(2 ^ 62) ≤ i ∧ i < 2 ^ 62 := by
 unfold rngG at h
 rw [Bool.and_eq_true] at h
 exact ⟨of_decide_eq_true h.1, of_decide_eq_true h.2⟩
theorem di_range1 {tg : Expr} {L : List Nat} {p : Pos} {fa : FA} (hg : Gl X "range") (hm : X.mg "range" = none) (h : DA X fl [a] fa) (hs : starEach [a] X.env = [(false, eval a X.env)] := by rfl) : DI X fl L tg (.Call (.Name "range" p) [a] [] pos) (fRng1 fa) :=
 PI.imp (pi_range1 hg hm h hs) fun σ H R' h => by
 obtain ⟨G, ow, δ, l, R, hf, q⟩ := h
 obtain ⟨ds, e1, e2⟩ := bind1 hf
 split at e2
 ·next j =>
  by_cases z : rngG j = true
  ·rw [if_pos z] at e2
   cases e2
   refine ⟨G, ow, δ, _, R, e1, fun vs H1 s r => ?_⟩
   cases r with
   | cons r1 r2 =>
    cases r2
    obtain rfl := r1.intE
    refine ⟨j, rfl, (rngG_ok z).1, (rngG_ok z).2, ?_⟩
    have w := walk_rng (K := X.K) (ow := ow) (L := L) (H1 := H1) 0 j
    rw [Int.sub_zero] at w
    exact q _ _ s w
  ·rw [if_neg z] at e2
   cases e2
 ·cases e2
def lock (L : List Nat) (fl : List Fl) : List Fl := fl.mapIdx fun i x => if x = .O ∧ i ∈ L then .L else x
theorem lock_get {L : List Nat} {i : Nat} : (lock L fl)[i]? = (fl[i]?).map fun x => if x = .O ∧ i ∈ L then .L else x := by
 unfold lock
 rw [List.getElem?_mapIdx]
theorem lock_A {L : List Nat} {i : Nat} : (lock L fl)[i]? = some .A ↔ fl[i]? = some .A := by
 rw [lock_get]
 cases h : fl[i]? with
 | none => simp
 | some x =>
  cases x <;> simp
  by_cases z : i ∈ L <;> simp [z]
theorem lock_O {L : List Nat} {i : Nat} (h : (lock L fl)[i]? = some .O) : fl[i]? = some .O ∧ i ∉ L := by
 rw [lock_get] at h
 cases e : fl[i]? with
 | none => rw [e] at h; simp at h
 | some x =>
  rw [e] at h
  cases x <;> simp at h
  by_cases z : i ∈ L
  ·simp [z] at h
  ·exact ⟨rfl, z⟩
theorem lock_L {L : List Nat} {i : Nat} (h : fl[i]? = some .L) : (lock L fl)[i]? = some .L := by
 rw [lock_get, h]
 simp
theorem lock_OL {L : List Nat} {i : Nat} (h : fl[i]? = some .O) (hi : i ∈ L) : (lock L fl)[i]? = some .L := by
 rw [lock_get, h]
 simp [hi]
theorem lock_OO {L : List Nat} {i : Nat} (h : fl[i]? = some .O) (hi : i ∉ L) : (lock L fl)[i]? = some .O := by
 rw [lock_get, h]
 simp [hi]
theorem lock_N {L : List Nat} {i : Nat} : (lock L fl)[i]? = some .N ↔ fl[i]? = some .N := by
 rw [lock_get]
 cases h : fl[i]? with
 | none => simp
 | some x =>
  cases x <;> simp
  by_cases z : i ∈ L <;> simp [z]
theorem lock_M {L : List Nat} {i : Nat} : (lock L fl)[i]? = some .M ↔ fl[i]? = some .M := by
 rw [lock_get]
 cases h : fl[i]? with
 | none => simp
 | some x =>
  cases x <;> simp
  by_cases z : i ∈ L <;> simp [z]
theorem lock_isN {L : List Nat} {i : Nat} : isN (lock L fl)[i]? = isN fl[i]? := by
 rw [lock_get]
 cases h : fl[i]? with
 | none => rfl
 | some x =>
  cases x <;> simp [isN]
  by_cases z : i ∈ L <;> simp [z]
def Let (fl' : List Fl) (ow : Ow) (b : Addr) : Prop := (∃ j, ow j = some b ∧ fl'[j]? = some .O) ∨ ∃ j, b ∈ ow.n j ∧ fl'[j]? = some .N
open Classical in
noncomputable def ghL (fl' : List Fl) (G : Gh) (ow : Ow) (H : Hp) : Gh := ⟨G.H0, fun b => if Let fl' ow b then none else H b, ow, ow.n, G.tb⟩
open Classical in
theorem ghL_out {fl' : List Fl} {G : Gh} {ow : Ow} {H : Hp} {b : Addr} (h : ¬ Let fl' ow b) : (ghL fl' G ow H).HF b = H b := by
 unfold ghL
 dsimp only
 rw [if_neg h]
open Classical in
theorem ghL_in {fl' : List Fl} {G : Gh} {ow : Ow} {H : Hp} {b : Addr} (h : Let fl' ow b) : (ghL fl' G ow H).HF b = none := by
 unfold ghL
 dsimp only
 rw [if_pos h]
theorem Rel.lock {K : PySem.W.Frag} {G : Gh} {ow : Ow} {σ : St} {H : Hp} {δ : DS} (L : List Nat) (R : Rel K fl G ow σ H δ) : Rel K (lock L fl) (ghL (lock L fl) G ow H) ow σ H δ := by
 refine ⟨fun b o hb => ?_, fun b o hb => ?_, R.len, fun i a h => ?_, R.inj, fun i h => rfl, fun i d h1 hn h2 => R.dat i d h1 (by rw [lock_isN] at hn; exact hn) h2, fun i d h1 hn h2 h3 => R.oo i d h1 (by rw [lock_isN] at hn; exact hn) (fun z => h2 (lock_A.mpr z)) h3, fun i a h => ?_, R.nd, R.ns, fun i h => rfl, fun i d hn h1 => R.nr i d (by rw [lock_isN] at hn; exact hn) h1⟩
 ·have hb' : G.H0 b = some o := hb
  rw [ghL_out]
  ·exact R.same0 b o hb'
  ·rintro (⟨j, e, _⟩ | ⟨j, e, _⟩)
   ·have := (R.own j b e).1
    rw [hb'] at this
    cases this
   ·have := (R.nt j b e).1
    rw [hb'] at this
    cases this
 ·by_cases z : Let (D3.lock L fl) ow b
  ·rw [ghL_in z] at hb; cases hb
  ·rw [ghL_out z] at hb; exact hb
 ·obtain ⟨h0, hf, xs, ds, h1, h2, h3, h4⟩ := R.own i a h
  refine ⟨h0, ?_, xs, ds, h1, h2, h3, h4⟩
  have out : (D3.lock L fl)[i]? = some .L → (ghL (D3.lock L fl) G ow H).HF a = H a := fun hl => ghL_out (by
   rintro (⟨j, e, hj⟩ | ⟨j, e, hj⟩)
   ·rw [R.inj j i a e h, hl] at hj
    cases hj
   ·exact R.ns j i a e h)
  rcases hf with ⟨hf, _⟩ | ⟨hf, _⟩
  ·by_cases hi : i ∈ L
   ·exact .inr ⟨lock_OL hf hi, xs, by rw [out (lock_OL hf hi)]; exact h2⟩
   ·exact .inl ⟨lock_OO hf hi, ghL_in (.inl ⟨i, h, lock_OO hf hi⟩)⟩
  ·exact .inr ⟨lock_L hf, xs, by rw [out (lock_L hf)]; exact h2⟩
 ·obtain ⟨g1, g2, g3⟩ := R.nt i a h
  refine ⟨g1, g2, ?_⟩
  rcases g3 with ⟨z, _⟩ | z
  ·exact .inl ⟨lock_N.mpr z, ghL_in (.inr ⟨i, h, lock_N.mpr z⟩)⟩
  ·exact .inr (lock_M.mpr z)
theorem Rel.unlock {K : PySem.W.Frag} {G : Gh} {ow ow' : Ow} {σ σ' : St} {H H' : Hp} {δ δ' : DS} {L : List Nat} (R : Rel K fl G ow σ H δ) (R' : Rel K (D3.lock L fl) (ghL (D3.lock L fl) G ow H) ow' σ' H' δ') : Rel K fl G ow' σ' H' δ' := by
 have sub : Same G.HF (ghL (D3.lock L fl) G ow H).HF := fun b o hb => by
  rw [ghL_out]
  ·exact R.s1 b o hb
  ·rintro (⟨j, e, hj⟩ | ⟨j, e, hj⟩)
   ·rcases (R.own j b e).2.1 with ⟨_, z⟩ | ⟨z, _⟩
    ·rw [hb] at z; cases z
    ·have := (lock_O hj).1
     rw [z] at this
     cases this
   ·rcases (R.nt j b e).2.2 with ⟨_, z⟩ | z
    ·rw [hb] at z; cases z
    ·have := lock_N.mp hj
     rw [z] at this
     cases this
 refine ⟨R.s0, sub.trans R'.s1, R'.len, fun i a h => ?_, R'.inj, fun i h => ?_, fun i d h1 hn h2 => R'.dat i d h1 (by rw [lock_isN]; exact hn) h2, fun i d h1 hn h2 h3 => R'.oo i d h1 (by rw [lock_isN]; exact hn) (fun z => h2 (lock_A.mp z)) h3, fun i a h => ?_, R'.nd, R'.ns, fun i h => ?_, fun i d hn h1 => R'.nr i d (by rw [lock_isN]; exact hn) h1⟩
 ·obtain ⟨h0, hf, rest⟩ := R'.own i a h
  refine ⟨h0, ?_, rest⟩
  rcases hf with ⟨hf, hz⟩ | ⟨hf, _⟩
  ·exact .inl ⟨(lock_O hf).1, sub.free hz⟩
  ·have e : ow' i = ow i := R'.pin i hf
   rw [e] at h
   exact (R.own i a h).2.1
 ·have e : ow' i = ow i := R'.pin i (lock_L h)
  rw [e]
  exact R.pin i h
 ·obtain ⟨g1, g2, g3⟩ := R'.nt i a h
  rcases g3 with ⟨z, hz⟩ | z
  ·exact ⟨g1, g2, .inl ⟨lock_N.mp z, sub.free hz⟩⟩
  ·exact ⟨g1, g2, .inr (lock_M.mp z)⟩
 ·have e : ow'.n i = ow.n i := R'.np i (lock_M.mpr h)
  rw [e]
  exact R.np i h
theorem ds_for {tg iter : Expr} {L : List Nat} {T : List Nat} {fi : FA} {g : FG} (hp : PassesOwn (model X.prog X.w) X.A X.env X.xe) (hc : X.calm = true) (hi : DI X fl L tg iter fi) (hg : DG X (lock L fl) T tg g) (hb : DSs X (lock L fl) body fs)
 (hs : ∀ x, foldedSetIterable iter X.env x = pure x := by intro _; rfl) : DS1 X fl (.For tg iter body [] pos) (sFor fi g fs) := PS.imp (ps_for hp hc hi hg hb hs) fun Dn σ H h => by
 obtain ⟨G, ow, δ, o, R0, hf, q⟩ := h
 obtain ⟨l, e1, e2⟩ := bind1 hf
 refine ⟨G, ow, δ, l, R0, e1, fun J H1 s wk => ?_⟩
 have R1 := R0.grow s
 have RL := R1.lock L
 refine ⟨fun i m σ' H' => m = l.length - i ∧ ∃ ow' δ', Rel X.K (lock L fl) (ghL (lock L fl) G ow H1) ow' σ' H' δ' ∧ forD g fs (l.drop i) δ' = some o, ⟨_, rfl, ow, δ, RL, by simpa using e2⟩, ?_⟩
 rintro i m σ' H' ⟨rfl, ow', δ', R', hd⟩
 have kept : ∀ b o, H1 b = some o → (∀ i, ow i = some b → i ∈ L) → (∀ i, b ∉ ow.n i) → H' b = some o := fun b o hb hl hn => R'.s1 b o (by
  rw [ghL_out]
  ·exact hb
  ·rintro (⟨j, e, hj⟩ | ⟨j, e, _⟩)
   ·exact (lock_O hj).2 (hl j e)
   ·exact hn j e)
 obtain ⟨w1, w2⟩ := wk H' kept i
 by_cases hlt : i < l.length
 ·have hdrop : l.drop i = l[i] :: l.drop (i + 1) := List.drop_eq_getElem_cons hlt
  rw [hdrop, forD] at hd
  obtain ⟨δ1, e3, hd⟩ := bind1 hd
  obtain ⟨o1, e4, hd⟩ := bind1 hd
  obtain ⟨go, yl⟩ := w1 l[i] (List.getElem?_eq_getElem hlt)
  refine .inr ⟨go, fun σ' H' => ∃ ow' δ', Rel X.K (lock L fl) (ghL (lock L fl) G ow H1) ow' σ' H' δ' ∧ forD g fs (l.drop (i + 1)) δ' = some o, fun σ2 H2 ⟨ow2, δ2, R2, h2⟩ => ⟨l.length - (i + 1), by omega, rfl, ow2, δ2, R2, h2⟩, fun x H3 hy => ?_⟩
  obtain ⟨s3, r3⟩ := yl x H3 hy
  have sub : ∀ b, okA ow b ∧ H1 b ≠ none → okA ow' b := fun b z => by
   obtain ⟨z1, z2⟩ := z
   refine ⟨fun j e => ?_, fun j e => ?_⟩
   ·rcases (R'.own j b e).2.1 with ⟨_, hz⟩ | ⟨hz, _⟩
    ·have : (ghL (lock L fl) G ow H1).HF b = H1 b := ghL_out (by rintro (⟨j', e', _⟩ | ⟨j', e', _⟩); exact z1.1 j' e'; exact z1.2 j' e')
     rw [this] at hz
     exact z2 hz
    ·have e' : ow' j = ow j := R'.pin j hz
     rw [e'] at e
     exact z1.1 j e
   ·rcases (R'.nt j b e).2.2 with ⟨_, hz⟩ | w
    ·have : (ghL (lock L fl) G ow H1).HF b = H1 b := ghL_out (by rintro (⟨j', e', _⟩ | ⟨j', e', _⟩); exact z1.1 j' e'; exact z1.2 j' e')
     rw [this] at hz
     exact z2 hz
    ·have e' : ow'.n j = ow.n j := R'.np j w
     rw [e'] at e
     exact z1.2 j e
  refine ⟨_, ow', δ', _, δ1, R'.grow s3, r3.imp sub (fun z => z), e3, fun σ4 R4 _ => ⟨_, ow', δ1, o1, R4, e4, ?_⟩⟩
  ·cases o1 with
   | nx δ2 => exact fun ow2 σ2 H2 R2 => ⟨ow2, δ2, R2, hd⟩
   | ct δ2 => exact fun ow2 σ2 H2 R2 => ⟨ow2, δ2, R2, hd⟩
   | bk δ2 => cases hd; exact fun ow2 σ2 H2 R2 => q ow2 σ2 H2 (R1.unlock R2)
   | rt d => cases hd; exact q
   | ex c f v => cases hd; exact q
 ·have e : l.drop i = [] := List.drop_eq_nil_of_le (by omega)
  rw [e, forD] at hd
  cases hd
  exact .inl ⟨w2 (by omega), q ow' σ' H' (R1.unlock R')⟩
theorem ds_while (hp : PassesOwn (model X.prog X.w) X.A X.env X.xe) (hc : DT X fl c ft) (hb : DSs X fl body fs) : DS1 X fl (.While c body [] pos) (sWhile ft fs) := PS.imp (ps_while hp hc hb) fun Dn σ H h => by
 obtain ⟨G, ow, δ, o, R0, hf, q⟩ := h
 obtain ⟨n, hn⟩ := sWhile_inv hf
 refine ⟨fun m σ' H' => ∃ ow' δ', Rel X.K fl G ow' σ' H' δ' ∧ whileD ft fs m δ' = some o, ⟨n, ow, δ, R0, hn⟩, ?_⟩
 rintro m σ' H' ⟨ow', δ', R', hw⟩
 cases m with
 | zero => simp [whileD] at hw
 | succ m =>
  rw [whileD] at hw
  obtain ⟨t, e1, hw⟩ := bind1 hw
  refine ⟨G, ow', δ', t, R', e1, fun H1 s => ?_⟩
  cases t with
  | false =>
   rw [if_neg Bool.false_ne_true] at hw ⊢
   cases hw
   exact q ow' σ' H1 (R'.grow s)
  | true =>
   rw [if_pos rfl] at hw ⊢
   obtain ⟨o1, e2, hw⟩ := bind1 hw
   refine ⟨fun σ2 H2 => ∃ ow2 δ2, Rel X.K fl G ow2 σ2 H2 δ2 ∧ whileD ft fs m δ2 = some o, fun σ2 H2 ⟨ow2, δ2, R2, h2⟩ => ⟨m, Nat.lt_succ_self m, ow2, δ2, R2, h2⟩, G, ow', δ', o1, R'.grow s, e2, ?_⟩
   cases o1 with
   | nx δ2 => exact fun ow2 σ2 H2 R2 => ⟨ow2, δ2, R2, hw⟩
   | ct δ2 => exact fun ow2 σ2 H2 R2 => ⟨ow2, δ2, R2, hw⟩
   | bk δ2 => cases hw; exact q
   | rt d => cases hw; exact q
   | ex c f v => cases hw; exact q
end
end D3
namespace D3
open PySem PySem.Spec PyProof.Rows L2 My
def notStar : Expr → Bool
 | .Starred _ _ => false
 | _ => true
theorem star_of {e : Expr} {es : List Expr} {env : Env} (h : notStar e = true) : starEach (e :: es) env = (false, eval e env) :: starEach es env := by
 cases e <;> first | rfl | cases h
theorem pl_of {es : List Expr} {env : Env} {pos : Pos} (h : es.all notStar = true) : (backTo pos (starEach es env)).any (·.1) = false := by
 induction es with
 | nil => rfl
 | cons e es ih =>
  rw [List.all_cons, Bool.and_eq_true] at h
  rw [star_of h.1]
  have := ih h.2
  unfold backTo at this ⊢
  rw [List.map_cons, List.any_cons, this]
  rfl
def isR : Kd → Bool
 | .P => true
 | .A => true
 | .R => true
 | .C => true
 | _ => false
def okOf (H0 : Hp) (ow : Ow) (Hb : Hp) : Kd → Ok
 | .P => ok1
 | .A => okA ow
 | .R => okN H0
 | _ => okN Hb
def plOf : Kd → Bool
 | .P => true
 | .A => true
 | _ => false
section
variable {K : PySem.W.Frag} {H0 Hb Hc H : Hp} {ow : Ow} {v : V} {d : D} {k : Kd}
theorem Rs.ra (hk : isR k = true) (h : Rs K H0 ow Hb H k v d) : RA K (okOf H0 ow Hb k) (plOf k) H v d := by
 cases k <;> first | exact h | cases hk
theorem Rs.of_ra (hk : isR k = true) (h : RA K (okOf H0 ow Hb k) (plOf k) H v d) : Rs K H0 ow Hb H k v d := by
 cases k <;> first | exact h | cases hk
theorem okOf_back (s : Same Hb Hc) (hk : isR k = true) : ∀ a, okOf H0 ow Hc k a → okOf H0 ow Hb k a := fun a z => by
 cases k <;> first | exact z | exact s.free z | cases hk
theorem Rs.of_flat (hf : flat d = true) (h : RA K ok0 false H v d) : Rs K H0 ow Hb H k v d := by
 cases k with
 | P => exact RA.flat hf h
 | B L => exact .inl (RA.flat hf h)
 | A => exact RA.flat hf h
 | R => exact RA.flat hf h
 | F => exact .inl ⟨hf, h⟩
 | C => exact RA.flat hf h
 | FC => exact .inl ⟨hf, h⟩
 | T =>
  obtain ⟨as, h1, _, h3⟩ := RA.rt h
  cases as with
  | nil => exact ⟨[], h1, .nil, fun _ z => by cases z⟩
  | cons a r => exact (h3 a List.mem_cons_self).elim
theorem Rs.back (s : Same Hb Hc) (h : Rs K H0 ow Hc H k v d) : Rs K H0 ow Hb H k v d := by
 cases k with
 | P => exact h
 | B L => exact h
 | A => exact h
 | R => exact h
 | F =>
  rcases h with h | ⟨a, xs, ds, h1, h2, h3, h4⟩
  ·exact .inl h
  ·exact .inr ⟨a, xs, ds, h1, h2, s.free h3, h4⟩
 | C => exact RA.imp (fun a z => s.free z) (fun z => z) h
 | FC =>
  rcases h with h | ⟨a, xs, ds, h1, h2, h3, h4, h5⟩
  ·exact .inl h
  ·exact .inr ⟨a, xs, ds, h1, h2, s.free h3, h4, h5.imp (fun b z => ⟨s.free z.1, z.2⟩) (fun z => z)⟩
 | T =>
  obtain ⟨as, h1, h2, h3⟩ := h
  exact ⟨as, h1, h2, fun a z => s.free (h3 a z)⟩
end
def tDB (K : PySem.W.Frag) (fl : List Fl) (k : Kd) (f : FA) : TA := fun σ H Q => ∃ G ow δ ds, Rel K fl G ow σ H δ ∧ f δ = some ds ∧ ∀ vs H', Same H H' → RAs K (okOf G.H0 ow H k) (plOf k) H' vs ds → Q vs H'
abbrev DB (X : Cx) (fl : List Fl) (k : Kd) (es : List Expr) (f : FA) : Prop := PA X es (tDB X.K fl k f)
section
variable {X : Cx} {fl : List Fl} {e a b c : Expr} {es rest : List Expr} {k : Kd} {f fa fb fc : FE} {ft gt : FT} {pos : Pos}
theorem db_nil : DB X fl k [] dNil := PA.imp pa_nil fun σ H Q h => by
 obtain ⟨G, ow, δ, ds, R, hf, q⟩ := h
 cases hf
 exact q [] H (Same.refl H) .nil
theorem db_cons {fr : FA} (hk : isR k = true) (h : DE X fl k e f) (hr : DB X fl k es fr) (hs : starEach (e :: es) X.env = (false, eval e X.env) :: starEach es X.env := by exact star_of rfl) : DB X fl k (e :: es) (dCons f fr) := PA.imp (pa_cons h hr hs) fun σ H Q h => by
 obtain ⟨G, ow, δ, ds, R, hf, q⟩ := h
 obtain ⟨d, e1, hf⟩ := bind1 hf
 obtain ⟨r, e2, hf⟩ := bind1 hf
 cases hf
 refine ⟨G, ow, δ, d, R, e1, fun v H1 s1 r1 => ⟨G, ow, δ, r, R.grow s1, e2, fun vs H2 s2 r2 => ?_⟩⟩
 exact q _ H2 (s1.trans s2) (.cons ((r1.ra hk).same s2) (r2.imp (okOf_back s1 hk) (fun z => z)))
theorem da_of (h : DB X fl .P es fa') : DA X fl es fa' := PA.imp h fun σ H Q h => by
 obtain ⟨G, ow, δ, ds, R, hf, q⟩ := h
 exact ⟨G, ow, δ, ds, R, hf, fun vs H' s r => q vs H' s r⟩
theorem de_tup {x1} {fa : FA} (hk : isR k = true) (h : DB X fl k es fa) : DE X fl k (.Tuple es x1 pos) (dTup fa) := PE.imp (pe_tup h) fun σ H Q h => by
 obtain ⟨G, ow, δ, d, R, hf, q⟩ := h
 obtain ⟨l, e1, e2⟩ := bind1 hf
 by_cases z : l.length ≤ sizeLine
 ·rw [if_pos z] at e2
  cases e2
  refine ⟨G, ow, δ, l, R, e1, fun vs H' s r => ⟨by rw [r.length]; exact z, fun p hp => ?_⟩⟩
  have g := same_new hp (.tup vs)
  exact q _ _ (s.trans g) (Rs.of_ra hk (.tup upd_same (r.same g)))
 ·rw [if_neg z] at e2
  cases e2
theorem de_lstA {fa : FA} (h : DB X fl .A es fa) : DE X fl .F (.List es pos) (dLst fa) := PE.imp (pe_lst h) fun σ H Q h => by
 obtain ⟨G, ow, δ, d, R, hf, q⟩ := h
 obtain ⟨l, e1, e2⟩ := bind1 hf
 by_cases z : l.length ≤ sizeLine
 ·rw [if_pos z] at e2
  cases e2
  refine ⟨G, ow, δ, l, R, e1, fun vs H' s r => ⟨by rw [r.length]; exact z, fun p hp => ?_⟩⟩
  have g := same_new hp (.lst vs)
  exact q _ _ (s.trans g) (.inr ⟨p, vs, l, rfl, rfl, s.free hp, upd_same, (r.track.imp (fun b w => ⟨w.1, fun e => w.2 (e ▸ hp)⟩) (fun z => z)).same g⟩)
 ·rw [if_neg z] at e2
  cases e2
theorem de_lstC {fa : FA} (h : DB X fl .C es fa) : DE X fl .FC (.List es pos) (dLst fa) := PE.imp (pe_lst h) fun σ H Q h => by
 obtain ⟨G, ow, δ, d, R, hf, q⟩ := h
 obtain ⟨l, e1, e2⟩ := bind1 hf
 by_cases z : l.length ≤ sizeLine
 ·rw [if_pos z] at e2
  cases e2
  refine ⟨G, ow, δ, l, R, e1, fun vs H' s r => ⟨by rw [r.length]; exact z, fun p hp => ?_⟩⟩
  have g := same_new hp (.lst vs)
  exact q _ _ (s.trans g) (.inr ⟨p, vs, l, rfl, rfl, s.free hp, upd_same, (r.track.imp (fun b w => ⟨w.1, fun e => w.2 (e ▸ hp)⟩) (fun z => z)).same g⟩)
 ·rw [if_neg z] at e2
  cases e2
theorem RAs.at {K : PySem.W.Frag} {ok : Ok} {pl : Bool} {H : Hp} {vs : List V} {l : List D} {i : Int} {d : D} (r : RAs K ok pl H vs l) (h : pAt l i = some d) : ∃ v, atI vs i = some v ∧ RA K ok pl H v d := by
 unfold pAt at h
 unfold atI
 obtain ⟨j, e1, e2⟩ := bind1 h
 obtain ⟨y, e3, ry⟩ := r.get e2
 exact ⟨y, by rw [r.length, show ixN l.length i = some j from e1]; exact e3, ry⟩
theorem de_ix {L : List Nat} (ha : DE X fl (.B L) a fa) (hb : DE X fl .P b fb) (hs : PlainIx b) : DE X fl .A (.Subscript a b pos) (dOp gIx fa fb) := PE.imp (pe_ix ix_seq ha hb hs) fun σ H Q h => by
 obtain ⟨G, ow, δ, d, R, hf, q⟩ := h
 obtain ⟨x, y, e1, e2, e3⟩ := bind2 hf
 refine ⟨G, ow, δ, x, R, e1, fun v H1 s1 r1 => ⟨G, ow, δ, y, R.grow s1, e2, fun u H2 s2 r2 => ?_⟩⟩
 unfold gIx at e3
 split at e3
 ·next l i =>
  obtain rfl := RA.intE r2
  rcases r1 with r1 | ⟨i', _, p, xs, ds, ho, rfl, ez, hx, hr⟩
  ·obtain ⟨p, xs, rfl, hx, hr⟩ := RA.lstE (RA.same s2 r1)
   obtain ⟨z, ez, rz⟩ := hr.at e3
   exact .inl ⟨p, xs, i, z, rfl, rfl, hx, ez, q z H2 (s1.trans s2) rz⟩
  ·cases ez
   obtain ⟨z, ez, rz⟩ := (hr.same s2).at e3
   exact .inl ⟨p, xs, i, z, rfl, rfl, SqL.of (s2 _ _ hx), ez, q z H2 (s1.trans s2) rz⟩
 ·next l i =>
  obtain rfl := RA.intE r2
  rcases r1 with r1 | ⟨i', _, p, xs, ds, ho, rfl, ez, hx, hr⟩
  ·obtain ⟨p, xs, rfl, hx, hr⟩ := RA.tupE (RA.same s2 r1)
   obtain ⟨z, ez, rz⟩ := hr.at e3
   exact .inr (.inl ⟨p, xs, i, z, rfl, rfl, hx, ez, q z H2 (s1.trans s2) rz⟩)
  ·cases ez
 ·cases e3
theorem de_one {op : BoolOp} (h : DE X fl k a f) : DE X fl k (.BoolOp op [a] pos) f := pe_one h
theorem de_and (h1 : DE X fl .P a fa) (h2 : DE X fl k (.BoolOp .And (b :: rest) pos) fb) : DE X fl k (.BoolOp .And (a :: b :: rest) pos) (dAnd fa fb) := PE.imp (pe_and h1 h2) fun σ H Q h => by
 obtain ⟨G, ow, δ, d, R, hf, q⟩ := h
 obtain ⟨x, e1, e2⟩ := bind1 hf
 refine ⟨G, ow, δ, x, R, e1, fun v H1 s1 r1 => ?_⟩
 split at e2
 ·obtain rfl := RA.blE r1
  exact ⟨true, rfl, iteT ⟨G, ow, δ, d, R.grow s1, e2, fun u H2 s2 r2 => q u H2 (s1.trans s2) (r2.back s1)⟩⟩
 ·obtain rfl := RA.blE r1
  cases e2
  exact ⟨false, rfl, iteF (q _ H1 s1 (Rs.of_flat rfl (.bl _)))⟩
 ·cases e2
theorem de_not (h1 : DE X fl .P a fa) : DE X fl .FC (.UnaryOp .Not a pos) (dNot fa) := PE.imp (pe_not h1) fun σ H Q h => by
 obtain ⟨G, ow, δ, d, R, hf, q⟩ := h
 obtain ⟨x, e1, e2⟩ := bind1 hf
 refine ⟨G, ow, δ, x, R, e1, fun v H1 s1 r1 => ?_⟩
 split at e2
 ·next c =>
  obtain rfl := RA.blE r1
  cases e2
  exact ⟨c, rfl, q _ H1 s1 (Rs.of_flat rfl (.bl _))⟩
 ·cases e2
theorem dt_not (h : DT X fl a ft) : DT X fl (.UnaryOp .Not a pos) (tNot ft) := PT.imp (pt_not h) fun σ H Q h => by
 obtain ⟨G, ow, δ, t, R, hf, q⟩ := h
 unfold tNot at hf
 cases e : ft δ with
 | none => rw [e] at hf; cases hf
 | some x =>
  rw [e] at hf
  cases hf
  exact ⟨G, ow, δ, x, R, e, fun H' s => q H' s⟩
theorem dw_and1 (h : DT X fl a ft) : DW X fl (.BoolOp .And [a] pos) ft := pw_and1 h
theorem dw_or1 (h : DT X fl a ft) : DW X fl (.BoolOp .Or [a] pos) ft := pw_or1 h
theorem dw_and (h1 : DT X fl a ft) (h2 : DW X fl (.BoolOp .And (b :: rest) pos) gt) : DW X fl (.BoolOp .And (a :: b :: rest) pos) (tAnd ft gt) := PW.imp (pw_and h1 h2) fun σ H Q h => by
 obtain ⟨G, ow, δ, t, R, hf, q⟩ := h
 obtain ⟨x, e1, e2⟩ := bind1 hf
 refine ⟨G, ow, δ, x, R, e1, fun H1 s1 => ?_⟩
 cases x with
 | true => exact iteT ⟨G, ow, δ, t, R.grow s1, e2, fun H2 s2 => q H2 (s1.trans s2)⟩
 | false => cases e2; exact iteF (q H1 s1)
theorem dw_or (h1 : DT X fl a ft) (h2 : DW X fl (.BoolOp .Or (b :: rest) pos) gt) : DW X fl (.BoolOp .Or (a :: b :: rest) pos) (tOr ft gt) := PW.imp (pw_or h1 h2) fun σ H Q h => by
 obtain ⟨G, ow, δ, t, R, hf, q⟩ := h
 obtain ⟨x, e1, e2⟩ := bind1 hf
 refine ⟨G, ow, δ, x, R, e1, fun H1 s1 => ?_⟩
 cases x with
 | true => cases e2; exact iteT (q H1 s1)
 | false => exact iteF ⟨G, ow, δ, t, R.grow s1, e2, fun H2 s2 => q H2 (s1.trans s2)⟩
theorem dt_w (h : DW X fl a ft) : DT X fl a ft := PW.pt h
theorem de_chain {op op' : CmpOp} {r r' : R2} {g g' : D → D → Option D} (ho : OpR X (compareOp op) r) (ho' : OpR X (compareOp op') r') (hb : BrO X.K r g) (hb' : BrO X.K r' g') (h1 : DE X fl .P a fa) (h2 : DE X fl .P b fb) (h3 : DE X fl .P c fc)
 (hm : lastMarks [op, op'] [b, c] = false := by with_unfolding_all rfl) : DE X fl .FC (.Compare a [op, op'] [b, c] pos) (dChain g g' fa fb fc) := PE.imp (pe_chain ho ho' h1 h2 h3 hm) fun σ H Q h => by
 obtain ⟨G, ow, δ, d, R, hf, q⟩ := h
 obtain ⟨x, e1, hf⟩ := bind1 hf
 obtain ⟨y, e2, hf⟩ := bind1 hf
 obtain ⟨z, e3, hf⟩ := bind1 hf
 refine ⟨G, ow, δ, x, R, e1, fun v H1 s1 r1 => ⟨G, ow, δ, y, R.grow s1, e2, fun u H2 s2 r2 => ?_⟩⟩
 refine hb H2 v u x y z _ (RA.same s2 r1) r2 e3 fun zv hz rz => ?_
 split at hf
 ·obtain rfl := rz.blE
  obtain ⟨w, e4, e5⟩ := bind1 hf
  refine ⟨true, rfl, iteT ⟨G, ow, δ, w, R.grow (s1.trans s2), e4, fun wv H3 s3 r3 => ?_⟩⟩
  exact hb' H3 u wv y w d Q (RA.same s3 r2) r3 e5 fun z hz rz => q z H3 (s1.trans (s2.trans s3)) (.inl ⟨hz, rz⟩)
 ·obtain rfl := rz.blE
  cases hf
  exact ⟨false, rfl, iteF (q _ H2 (s1.trans s2) (.inl ⟨rfl, .bl _⟩))⟩
 ·cases hf
theorem de_chain3 {op op' op'' : CmpOp} {r r' r'' : R2} {g g' g'' : D → D → Option D} {d : Expr} {fd : FE} (ho : OpR X (compareOp op) r) (ho' : OpR X (compareOp op') r') (ho'' : OpR X (compareOp op'') r'') (hb : BrO X.K r g) (hb' : BrO X.K r' g') (hb'' : BrO X.K r'' g'') (h1 : DE X fl .P a fa) (h2 : DE X fl .P b fb) (h3 : DE X fl .P c fc) (h4 : DE X fl .P d fd)
 (hm : lastMarks [op, op', op''] [b, c, d] = false := by with_unfolding_all rfl) : DE X fl .FC (.Compare a [op, op', op''] [b, c, d] pos) (dChain3 g g' g'' fa fb fc fd) := PE.imp (pe_chain3 ho ho' ho'' h1 h2 h3 h4 hm) fun σ H Q h => by
 obtain ⟨G, ow, δ, dd, R, hf, q⟩ := h
 obtain ⟨x, e1, hf⟩ := bind1 hf
 obtain ⟨y, e2, hf⟩ := bind1 hf
 obtain ⟨z, e3, hf⟩ := bind1 hf
 refine ⟨G, ow, δ, x, R, e1, fun v H1 s1 r1 => ⟨G, ow, δ, y, R.grow s1, e2, fun u H2 s2 r2 => ?_⟩⟩
 refine hb H2 v u x y z _ (RA.same s2 r1) r2 e3 fun zv hz rz => ?_
 split at hf
 ·obtain rfl := rz.blE
  obtain ⟨w, e4, hf⟩ := bind1 hf
  obtain ⟨z', e5, hf⟩ := bind1 hf
  refine ⟨true, rfl, iteT ⟨G, ow, δ, w, R.grow (s1.trans s2), e4, fun wv H3 s3 r3 => ?_⟩⟩
  refine hb' H3 u wv y w z' _ (RA.same s3 r2) r3 e5 fun zv' hz' rz' => ?_
  split at hf
  ·obtain rfl := rz'.blE
   obtain ⟨t, e6, e7⟩ := bind1 hf
   refine ⟨true, rfl, iteT ⟨G, ow, δ, t, R.grow (s1.trans (s2.trans s3)), e6, fun tv H4 s4 r4 => ?_⟩⟩
   exact hb'' H4 wv tv w t dd Q (RA.same s4 r3) r4 e7 fun z hz rz => q z H4 (s1.trans (s2.trans (s3.trans s4))) (.inl ⟨hz, rz⟩)
  ·obtain rfl := rz'.blE
   cases hf
   exact ⟨false, rfl, iteF (q _ H3 (s1.trans (s2.trans s3)) (.inl ⟨rfl, .bl _⟩))⟩
  ·cases hf
 ·obtain rfl := rz.blE
  cases hf
  exact ⟨false, rfl, iteF (q _ H2 (s1.trans s2) (.inl ⟨rfl, .bl _⟩))⟩
 ·cases hf
theorem isN_eq {K : PySem.W.Frag} {ok : Ok} {pl : Bool} {H : Hp} {v : V} {d : D} (r : RA K ok pl H v d) : decide (v = .non) = isNone d := by
 cases r <;> rfl
def BrC (K : PySem.W.Frag) (r : List V → Hp → VK → Prop) (g : List D → Option D) : Prop := ∀ (H : Hp) (xs : List V) (ds : List D) (d : D) (Q : VK), RAs K ok1 true H xs ds → g ds = some d → (∀ v, flat d = true → RA K ok0 false H v d → Q v H) → r xs H Q
theorem de_blt {id : String} {r : List V → Hp → VK → Prop} {g : List D → Option D} {x : Str} {p : Pos} {fa : FA} (hc : CallR X (.builtin id) r) (hb : BrC X.K r g) (hg : Gl X x) (hm : X.mg x = none) (hv : bootBuiltins x = some (.builtin id)) (ha : DB X fl .P (e :: es) fa) (hn : x ≠ "__name__" := by decide) (hdb : (x == ("__debug__" : Str)) = false := by decide)
 (he : starEach (e :: es) X.env = (false, eval e X.env) :: starEach es X.env := by exact star_of rfl) (hpl : (backTo pos (starEach es X.env)).any (·.1) = false := by exact pl_of rfl) : DE X fl .FC (.Call (.Name x p) (e :: es) [] pos) (dCall g fa) :=
 PE.imp (pe_callB hc hg hm hv ha hn hdb he hpl) fun σ H Q h => by
 obtain ⟨G, ow, δ, d, R, hf, q⟩ := h
 obtain ⟨ds, e1, e2⟩ := bind1 hf
 exact ⟨G, ow, δ, ds, R, e1, fun vs H' s r' => hb H' vs ds d Q r' e2 fun v hv rv => q v H' s (.inl ⟨hv, rv⟩)⟩
theorem b_len {K : PySem.W.Frag} : BrC K (fun xs H Q => ∃ p ys, xs = [.ref p] ∧ (SqL K H p ys ∨ SqT K H p ys) ∧ Q (.int ys.length) H) gLen := by
 intro H xs ds d Q r e q
 unfold gLen at e
 split at e
 ·next l =>
  cases e
  cases r with
  | cons r1 r2 =>
   cases r2
   obtain ⟨a, ys, rfl, hx, hr⟩ := r1.lstE
   refine ⟨a, ys, rfl, .inl hx, ?_⟩
   rw [hr.length]
   exact q _ rfl (.int _)
 ·next l =>
  cases e
  cases r with
  | cons r1 r2 =>
   cases r2
   obtain ⟨a, ys, rfl, hx, hr⟩ := r1.tupE
   refine ⟨a, ys, rfl, .inr hx, ?_⟩
   rw [hr.length]
   exact q _ rfl (.int _)
 ·cases e
theorem b_min2 {K : PySem.W.Frag} : BrC K (fun xs H Q => ∃ i j, xs = [.int i, .int j] ∧ Q (.int (if j < i then j else i)) H) gMin2 := by
 intro H xs ds d Q r e q
 unfold gMin2 at e
 split at e
 ·cases e
  cases r with
  | cons r1 r2 =>
   cases r2 with
   | cons r2 r3 =>
    cases r3
    obtain rfl := r1.intE
    obtain rfl := r2.intE
    exact ⟨_, _, rfl, q _ rfl (.int _)⟩
 ·cases e
theorem tyD_mem (d : D) : tyD d = "NoneType" ∨ tyD d = "bool" ∨ tyD d = "int" ∨ tyD d = "str" ∨ tyD d = "list" ∨ tyD d = "tuple" ∨ tyD d = "dict" := by
 cases d <;> simp [tyD]
def rIsD (K : PySem.W.Frag) : List V → Hp → VK → Prop := fun xs H Q => ∃ x c d, xs = [x, .ty c] ∧ (c = "int" ∨ c = "bool" ∨ c = "tuple" ∨ c = "list" ∨ c = "str") ∧ RA K ok1 true H x d ∧ Q (.bl (isT c (tyD d))) H
theorem call_isD : CallR X (.builtin "isinstance") (rIsD X.K) := by
 intro pins s σ H xs us Q I r h
 obtain ⟨x, c, d, rfl, hc, ra, q⟩ := h
 obtain ⟨u, w', rfl, rx, rc⟩ := vals2 r
 cases rc
 have kn := kit_nn (K := X.K) hc (tyD_mem d)
 have fin : ∀ tk, EP X pins σ Q (.bool (isT c (tyD d))) { s with toks := tk } := fun tk => ⟨.bl _, H, I.tok _, rfl, q⟩
 cases ra with
 | non => cases (show u = Value.none from rx); exact PySem.W.kia_one PySem.W.kitx_none I.kIn True.intro kn (fun z => nomatch z) fin
 | bl b => cases (show u = Value.bool b from rx); exact PySem.W.kia_one PySem.W.kitx_bool I.kIn True.intro kn (fun z => nomatch z) fin
 | int i => obtain ⟨t, z⟩ := (show ∃ t, u = Value.int i t from rx); cases z; exact PySem.W.kia_one PySem.W.kitx_int I.kIn True.intro kn (fun z => nomatch z) fin
 | str y => obtain ⟨t, z⟩ := (show ∃ t, u = Value.str y t from rx); cases z; exact PySem.W.kia_one PySem.W.kitx_str I.kIn True.intro kn (fun z => nomatch z) fin
 | @lst a xs ds e k q' =>
  cases (show u = Value.ref a from rx)
  obtain ⟨its, _, ⟨o, n, e1, e2, _⟩, _⟩ := I.list (SqL.of e)
  exact PySem.W.kia_one PySem.W.kitx_list I.kIn ⟨_, e1, e2⟩ kn (fun z => nomatch z) fin
 | @lsk a xs ds e k q' =>
  cases (show u = Value.ref a from rx)
  obtain ⟨its, _, ⟨o, n, e1, e2, _⟩, _⟩ := I.list e.sq
  exact PySem.W.kia_one PySem.W.kitx_list I.kIn ⟨_, e1, e2⟩ kn (fun z => nomatch z) fin
 | @tup a xs ds e q' =>
  cases (show u = Value.ref a from rx)
  obtain ⟨its, _, ⟨o, e1, e2, _⟩, _⟩ := I.tuple e.sq
  exact PySem.W.kia_one PySem.W.kitx_tuple I.kIn ⟨_, e1, e2⟩ kn (fun z => nomatch z) fin
 | @dic a kvs e k =>
  rcases dh0_or kvs with ⟨ks, z⟩ | ⟨ks, z⟩
  ·rw [z] at e; exact isinst_ok I rx (TyOf.dK e) kn fin
  ·rw [z] at e; exact isinst_ok I rx (TyOf.dT e) kn fin
 | @dik a kvs ob e k =>
  cases (show u = Value.ref a from rx)
  have ob := (show ObjOk X.prog X.w H s.heap a (dh0 kvs) from (show L2.Rd H a (dh0 kvs) from .inr ⟨_, e⟩).ok I.hok)
  rcases dh0_or kvs with ⟨ks, z⟩ | ⟨ks, z⟩
  ·rw [z] at ob
   obtain ⟨_, _, vs, _, dd⟩ := ob
   obtain ⟨o1, _, _, h1, h2, _⟩ := dd
   exact PySem.W.kia_one PySem.W.kitx_dict I.kIn ⟨_, h1, h2.1⟩ kn (fun z => nomatch z) fin
  ·rw [z] at ob
   obtain ⟨_, _, xs, _, o1, _, _, h1, h2, _⟩ := ob
   exact PySem.W.kia_one PySem.W.kitx_dict I.kIn ⟨_, h1, h2.1⟩ kn (fun z => nomatch z) fin
theorem de_isi {T : String} {x : Str} {p p' : Pos} (hc : T = "int" ∨ T = "bool" ∨ T = "tuple" ∨ T = "list" ∨ T = "str") (h : DE X fl .P a f) (hg : Gl X "isinstance") (hm : X.mg "isinstance" = none) (hg' : Gl X x) (hm' : X.mg x = none) (hv' : bootBuiltins x = some (.type T))
 (hn' : x ≠ "__name__" := by decide) (hd' : (x == ("__debug__" : Str)) = false := by decide)
 (he : starEach [a, .Name x p'] X.env = (false, eval a X.env) :: starEach [.Name x p'] X.env := by rfl) (he2 : starEach [.Name x p'] X.env = (false, eval (.Name x p') X.env) :: starEach [] X.env := by rfl) (hpl : (backTo pos (starEach [.Name x p'] X.env)).any (·.1) = false := by rfl) :
 DE X fl .FC (.Call (.Name "isinstance" p) [a, .Name x p'] [] pos) (dUn (gIs T) f) :=
 PE.imp (pe_callB call_isD hg hm boot_isinstance (pa_cons h (pa_cons (pe_bltn (v := .ty T) hg' hm' hv' rfl hn' hd') pa_nil he2) he) (by decide) (by decide) he hpl) fun σ H Q h => by
 obtain ⟨G, ow, δ, d, R, hf, q⟩ := h
 obtain ⟨x, e1, e2⟩ := bind1 hf
 cases e2
 exact ⟨G, ow, δ, x, R, e1, fun v H1 s1 r1 => ⟨v, T, x, rfl, hc, r1, q _ H1 s1 (.inl ⟨rfl, .bl _⟩)⟩⟩
theorem de_neg (h : DE X fl .P a f) : DE X fl .FC (.UnaryOp .USub a pos) (dUn gNeg f) := PE.imp (pe_un un_neg h) fun σ H Q h => by
 obtain ⟨G, ow, δ, d, R, hf, q⟩ := h
 obtain ⟨x, e1, e2⟩ := bind1 hf
 refine ⟨G, ow, δ, x, R, e1, fun v H1 s1 r1 => ?_⟩
 unfold gNeg at e2
 split at e2
 ·cases e2
  obtain rfl := RA.intE r1
  exact ⟨_, rfl, q _ H1 s1 (.inl ⟨rfl, .int _⟩)⟩
 ·cases e2
end
def spD (K : PySem.W.Frag) (F : List D → Option D) : Sp := fun vs H Q _ => ∃ ds d, (Tb H ∧ RAs K ok1 true H vs ds) ∧ F ds = some d ∧ ∀ v H', Same H H' → RA K (okN H) false H' v d → Q v H'
section
variable {P : Program} {w : World} {K : PySem.W.Frag} {mg : Str → Option Value} {base : Heap} {x : Str} {ps N : List Str} {st : Stmt} {k n : Nat} {fs : FS} {fl : List Fl}
theorem rel_start {vs : List V} {ds : List D} {H : Hp} (p : Nat) (hp : ∀ i, i < p → fl[i]? = some .A) (hl : ds.length = p) (hN : p ≤ N.length) (r' : Tb H ∧ RAs K ok1 true H vs ds) :
 Rel K fl ⟨H, H, fun _ => none, fun _ => [], r'.1⟩ ow0 (L2.start N vs) H (ds.map (fun d => some (.d d)) ++ List.replicate (N.length - p) none) := by
 have r := r'.2
 have hv : vs.length = p := by rw [r.length]; exact hl
 have get : ∀ i d, (ds.map (fun d => some (U.d d)) ++ List.replicate (N.length - p) none)[i]? = some (some (.d d)) → i < p ∧ ds[i]? = some d := fun i d h => by
  by_cases hi : i < p
  ·rw [List.getElem?_append_left (by rw [List.length_map, hl]; exact hi), List.getElem?_map] at h
   cases e : ds[i]? with
   | none => rw [e] at h; cases h
   | some z => rw [e] at h; cases h; exact ⟨hi, rfl⟩
  ·rw [List.getElem?_append_right (by rw [List.length_map, hl]; omega), List.getElem?_replicate] at h
   split at h <;> cases h
 refine ⟨Same.refl H, Same.refl H, ?_, fun i a h => (by cases h), fun i j a h => (by cases h), fun i h => rfl, fun i d h _ _ => ?_, fun i d h _ h2 _ => ?_, fun i a h => (by cases h), fun i j a h => (by cases h), fun i j a h => (by cases h), fun i h => rfl, fun i d hn h => ?_⟩
 ·unfold L2.start
  simp only [List.length_append, List.length_map, List.length_replicate, hv, hl]
 ·obtain ⟨hi, e⟩ := get i d h
  obtain ⟨v, e1, e2⟩ := r.get e
  refine ⟨v, ?_, e2.imp (fun _ _ => ⟨fun i z => (by cases z), fun i z => (by cases z)⟩) (fun z => z)⟩
  unfold L2.start
  rw [List.getElem?_append_left (by rw [List.length_map, hv]; exact hi), List.getElem?_map, e1]
  rfl
 ·exact absurd (hp i (get i d h).1) h2
 ·rw [hp i (get i d h).1] at hn
  cases hn
end
section
variable {X : Cx} {fl : List Fl} {e : Expr} {es : List Expr} {pos p : Pos} {x : Str} {ps : List Str} {n : Nat} {F : List D → Option D} {fa : FA}
theorem de_call (h : Has X.prog X.w X.K X.mg X.base n x ps (spD X.K F)) (hr : Room n X.A) (ha : DB X fl .P (e :: es) fa) (hg : Gl X x := by rfl) (hdb : (x == ("__debug__" : Str)) = false := by decide)
 (he : starEach (e :: es) X.env = (false, eval e X.env) :: starEach es X.env := by exact star_of rfl) (hpl : (backTo pos (starEach es X.env)).any (·.1) = false := by exact pl_of rfl) :
 DE X fl .C (.Call (.Name x p) (e :: es) [] pos) (dCall F fa) := PE.imp (pe_callH h hr ha hg hdb he hpl) fun σ H Q h => by
 obtain ⟨G, ow, δ, d, R, hf, q⟩ := h
 obtain ⟨ds, e1, e2⟩ := bind1 hf
 refine ⟨G, ow, δ, ds, R, e1, fun vs H' s r => ?_⟩
 show spD X.K F (vs ++ []) H' Q E0
 rw [List.append_nil]
 exact ⟨ds, d, ⟨R.tb.same s, r⟩, e2, fun v H2 s2 r2 => q v H2 (s.trans s2) (RA.imp (fun a z => s.free z) (fun z => z) r2)⟩
end
end D3
namespace D3
open PySem PySem.Spec PyProof.Rows L2 My
section
variable {X : Cx} {fl fl' : List Fl} {e a b c elt tg iter : Expr} {es ifs : List Expr} {k : Kd} {f fa fb fc : FE} {ft gt : FT} {pos : Pos} {scope : Scope} {ix L TT : List Nat} {fi : FA} {g : FG}
theorem pts_yes : PTs X [] (tDT X.K fl D3.tYes) := fun pins s σ H Q I h => by
 obtain ⟨G, ow, δ, b, R, hf, q⟩ := h
 cases hf
 exact pts_nil pins s σ H Q I (q H (Same.refl H))
theorem cap_rel {K : PySem.W.Frag} {G : Gh} {ow : Ow} {σ : St} {H H1 : Hp} {δ : DS} (t : Nat) (ix : List Nat) (hfl : ∀ i, i < t + ix.length → fl'[i]? = some .A) (R : Rel K fl G ow σ H δ) (s : Same H H1) :
 Rel K fl' ⟨H, H, fun _ => none, fun _ => [], R.tb⟩ ow0 (capσ t ix σ) H1 (capD t ix δ) := by
 have get : ∀ i d, (capD t ix δ)[i]? = some (some (.d d)) → i < t + ix.length ∧ ∃ j, ix[i - t]? = some j ∧ t ≤ i ∧ δ[j]? = some (some (.d d)) := fun i d h => by
  unfold capD at h
  by_cases hi : i < t
  ·rw [List.getElem?_append_left (by rw [List.length_replicate]; exact hi), List.getElem?_replicate, if_pos hi] at h
   cases h
  ·rw [List.getElem?_append_right (by rw [List.length_replicate]; omega), List.length_replicate, List.getElem?_map] at h
   cases e : ix[i - t]? with
   | none => rw [e] at h; cases h
   | some j =>
    rw [e] at h
    have hl : i - t < ix.length := by
     rcases Nat.lt_or_ge (i - t) ix.length with z | z
     ·exact z
     ·rw [List.getElem?_eq_none z] at e; cases e
    refine ⟨by omega, j, rfl, by omega, ?_⟩
    have h' : (δ[j]?).getD none = some (.d d) := by simpa using h
    cases q : δ[j]? with
    | none => rw [q] at h'; cases h'
    | some o => rw [q] at h'; simp at h'; rw [h']
 refine ⟨Same.refl H, s, ?_, fun i a h => (by cases h), fun i j a h => (by cases h), fun i h => rfl, fun i d h _ _ => ?_, fun i d h _ h2 _ => absurd (hfl i (get i d h).1) h2, fun i a h => (by cases h), fun i j a h => (by cases h), fun i j a h => (by cases h), fun i h => rfl, fun i d hn h => (by rw [hfl i (get i d h).1] at hn; cases hn)⟩
 ·unfold capσ capD
  simp
 ·obtain ⟨hi, j, ej, ht, ed⟩ := get i d h
  have key : ∃ v, σ[j]? = some (some v) ∧ RA K ok1 true H v d := by
   cases hN : isN fl[j]? with
   | true =>
    obtain ⟨v, h1, h2, _⟩ := R.nr j d hN ed
    exact ⟨v, h1, h2.ra fun _ _ => trivial⟩
   | false =>
   cases ho : ow j with
   | none =>
    obtain ⟨v, h1, h2⟩ := R.dat j d ed hN ho
    exact ⟨v, h1, h2.imp (fun _ _ => trivial) (fun z => z)⟩
   | some a =>
    obtain ⟨_, _, xs, ds, h1, h2, h3, h4⟩ := R.own j a ho
    rw [ed] at h4
    cases h4
    exact ⟨_, h1, .lst h2 trivial (h3.imp (fun _ _ => trivial) (fun z => z))⟩
  obtain ⟨v, h1, h2⟩ := key
  refine ⟨v, ?_, (h2.imp (fun _ _ => ⟨fun i z => (by cases z), fun i z => (by cases z)⟩) (fun z => z)).same s⟩
  unfold capσ
  rw [List.getElem?_append_right (by rw [List.length_replicate]; omega), List.length_replicate, List.getElem?_map, ej]
  show some ((σ[j]?).getD none) = _
  rw [h1]
  rfl
theorem comp_bridge {σ : St} {H : Hp} {Q : VK} {t : Nat} (hfl : ∀ i, i < t + ix.length → fl'[i]? = some .A) (htg : ∀ j ∈ TT, j < t)
 (h : tD X.K fl .FC (dComp fi g ft f t ix) σ H Q) : tComp (tDI X.K fl L fi) (tDG X.K fl' TT g) (tDT X.K fl' ft) (tD X.K fl' .C f) t (capσ t ix) σ H Q := by
 obtain ⟨G, ow, δ, d, R, hf, q⟩ := h
 obtain ⟨l, e1, e2⟩ := bind1 hf
 by_cases hl : l.length ≤ 100000
 case neg => rw [if_neg hl] at e2; cases e2
 rw [if_pos hl] at e2
 obtain ⟨r, e3, e4⟩ := bind1 e2
 cases e4
 refine ⟨G, ow, δ, l, R, e1, fun J H1 s1 wk Dl hD => ?_⟩
 have R1 := R.grow s1
 let okD : Ok := fun b => okN H b ∧ b ≠ Dl
 refine ⟨fun i m xs H2 => m = l.length - i ∧ H2 Dl = some (.lst xs) ∧ Same H1 H2 ∧ xs.length ≤ i ∧ i ≤ l.length ∧ ∃ ds rest, RAs X.K okD false H2 xs ds ∧ compD g ft f (capD t ix δ) (l.drop i) = some rest ∧ r = ds ++ rest,
  ⟨_, rfl, upd_same, same_new hD _, Nat.le_refl _, Nat.zero_le _, [], r, .nil, by simpa using e3, rfl⟩, ?_⟩
 rintro i m xs H2 ⟨rfl, hDl, s2, hxl, hil, ds, rest, hr, hc, rfl⟩
 refine ⟨hDl, ?_⟩
 obtain ⟨w1, w2⟩ := wk H2 (fun b o hb _ _ => s2 b o hb) i
 by_cases hlt : i < l.length
 ·have hdrop : l.drop i = l[i] :: l.drop (i + 1) := List.drop_eq_getElem_cons hlt
  rw [hdrop, compD] at hc
  obtain ⟨δ1, e5, hc⟩ := bind1 hc
  obtain ⟨bb, e6, hc⟩ := bind1 hc
  obtain ⟨go, yl⟩ := w1 l[i] (List.getElem?_eq_getElem hlt)
  refine .inr ⟨go, Nat.lt_of_le_of_lt (Nat.le_trans hxl (Nat.le_trans hil hl)) (by decide), fun x H3 hy => ?_⟩
  obtain ⟨s3, r3⟩ := yl x H3 hy
  have s13 := s2.trans s3
  have Rb := (cap_rel t ix hfl R1 (Same.refl H1)).grow s13
  refine ⟨_, _, _, _, δ1, Rb, r3.imp (fun _ _ => ⟨fun i z => (by cases z), fun i z => (by cases z)⟩) (fun z => z), e5, fun σ4 R4 keep4 => ⟨?_, ?_⟩⟩
  ·apply List.ext_getElem?
   intro n
   rw [List.getElem?_drop, List.getElem?_drop]
   exact keep4 (t + n) fun z => absurd (htg _ z) (by omega)
  ·refine ⟨_, _, δ1, bb, R4, e6, fun H5 s5 => ?_⟩
   cases bb with
   | false =>
    rw [if_neg Bool.false_ne_true] at hc ⊢
    have s35 := s3.trans s5
    exact ⟨l.length - (i + 1), by omega, rfl, s35 _ _ hDl, s2.trans s35, by omega, hlt, ds, rest, hr.same s35, hc, rfl⟩
   | true =>
    rw [if_pos rfl] at hc ⊢
    obtain ⟨y, e7, hc⟩ := bind1 hc
    obtain ⟨l', e8, hc⟩ := bind1 hc
    cases hc
    refine ⟨_, _, δ1, y, R4.grow s5, e7, fun v H6 s6 r6 => ?_⟩
    have s35 := s3.trans s5
    have s36 := s35.trans s6
    refine ⟨s36 _ _ hDl, l.length - (i + 1), by omega, rfl, upd_same, ?_, by rw [List.length_append, List.length_singleton]; omega, hlt, ds ++ [y], l', ?_, e8, by simp⟩
    ·intro b o hb
     rw [upd_ne (fun z => by subst z; rw [hD] at hb; cases hb)]
     exact (s2.trans s36) b o hb
    ·have nd : ¬ okD Dl := fun z => z.2 rfl
     have s05 : Same H H5 := s1.trans (s2.trans s35)
     have ry : RA X.K okD false H6 v y := RA.imp (fun b z => ⟨s05.free z, fun e => by subst e; rw [okN, s35 _ _ hDl] at z; cases z⟩) (fun z => z) r6
     exact ((hr.same s36).append (.cons ry .nil)).upd (s36 _ _ hDl) nd
 ·have ed : l.drop i = [] := List.drop_eq_nil_of_le (by omega)
  rw [ed, compD] at hc
  cases hc
  refine .inl ⟨w2 (by omega), ?_⟩
  rw [List.append_nil] at q
  exact q (.ref Dl) H2 (s1.trans s2) (.inr ⟨Dl, xs, ds, rfl, rfl, s1.free hD, hDl, hr⟩)
theorem de_comp (hc : X.calm = true) (T Vn : List Str) (ix : List Nat) (hi : DI X fl L tg iter fi)
 (hg : ∀ cl C s3 H3 fp, DG (blk X (T ++ Vn) scope cl C s3 H3 fp) fl' TT tg g) (ht : ∀ cl C s3 H3 fp, PTs (blk X (T ++ Vn) scope cl C s3 H3 fp) ifs (tDT X.K fl' ft)) (he : ∀ cl C s3 H3 fp, DE (blk X (T ++ Vn) scope cl C s3 H3 fp) fl' .C elt f)
 (hfl : ∀ i, i < T.length + ix.length → fl'[i]? = some .A := by decide) (htg : ∀ j ∈ TT, j < T.length := by decide)
 (hB : capB X.N X.env.scope.names scope.names Vn ix = true := by rfl) (hk : scope.kind = .function := by rfl) (hcell : ∀ y ∈ scope.names, y.2 ≠ .cell := by decide +kernel)
 (hnames : ∀ x ∈ scope.names, x.2 = .local → scope.names.lookup x.1 = some .local := by decide +kernel)
 (hfr : ∀ x ∈ scope.names, x.2 = .free → x.1 ∈ Vn := by decide +kernel) (hs : ∀ x, foldedSetIterable iter X.env x = pure x := by intro _; rfl) :
 DE X fl .FC (.ListComp elt [⟨tg, iter, ifs, 0⟩] scope pos) (dComp fi g ft f T.length ix) :=
 PE.imp (pe_comp hc T Vn ix hi hg ht he hB hk hcell hnames hfr hs) fun _ _ _ h => comp_bridge hfl htg h
theorem ds_setCA {i : Nat} {x : Str} {pos' spos : Pos} (hfx : fl[i]? = some .A) (hN : X.N.Nodup) (hi' : X.N[i]? = some x) (hx : X.env.scope.names.lookup x = some .local) (hc : X.calm = true) (T Vn : List Str) (ix : List Nat) (hi : DI X fl L tg iter fi)
 (hg : ∀ cl C s3 H3 fp, DG (blk X (T ++ Vn) scope cl C s3 H3 fp) fl' TT tg g) (ht : ∀ cl C s3 H3 fp, PTs (blk X (T ++ Vn) scope cl C s3 H3 fp) ifs (tDT X.K fl' ft)) (he : ∀ cl C s3 H3 fp, DE (blk X (T ++ Vn) scope cl C s3 H3 fp) fl' .C elt f)
 (hfl : ∀ i, i < T.length + ix.length → fl'[i]? = some .A := by decide) (htg : ∀ j ∈ TT, j < T.length := by decide)
 (hsw : swapsWith (.ListComp elt [⟨tg, iter, ifs, 0⟩] scope pos) (some (.Name x pos')) spos.line X.env = pure true := by rfl)
 (hB : capB X.N X.env.scope.names scope.names Vn ix = true := by rfl) (hk : scope.kind = .function := by rfl) (hcell : ∀ y ∈ scope.names, y.2 ≠ .cell := by decide +kernel)
 (hnames : ∀ x ∈ scope.names, x.2 = .local → scope.names.lookup x.1 = some .local := by decide +kernel)
 (hfr : ∀ x ∈ scope.names, x.2 = .free → x.1 ∈ Vn := by decide +kernel) (hs : ∀ x, foldedSetIterable iter X.env x = pure x := by intro _; rfl) :
 DS1 X fl (.Assign [.Name x pos'] (.ListComp elt [⟨tg, iter, ifs, 0⟩] scope pos) spos) (sSetl i (dComp fi g ft f T.length ix)) :=
 PS.imp (ps_setC hN hi' hx hc T Vn ix hi hg ht he hsw hB hk hcell hnames hfr hs) fun Dn σ H h => by
 obtain ⟨G, ow, δ, o, R, hf, q⟩ := h
 unfold sSetl at hf
 by_cases hl : i < δ.length
 ·rw [if_pos hl] at hf
  obtain ⟨d, e1, e2⟩ := bind1 hf
  cases e2
  exact comp_bridge (fl := fl) hfl htg ⟨G, ow, δ, d, R, e1, fun v H' s r => q ow _ H' ((R.grow s).setA hfx (slot_lt R hl) ((r.FC_F R).F_A R))⟩
 ·rw [if_neg hl] at hf
  cases hf
theorem new_F {K : PySem.W.Frag} {G : Gh} {ow : Ow} {H H1 : Hp} {p : Addr} {vs : List V} {l : List D} (s : Same H H1) (hp : H1 p = none) (r : RAs K (okA ow) true H1 vs l) : Rs K G.H0 ow H (upd H1 p (.lst vs)) .F (.ref p) (.list l) :=
 .inr ⟨p, vs, l, rfl, rfl, s.free hp, upd_same, (r.track.imp (fun b w => ⟨w.1, fun e => w.2 (e ▸ hp)⟩) (fun z => z)).same (same_new hp _)⟩
theorem B_list {K : PySem.W.Frag} {H0 : Hp} {ow : Ow} {Hb H : Hp} {L : List Nat} {v : V} {l : List D} (r : Rs K H0 ow Hb H (.B L) v (.list l)) : ∃ a xs, v = .ref a ∧ SqL K H a xs ∧ RAs K (okA ow) true H xs l := by
 rcases r with r | ⟨i, hi, a, xs, ds, ho, rfl, e, hx, hr⟩
 ·exact r.lstE
 ·cases e
  exact ⟨a, xs, rfl, SqL.of hx, hr⟩
def rCatS (K : PySem.W.Frag) : R2 := fun x y H Q => ∃ l b xs zs, x = .ref l ∧ y = .ref b ∧ SqL K H l xs ∧ SqL K H b zs ∧ xs.length + zs.length ≤ sizeLine ∧ ∀ p, H p = none → Q (.ref p) (upd H p (.lst (xs ++ zs)))
theorem op_catS : OpR X (binaryOp .Add) (rCatS X.K) := by
 intro pins s σ H x y v u Q I rx ry h
 obtain ⟨l, b, xs, zs, rfl, rfl, hH, hB, hz, q⟩ := h
 cases rx
 cases ry
 obtain ⟨its, r, p, _⟩ := I.list hH
 obtain ⟨its2, r2, p2, _⟩ := I.list hB
 obtain ⟨⟨cls, dd, data, sl⟩, ho, hc, n, hd⟩ := p.isList
 obtain ⟨⟨cls2, dd2, data2, sl2⟩, ho2, hc2, n2, hd2⟩ := p2.isList
 simp only at hc hd hc2 hd2
 subst hc hd hc2 hd2
 have e1 := r.length
 have e2 := r2.length
 have e : its.toArray ++ its2.toArray = (its ++ its2).toArray := by simp
 refine concat_meets ⟨_, ho, rfl⟩ ⟨_, ho2, rfl⟩ noFill_list_add seq_list_add PySem.F.slot_list_add PySem.F.entry_list_add (PySem.F.args_list_add_2 _ _) (list_addW l b its.toArray its2.toArray n n2 dd dd2 sl sl2 (by simp; omega)) ⟨ho, ho2, ?_⟩
 rw [e]
 exact ⟨.ref _, _, I.lnew (t' := s.toks) (r.append r2) (by rw [List.length_append]; omega), rfl, q _ I.fresh⟩
theorem de_cat {L L' : List Nat} (h1 : DE X fl (.B L) a fa) (h2 : DE X fl (.B L') b fb) : DE X fl .F (.BinOp a .Add b pos) (dOp gCat fa fb) := PE.imp (pe_op op_catS h1 h2) fun σ H Q h => by
 obtain ⟨G, ow, δ, d, R, hf, q⟩ := h
 obtain ⟨x, y, e1, e2, e3⟩ := bind2 hf
 refine ⟨G, ow, δ, x, R, e1, fun v H1 s1 r1 => ⟨G, ow, δ, y, R.grow s1, e2, fun u H2 s2 r2 => ?_⟩⟩
 unfold gCat at e3
 split at e3
 ·next l m =>
  by_cases z : l.length + m.length ≤ 1000000
  ·rw [if_pos z] at e3
   cases e3
   obtain ⟨p, xs, rfl, hx, hr⟩ := B_list r1
   obtain ⟨p', ys, rfl, hy, hr'⟩ := B_list r2
   refine ⟨p, p', xs, ys, rfl, rfl, s2.seq hx, hy, ?_, fun pn hp => q _ _ ((s1.trans s2).trans (same_new hp _)) (new_F (G := G) (s1.trans s2) hp ((hr.same s2).append hr'))⟩
   rw [hr.length, hr'.length]
   exact Nat.le_trans z (by decide)
  ·rw [if_neg z] at e3
   cases e3
 ·cases e3
theorem RAs.rep {K : PySem.W.Frag} {ok : Ok} {pl : Bool} {H : Hp} {vs : List V} {l : List D} (r : RAs K ok pl H vs l) : ∀ n : Nat, RAs K ok pl H (List.replicate n vs).flatten (List.replicate n l).flatten
 | 0 => .nil
 | n + 1 => by
  rw [List.replicate_succ, List.replicate_succ, List.flatten_cons, List.flatten_cons]
  exact r.append (RAs.rep r n)
theorem de_rep (h1 : DE X fl .F a fa) (h2 : DE X fl .P b fb) : DE X fl .F (.BinOp a .Mult b pos) (dOp gRep fa fb) := PE.imp (pe_op op_rep h1 h2) fun σ H Q h => by
 obtain ⟨G, ow, δ, d, R, hf, q⟩ := h
 obtain ⟨x, y, e1, e2, e3⟩ := bind2 hf
 refine ⟨G, ow, δ, x, R, e1, fun v H1 s1 r1 => ⟨G, ow, δ, y, R.grow s1, e2, fun u H2 s2 r2 => ?_⟩⟩
 unfold gRep at e3
 split at e3
 ·next l k =>
  by_cases z : l.length * k.toNat ≤ 1000000 ∧ -(2 ^ 63) ≤ k ∧ k < 2 ^ 63
  ·rw [if_pos z] at e3
   cases e3
   obtain rfl := RA.intE r2
   rcases r1 with ⟨hz, _⟩ | ⟨p, xs, ds, rfl, ez, h3, h4, h5⟩
   ·simp [flat] at hz
   ·cases ez
    refine ⟨p, k, xs, rfl, rfl, s2 _ _ h4, z.2.1, z.2.2, ?_, fun pn hp => q _ _ ((s1.trans s2).trans (same_new hp _)) (new_F (G := G) (s1.trans s2) hp (((h5.imp (fun b w => w.1) (fun z => z)).same s2).rep _))⟩
    rw [h5.length]
    exact Nat.le_trans z.1 (by decide)
  ·rw [if_neg z] at e3
   cases e3
 ·cases e3
theorem de_list {L : List Nat} {p : Pos} (h : DE X fl (.B L) a f) (hg : Gl X "list") (hm : X.mg "list" = none)
 (he : starEach [a] X.env = (false, eval a X.env) :: starEach [] X.env := by rfl) (hpl : (backTo pos (starEach [] X.env)).any (·.1) = false := by rfl) : DE X fl .F (.Call (.Name "list" p) [a] [] pos) (dUn gList f) :=
 PE.imp (pe_callTy call_list_of hg hm boot_list (pa_cons h pa_nil he) (by decide) (by decide) he hpl) fun σ H Q h => by
 obtain ⟨G, ow, δ, d, R, hf, q⟩ := h
 obtain ⟨x, e1, e2⟩ := bind1 hf
 refine ⟨G, ow, δ, x, R, e1, fun v H1 s1 r1 => ?_⟩
 unfold gList at e2
 split at e2
 ·cases e2
  obtain ⟨p, xs, rfl, hx, hr⟩ := B_list r1
  exact ⟨p, xs, rfl, .inl hx, fun pn hp => q _ _ (s1.trans (same_new hp _)) (new_F (G := G) s1 hp hr)⟩
 ·cases e2
  rcases r1 with r1 | ⟨i, hi, a, xs, ds, ho, rfl, e, hx, hr⟩
  ·obtain ⟨p, xs, rfl, hx, hr⟩ := r1.tupE
   exact ⟨p, xs, rfl, .inr hx, fun pn hp => q _ _ (s1.trans (same_new hp _)) (new_F (G := G) s1 hp hr)⟩
  ·cases e
 ·cases e2
def tDO (K : PySem.W.Frag) (fl : List Fl) (f : FO) : TO := fun σ H Q => ∃ G ow δ o, Rel K fl G ow σ H δ ∧ f δ = some o ∧ ∀ H', Same H H' → Q o H'
theorem PO.imp {o : Option Expr} {t t' : TO} (h : PO X o t) (i : ∀ σ H Q, t' σ H Q → t σ H Q) : PO X o t' := fun pins s σ H Q I q => h pins s σ H Q I (i σ H Q q)
theorem do_none : PO X none (tDO X.K fl oNone) := PO.imp po_none fun σ H Q h => by
 obtain ⟨G, ow, δ, o, R, hf, q⟩ := h
 cases hf
 exact q H (Same.refl H)
theorem do_part (h : DE X fl .P e f) : PO X (some e) (tDO X.K fl (oPart f)) := PO.imp (po_some h) fun σ H Q h => by
 obtain ⟨G, ow, δ, o, R, hf, q⟩ := h
 obtain ⟨d, e1, e2⟩ := bind1 hf
 split at e2
 ·cases e2
  refine ⟨G, ow, δ, _, R, e1, fun v H1 s1 r1 => ?_⟩
  obtain rfl := RA.intE r1
  exact ⟨_, rfl, q H1 s1⟩
 ·cases e2
theorem sIx_eq (n d : Nat) (o : Option Int) : HT.sIx n d o = pSx n d o := by
 cases o <;> rfl
theorem RAs.cut {K : PySem.W.Frag} {ok : Ok} {pl : Bool} {H : Hp} {vs : List V} {l : List D} (r : RAs K ok pl H vs l) (lo hi : Option Int) : RAs K ok pl H (cutV vs lo hi) (cutD l lo hi) := by
 unfold cutV cutD
 rw [r.length, sIx_eq, sIx_eq]
 exact (r.drop _).take _
theorem de_sl {L : List Nat} {lo hi : Option Expr} {p2 : Pos} {fl1 fh : FO} (h : DE X fl (.B L) a f) (h1 : PO X lo (tDO X.K fl fl1)) (h2 : PO X hi (tDO X.K fl fh)) : DE X fl .F (.Subscript a (.Slice lo hi none p2) pos) (dSl f fl1 fh) := PE.imp (pe_slice sl_list h h1 h2) fun σ H Q h => by
 obtain ⟨G, ow, δ, d, R, hf, q⟩ := h
 obtain ⟨x, e1, hf⟩ := bind1 hf
 obtain ⟨o1, e2, hf⟩ := bind1 hf
 obtain ⟨o2, e3, e4⟩ := bind1 hf
 refine ⟨G, ow, δ, x, R, e1, fun v H1 s1 r1 => ⟨G, ow, δ, o1, R.grow s1, e2, fun H2 s2 => ⟨G, ow, δ, o2, R.grow (s1.trans s2), e3, fun H3 s3 => ?_⟩⟩⟩
 split at e4
 ·cases e4
  obtain ⟨p, xs, rfl, hx, hr⟩ := B_list r1
  have s13 := s2.trans s3
  exact ⟨p, xs, rfl, s13.seq hx, fun pn hp => q _ _ ((s1.trans s13).trans (same_new hp _)) (new_F (G := G) (s1.trans s13) hp ((hr.same s13).cut o1 o2))⟩
 ·cases e4
theorem ds_never {st : Stmt} : DS1 X fl st (fun _ => none) := PS.imp ps_never fun Dn σ H h => by
 obtain ⟨G, ow, δ, o, R, hf, q⟩ := h
 cases hf
end
end D3
namespace D3
open PySem PySem.Spec PyProof.Rows L2 My
section
variable {X : Cx} {pins : List (Addr × Obj)} {σ : St} {H : Hp} {s : Shared} {h' : Heap}
theorem Inv.turnedL {t' : Nat} {ch : List Addr} (I : Inv X pins σ H s) (k : ∀ b o, b ∉ ch → s.heap.get? b = some o → h'.get? b = some o) (hf : ∀ b ∈ ch, FpOk X pins H b) : Inv X pins σ H { s with heap := h', toks := t' } := by
 have nit : ∀ b u, H b = some u → b ∉ ch := fun b u e z => by rw [(hf b z).1] at e; cases e
 refine I.step (g' := s.gens) (d' := s.drawn) (ch := ch) (fun b hb => ?_) (fun b o _ _ hc e _ => k b o hc e) (fun b o _ _ hc e _ => ⟨o.slots, k b o hc e⟩) (fun _ _ _ _ n => n)
  (fun b o hc e => ⟨o, k b o hc e⟩) (fun _ _ e => e) (fun _ _ _ e => e) (fun _ _ _ e => e) (fun m hm => ?_) (fun b u e => ?_) I.bare
 ·obtain ⟨f0, f1, f2, f3, f4, f5⟩ := hf b hb
  exact ⟨f3, f1, f4, f5⟩
 ·obtain ⟨o, es, ep, ho, r⟩ := hm
  exact ⟨o, es, ep, k _ o (fun z => (hf _ z).2.1 rfl) ho, r⟩
 ·refine (I.hok b u e).stay (fun c v hc q => k c v ?_ q) (fun _ q => q) fun _ _ q => q
  rcases hc with z | z
  ·rw [z]; exact nit b u e
  ·exact nit c _ z
end
def Ite (K : PySem.W.Frag) (a : Addr) : It :=
 ⟨fun i H => ∃ xs x, SqL K H a xs ∧ xs[i]? = some x, fun i H x H' => ∃ p y, H p = none ∧ H' = upd H p (.tup [.int i, y]) ∧ x = .ref p ∧ ∀ xs, SqL K H a xs → xs[i]? = some y, fun i H => ∃ xs, SqL K H a xs ∧ xs.length ≤ i⟩
theorem turn_enum {P : Program} {w : World} {K : PySem.W.Frag} {elts : List Expr} {x1} {tpos : Pos} (a it : Addr) :
 Turn P w K (.Tuple elts x1 tpos) (Ite K a) [it + 1, it] (it + 1) (fun i h => ∃ old, IsEnum h (it + 1) it (i : Int) old ∧ h.IsListIter it a i) where
 mem := by simp
 obj := fun i h st b hb => by
  obtain ⟨old, he, o, e, c, d⟩ := st
  rcases List.mem_cons.mp hb with z | z
  ·subst z
   exact ⟨_, he, fun v z => by cases z⟩
  ·have z : b = it := by simpa using z
   subst z
   exact ⟨o, e, fun v z => by rw [d] at z; cases z⟩
 keep := fun i h h' st k => by
  obtain ⟨old, he, hi⟩ := st
  exact ⟨old, k _ (by simp) _ he, hi.at fun o e => k it (by simp) o e⟩
 item := by
  intro X hP hw hK hc i pins s σ H E I hf st hg
  subst hP hw hK
  obtain ⟨xs, x, hq, hx⟩ := hg
  obtain ⟨its, rv, p, hz⟩ := I.list hq
  obtain ⟨u, hu, ru⟩ := rv.get hx
  obtain ⟨old, he, hi⟩ := st
  have fe := hf (it + 1) (by simp)
  have fi := hf it (by simp)
  have hlt : it + 1 < s.heap.objs.size := Heap.lt_size he
  refine wpAny_pyNext_enum_item he hi p.isList (x := u) (by simpa using hu) (Nat.succ_ne_self it) fun h1 ho hi1 ht hsz hk => ?_
  refine ⟨_, rfl, wpAny_letOwnedTupleGo_enum ho fun h2 he2 hs2 => ?_⟩
  replace hs2 : Heap.SameBut (it + 1) h1 h2 := hs2
  have hn : H s.heap.objs.size = none := I.hok.fresh (Nat.le_refl _)
  have I0 : Inv X pins σ (upd H s.heap.objs.size (.tup [.int (i : Int), x])) { s with heap := s.heap.push { cls := .type "tuple", data := .seq #[.int (i : Int) s.toks, u] } } :=
   I.laid (t' := s.toks) (fun b o e => Heap.get?_push_of_some _ e) (Nat.le_refl _) ⟨show 2 ≤ sizeLine by decide, [.int (i : Int) s.toks, u], .cons ⟨_, rfl⟩ (.cons ru .nil), ⟨_, Heap.get?_push_size _ rfl, rfl, _, rfl⟩⟩
  have ne : ∀ b, b ∈ [it + 1, it] → b ≠ s.heap.objs.size := fun b hb => by
   rcases List.mem_cons.mp hb with w' | w'
   ·rw [w']; exact Nat.ne_of_lt hlt
   ·rw [show b = it by simpa using w']; exact Nat.ne_of_lt (Nat.lt_of_succ_lt hlt)
  have I1 : Inv X pins σ (upd H s.heap.objs.size (.tup [.int (i : Int), x])) { s with heap := h2, toks := s.toks + 1 } := by
   refine Inv.turnedL (s := { s with heap := s.heap.push { cls := .type "tuple", data := .seq #[.int (i : Int) s.toks, u] } }) (ch := [it + 1, it]) I0 (fun b o hb e => ?_) fun b hb => ⟨by rw [upd_ne (ne b hb)]; exact (hf b hb).1, (hf b hb).2⟩
   have b1 : b ≠ it + 1 := fun z => hb (by simp [z])
   have b2 : b ≠ it := fun z => hb (by simp [z])
   rcases Heap.get?_push_cases e with ⟨e1, e2⟩ | e1
   ·subst e1 e2
    exact (hs2.2 _ b1).trans ht
   ·exact (hs2.2 _ b1).trans (hk b o b1 b2 e1)
  refine ⟨.ref s.heap.objs.size, _, I1, rfl, ⟨_, x, hn, rfl, rfl, fun ys hy => by rw [I.list_inj hy hq]; exact hx⟩, ⟨_, he2, hi1.at fun o e => (hs2.2 _ (Nat.ne_of_lt (Nat.lt_succ_self it))).trans e⟩, fun b hb => ?_⟩
  rw [upd_ne (ne b hb)]
  exact (hf b hb).1
 done := by
  intro X hP hw hK hc i pins s σ H E I hf st hg
  subst hP hw hK
  obtain ⟨xs, hq, hx⟩ := hg
  obtain ⟨its, rv, p, hz⟩ := I.list hq
  obtain ⟨old, he, hi⟩ := st
  have hl := rv.length
  refine wpAny_pyNext_enum_end (I.ok.hd hc) he hi p.isList (by simp; omega) fun h' eb => ⟨rfl, Inv.turnedL (t' := s.toks) (ch := [it + 1, it]) I (fun b o hb e => eb b o (fun z => hb (by simp [z])) e) hf⟩
 self := fun _ _ _ _ _ st h => by
  obtain ⟨old, he, _⟩ := st
  exact wpAny_pyIter_enum he h
section
variable {X : Cx} {fl : List Fl} {a : Expr} {f : FE} {pos : Pos}
def iEnum (K : PySem.W.Frag) (tl : TE) : TI := fun σ H R => tl σ H fun x H1 => ∃ a, x = .ref a ∧ (∃ xs, SqL K H1 a xs) ∧ R (Ite K a) H1
theorem pi_enum {elts : List Expr} {x1} {tpos p : Pos} {tl : TE} (hg : Gl X "enumerate") (hm : X.mg "enumerate" = none) (hl : PE X a tl) (he : starEach [a] X.env = (false, eval a X.env) :: starEach [] X.env := by rfl)
 (hpl : (backTo pos (starEach [] X.env)).any (·.1) = false := by rfl) : PI X (.Tuple elts x1 tpos) (.Call (.Name "enumerate" p) [a] [] pos) (iEnum X.K tl) := by
 intro pins s σ H R I h
 refine wpAny_Call_Name_kw (ld_blt I hg hm boot_enumerate (PyProof.Rows.callWith_type1 (thn ((pa_cons hl pa_nil he) pos pins s σ H (fun vs H1 => match vs with | [x] => ∃ a, x = .ref a ∧ (∃ xs, SqL X.K H1 a xs) ∧ R (Ite X.K a) H1 | _ => False) I h) fun us s1 ⟨vs, H1, I1, r1, q1⟩ => ?_) he hpl))
 cases r1 with
 | nil => exact q1.elim
 | cons r rr =>
  cases rr with
  | cons _ _ => exact q1.elim
  | nil =>
  obtain ⟨l, e, ⟨xs, hq⟩, q⟩ := q1
  subst e
  cases r
  obtain ⟨its, rv, pl, hz⟩ := I1.list hq
  refine call_enumerate_list pl.isList fun h' he' hi' hsz hk => ?_
  have I2 : Inv X pins σ H1 { s1 with heap := h' } := I1.kept (t' := s1.toks) hk
  refine wpAny_pyIter_enum (s := { s1 with heap := h' }) he' ?_
  refine ⟨s1.heap.objs.size + 1, [s1.heap.objs.size + 1, s1.heap.objs.size], _, _, H1, rfl, I2, turn_enum l s1.heap.objs.size, ⟨_, he', hi'⟩, fun b hb => ?_, q⟩
  have hb' : s1.heap.objs.size ≤ b := by
   rcases List.mem_cons.mp hb with z | z
   ·rw [z]; exact Nat.le_succ _
   ·rw [show b = s1.heap.objs.size by simpa using z]; exact Nat.le_refl _
  exact I1.fpOk hb' (I1.hok.fresh hb')
theorem di_enum {elts : List Expr} {x1} {tpos p : Pos} {L : List Nat} (h : DE X fl (.B L) a f) (hg : Gl X "enumerate") (hm : X.mg "enumerate" = none) (he : starEach [a] X.env = (false, eval a X.env) :: starEach [] X.env := by rfl)
 (hpl : (backTo pos (starEach [] X.env)).any (·.1) = false := by rfl) : DI X fl L (.Tuple elts x1 tpos) (.Call (.Name "enumerate" p) [a] [] pos) (fEnum f) := PI.imp (pi_enum hg hm h he hpl) fun σ H R' h => by
 obtain ⟨G, ow, δ, l, R, hf, q⟩ := h
 obtain ⟨d, e1, e2⟩ := bind1 hf
 cases d <;> first | (cases e2; done) | skip
 next l0 =>
 cases e2
 refine ⟨G, ow, δ, _, R, e1, fun v H1 s r => ?_⟩
 obtain ⟨a, xs, rfl, hx, keep⟩ := walk_B (R.grow s) r
 refine ⟨a, rfl, ⟨xs, hx⟩, q _ _ s fun H2 k2 i => ?_⟩
 obtain ⟨k3, k4⟩ := keep H2 k2
 refine ⟨fun d hd => ?_, fun hl => ⟨xs, k3, by rw [k4.length]; simpa [enumD] using hl⟩⟩
 have hd' : (l0[i]?).map (fun x => PyData.tuple [.int (i : Int), x]) = some d := by
  have := hd
  unfold enumD at this
  rw [List.getElem?_mapIdx] at this
  exact this
 cases e : l0[i]? with
 | none => rw [e] at hd'; cases hd'
 | some x0 =>
  rw [e] at hd'
  cases hd'
  obtain ⟨y, hy, ry⟩ := k4.get e
  refine ⟨⟨xs, y, k3, hy⟩, fun x H3 hyl => ?_⟩
  obtain ⟨p, y', hp, rfl, rfl, hz⟩ := hyl
  have : some y = some y' := hy.symm.trans (hz xs k3)
  cases this
  have g := same_new hp (.tup [.int (i : Int), y])
  exact ⟨g, .tup upd_same (.cons (.int _) (.cons (ry.same g) .nil))⟩
end
structure Bl (mg : Str → Option Value) : Prop where
 len_ : mg "len" = none
 range_ : mg "range" = none
 abs_ : mg "abs" = none
 isinstance_ : mg "isinstance" = none
 int_ : mg "int" = none
 bool_ : mg "bool" = none
 tuple_ : mg "tuple" = none
 list_ : mg "list" = none
 str_ : mg "str" = none
 max_ : mg "max" = none
 min_ : mg "min" = none
 sorted_ : mg "sorted" = none
 sum_ : mg "sum" = none
 reversed_ : mg "reversed" = none
 enumerate_ : mg "enumerate" = none
 zip_ : mg "zip" = none
 set_ : mg "set" = none
 any_ : mg "any" = none
 all_ : mg "all" = none
 dict_ : mg "dict" = none
end D3
namespace D3
open PySem PySem.Spec PyProof.Rows L2 My
structure FunD (K : PySem.W.Frag) (x : Str) (st : Stmt) (f : Addr) (fd : FuncData) : Prop where
 ex : ∃ (oc : Value) (od : Option Addr) (dV kV doc pm : Value) (an : Option Addr) (cdv ct : Value) (osl : Array (Option Value)),
  fd = PySem.W.fnOf x x (defArgs st) (defBody st) (defScope st) dV kV doc pm an cdv ct ∧ K.lookup f = some ⟨oc, od, .func fd, osl⟩ ∧ PySem.W.codeIn K cdv x = true
 kp : PySem.W.keepIn K (.ref f) = true
structure Dg (K : PySem.W.Frag) (mg : Str → Option Value) (x : Str) (st : Stmt) (ps : List Str) : Prop where
 ex : ∃ (f : Addr) (fd : FuncData), FunD K x st f fd ∧ Binds K fd ps [] ∧ mg x = some (.ref f)
theorem dg_mk {K : PySem.W.Frag} {h : Heap} {mg : Str → Option Value} {f : Addr} {oc kV dc pm cd ct : Value} {od an : Option Addr} {sl : Array (Option Value)} {x : Str} {st : Stmt} {ps : List Str} (X : K.In h) (G : h.Ns mainGlobals mg)
 (hb : ∀ (kV doc pm : Value) (an : Option Addr) (cdv ct : Value) (us : List Value), us.length = ps.length → bindArgs (PySem.W.fnOf x x (defArgs st) (defBody st) (defScope st) .none kV doc pm an cdv ct) ⟨us, []⟩ = pure (ps.zip us))
 (a : PySem.W.nsIn K mainGlobals x = some (some (.ref f))) (l : K.lookup f = some ⟨oc, od, .func (PySem.W.fnOf x x (defArgs st) (defBody st) (defScope st) .none kV dc pm an cd ct), sl⟩) (c : PySem.W.codeIn K cd x = true) (k : PySem.W.keepIn K (.ref f) = true) : Dg K mg x st ps :=
 ⟨_, _, ⟨⟨oc, od, .none, kV, dc, pm, an, cd, ct, sl, rfl, l, c⟩, k⟩, .all (hb kV dc pm an cd ct), PySem.W.mg_of X G a⟩
structure Dl (K : PySem.W.Frag) (mg : Str → Option Value) (x y : Str) (st : Stmt) : Prop where
 ex : ∃ (f : Addr) (fd : FuncData), FunD K x st f fd ∧ (∀ (s : Shared) (u : Value), BindsTo s fd ⟨[u], []⟩ [(y, u)]) ∧ mg x = some (.ref f)
theorem dl_mk {K : PySem.W.Frag} {h : Heap} {mg : Str → Option Value} {f : Addr} {oc kV dc pm cd ct : Value} {od an : Option Addr} {sl : Array (Option Value)} {x y : Str} {st : Stmt} (X : K.In h) (G : h.Ns mainGlobals mg)
 (hb : ∀ (kV doc pm : Value) (an : Option Addr) (cdv ct : Value) (u : Value), bindArgs (PySem.W.fnOf x x (defArgs st) (defBody st) (defScope st) .none kV doc pm an cdv ct) ⟨[u], []⟩ = pure [(y, u)])
 (a : PySem.W.nsIn K mainGlobals x = some (some (.ref f))) (l : K.lookup f = some ⟨oc, od, .func (PySem.W.fnOf x x (defArgs st) (defBody st) (defScope st) .none kV dc pm an cd ct), sl⟩) (c : PySem.W.codeIn K cd x = true) (k : PySem.W.keepIn K (.ref f) = true) : Dl K mg x y st :=
 ⟨_, _, ⟨⟨oc, od, .none, kV, dc, pm, an, cd, ct, sl, rfl, l, c⟩, k⟩, fun s u => .of_eq (hb kV dc pm an cd ct u), PySem.W.mg_of X G a⟩
section
variable {P : Program} {w : World} {K : PySem.W.Frag} {mg : Str → Option Value} {base : Heap} {x : Str} {ps N : List Str} {st : Stmt} {k n : Nat} {fs : FS} {fl : List Fl}
theorem FunD.ok {f : Addr} {fd : FuncData} {sp : Sp} (F : FunD K x st f fd) (S : FnScope N ps (defScope st)) (len : ∀ vs H Q E, sp vs H Q E → vs.length = ps.length)
 (hbody : ∀ (cdv : Value) (A : Around) (outer : List Env) (s : Shared) (H : Hp) (vs : List V) (Q : VK) (E : XK), Room k (A.deeper (envOfC x (defScope st) s.heap.objs.size f cdv)) → sp vs H Q E →
  ∃ t, PSs (cxOf CX0 P w K mg base N x (defScope st) f cdv A outer s H E).nox (defBody st) t ∧ t { nx := fun _ H' => Q .non H', rt := Q } (L2.start N vs) H) : FnOk P w K mg base CX0 (k + 1) f fd ps sp := by
 obtain ⟨oc, od, dV, kV, doc, pm, an, cdv, ct, osl, rfl, lk, hcd⟩ := F.ex
 refine fn_of lk hcd S len fun A outer s H vs Q E hr hsp => ?_
 obtain ⟨t, h, q⟩ := hbody cdv A outer s H vs Q E hr hsp
 exact ⟨t, h.nox, q⟩
theorem fun_ok {f : Addr} {fd : FuncData} (Fn : FunD K x st f fd) (S : FnScope N ps (defScope st)) (hp : ∀ i, i < ps.length → fl[i]? = some .A) (hN : ps.length ≤ N.length)
 (hbody : ∀ (f : Addr) (cdv : Value) (A : Around) (outer : List Env) (s : Shared) (H : Hp) (E : XK), Room k (A.deeper (envOfC x (defScope st) s.heap.objs.size f cdv)) → DSs (cx P w K mg base N x st f cdv A outer s H E) fl (defBody st) fs) :
 FnOk P w K mg base CX0 (k + 1) f fd ps (spD K (fnD ps.length (N.length - ps.length) fs)) := by
 refine Fn.ok S (fun vs H Q E h => ?_) (fun cdv A outer s H vs Q E hr h => ?_)
 ·obtain ⟨ds, d, r, hf, _⟩ := h
  unfold fnD at hf
  by_cases z : ds.length = ps.length
  ·rw [r.2.length]; exact z
  ·rw [if_neg z] at hf; cases hf
 ·obtain ⟨ds, d, r, hf, q⟩ := h
  refine ⟨_, hbody f cdv A outer s H E hr, ?_⟩
  unfold fnD at hf
  by_cases z : ds.length = ps.length
  ·rw [if_pos z] at hf
   split at hf
   ·next d' e =>
    cases hf
    exact ⟨_, _, _, _, rel_start ps.length hp z hN r, e, fun v H' s r => q v H' s r⟩
   ·next δ' e =>
    cases hf
    exact ⟨_, _, _, _, rel_start ps.length hp z hN r, e, fun ow' σ' H' R' => q .non H' R'.same0 .non⟩
   ·cases hf
  ·rw [if_neg z] at hf; cases hf
theorem dg_ok (Dd : Dg K mg x st ps) (S : FnScope N ps (defScope st)) (hp : ∀ i, i < ps.length → fl[i]? = some .A) (hN : ps.length ≤ N.length)
 (hbody : ∀ (f : Addr) (cdv : Value) (A : Around) (outer : List Env) (s : Shared) (H : Hp) (E : XK), Room k (A.deeper (envOfC x (defScope st) s.heap.objs.size f cdv)) → DSs (cx P w K mg base N x st f cdv A outer s H E) fl (defBody st) fs) :
 Has P w K mg base (k + 1) x ps (spD K (fnD ps.length (N.length - ps.length) fs)) := by
 obtain ⟨f, fd, Fn, b, m⟩ := Dd.ex
 exact ⟨f, fd, fun_ok Fn S hp hN hbody, b, Fn.kp, m⟩
end
def spLaw (K : PySem.W.Frag) : Sp := fun vs H Q _ => ∃ (a : Addr) (ns : List Int), Tb H ∧ vs = [.ref a] ∧ SqL K H a (ns.map V.int) ∧ ns.length ≤ 63 ∧ ∀ H', Q (.bl true) H'
theorem ra_ints {K : PySem.W.Frag} {ok : Ok} {pl : Bool} {H : Hp} : ∀ ns : List Int, RAs K ok pl H (ns.map V.int) (ns.map PyData.int)
 | [] => .nil
 | n :: r => .cons (.int n) (ra_ints r)
theorem law_imp {K : PySem.W.Frag} {F : List D → Option D} (hF : ∀ ns : List Int, ns.length ≤ 63 → F [.list (ns.map .int)] = some (.bool true)) (vs : List V) (H : Hp) (Q : VK) (E : XK) (h : spLaw K vs H Q E) : spD K F vs H Q E := by
 obtain ⟨a, ns, tb, rfl, hS, hl, q⟩ := h
 refine ⟨_, _, ⟨tb, .cons ?_ .nil⟩, hF ns hl, fun v H' s r => ?_⟩
 ·rcases hS with (h | ⟨o, h⟩) | h
  ·exact .lst h trivial (ra_ints ns)
  ·exact .lsk (.inl ⟨o, h⟩) rfl (ra_ints ns)
  ·exact .lsk (.inr h) rfl (ra_ints ns)
 ·obtain rfl := r.blE
  exact q H'
end D3
namespace D3
open PySem PySem.Spec PyProof.Rows L2 My
section
variable {prog : Program} {w : World} {A : Around} {E : Value → Shared → Prop} {s : Shared}
end
section
variable {X : Cx} {fl : List Fl} {a : Expr} {f : FE} {pos p p2 pos2 : Pos}
end
section
variable {X : Cx} {fl : List Fl} {a b : Expr} {pos p p2 pos2 : Pos} {fa : FA}
end
end D3
namespace D3
open PySem PySem.Spec PyProof.Rows L2 My
section
variable {X : Cx}
theorem ints_are : ∀ {ns : List Int} {its : List Value}, Vals (ns.map V.int) its → IntsAre its ns
 | [], _, .nil => .nil
 | n :: r, _, .cons h t => by
  obtain ⟨k, rfl⟩ := h
  exact .cons _ _ (ints_are t)
theorem call_sumL (hc : X.calm = true) : CallR X (.builtin "sum") (fun xs H Q => ∃ (p : Addr) (ns : List Int), xs = [.ref p] ∧ SqL X.K H p (ns.map V.int) ∧ Q (.int ns.sum) H) := by
 intro pins s σ H xs us Q I r h
 obtain ⟨p, ns, rfl, hx, q⟩ := h
 obtain ⟨u, rfl, rx⟩ := vals1 r
 cases rx
 obtain ⟨its, rvs, pl, hz⟩ := I.list hx
 have hi := ints_are rvs
 obtain ⟨xs, hxs⟩ := hi.allInts.items
 have hl : s.heap.IsList p (intItems xs) := hxs ▸ pl.isList
 refine sum_intListG (I.ok.hd hc) hl fun h' tk t' hk => ?_
 have e1 : ns = xs.toList.map (·.1) := by
  rw [← nums_intItems, ← hxs]
  exact (show numsOf its.toArray.toList = ns from hi.numsOf).symm
 have e2 : preSum (numAt xs) xs.size = ns.sum := by
  rw [preSum_eq, List.take_of_length_le (by simp), e1]
 rw [e2]
 exact ⟨.int _, H, I.kept hk, ⟨_, rfl⟩, q⟩
theorem intsD_ra {K : PySem.W.Frag} {ok : Ok} {pl : Bool} {H : Hp} : ∀ {l : List D} {ns : List Int} {ys : List V}, intsD l = some ns → RAs K ok pl H ys l → ys = ns.map V.int
 | [], _, _, e, .nil => by cases e; rfl
 | d :: r, ns, _, e, .cons h t => by
  cases d <;> first | (cases e; done) | skip
  obtain rfl := h.intE
  cases e2 : intsD r with
  | none => rw [intsD, e2] at e; cases e
  | some m =>
   rw [intsD, e2] at e
   cases e
   rw [intsD_ra e2 t]
   rfl
theorem b_sum {K : PySem.W.Frag} : BrC K (fun xs H Q => ∃ (p : Addr) (ns : List Int), xs = [.ref p] ∧ SqL K H p (ns.map V.int) ∧ Q (.int ns.sum) H) gSum := by
 intro H xs ds d Q r e q
 unfold gSum at e
 split at e
 ·next l =>
  cases e2 : intsD l with
  | none => rw [e2] at e; cases e
  | some ns =>
   rw [e2] at e
   cases e
   cases r with
   | cons r1 r2 =>
    cases r2
    obtain ⟨a, ys, rfl, hx, hr⟩ := r1.lstE
    obtain rfl := intsD_ra e2 hr
    exact ⟨a, ns, rfl, hx, q _ rfl (.int _)⟩
 ·cases e
theorem sorted_eq : ∀ {l m : List Int}, l.Perm m → l.Pairwise (· ≤ ·) → m.Pairwise (· ≤ ·) → l = m
 | [], m, p, _, _ => p.nil_eq
 | a :: l, m, p, h1, h2 => by
  cases m with
  | nil => exact absurd p.length_eq (by simp)
  | cons b m =>
   obtain ⟨a1, a2⟩ := List.pairwise_cons.mp h1
   obtain ⟨b1, b2⟩ := List.pairwise_cons.mp h2
   have e : a = b := by
    have x1 : a ∈ b :: m := p.mem_iff.mp List.mem_cons_self
    have x2 : b ∈ a :: l := p.mem_iff.mpr List.mem_cons_self
    rcases List.mem_cons.mp x1 with z | z
    ·exact z
    ·rcases List.mem_cons.mp x2 with y | y
     ·exact y.symm
     ·exact Int.le_antisymm (a1 b y) (b1 a z)
   subst e
   rw [sorted_eq (List.Perm.cons_inv p) a2 b2]
theorem vals_ints : ∀ {ns : List Int} {its : List Value}, IntsAre its ns → Vals (ns.map V.int) its
 | _, _, .nil => .nil
 | _, _, .cons n t r => .cons ⟨t, rfl⟩ (vals_ints r)
theorem call_sortedL : CallR X (.builtin "sorted") (fun xs H Q => ∃ (p : Addr) (ns : List Int), xs = [.ref p] ∧ SqL X.K H p (ns.map V.int) ∧ ns.length < 64 ∧ ∀ l, H l = none → Q (.ref l) (upd H l (.lst ((srtI ns).map V.int)))) := by
 intro pins s σ H xs us Q I r h
 obtain ⟨p, ns, rfl, hx, h64, q⟩ := h
 obtain ⟨u, rfl, rx⟩ := vals1 r
 cases rx
 obtain ⟨its, rvs, pl, hz⟩ := I.list hx
 have hi := ints_are rvs
 refine sorted_ints pl.isList hi (by rw [hi.length]; exact h64) fun out ns' a1 a2 a3 => ?_
 obtain rfl := sorted_eq (a2.trans (srtI_perm ns).symm) a3 (srtI_sorted ns)
 obtain ⟨e, he⟩ := sortedAll_at s.heap its out
 have hn : H (s.heap.objs.size + 1) = none := I.hok.fresh (Nat.le_succ _)
 have ll : (srtI ns).length = ns.length := (srtI_perm ns).length_eq
 have I2 := I.laid (h' := sortedAll s.heap its out) (t' := s.toks) (a := s.heap.objs.size + 1) (o := .lst ((srtI ns).map V.int)) (fun b u e => sortedAll_old e) (Nat.le_succ _)
  ⟨by rw [List.length_map, ll]; exact Nat.le_trans (Nat.le_of_lt h64) (by decide), out.toList, e, vals_ints a1, by simpa [seqObj] using he⟩
 exact ⟨.ref _, _, I2, rfl, q _ hn⟩
theorem de_sorted {fl : List Fl} {e : Expr} {fa : FA} {p pos : Pos} (ha : DB X fl .P [e] fa) (hg : Gl X "sorted") (hm : X.mg "sorted" = none)
 (he : starEach [e] X.env = (false, eval e X.env) :: starEach [] X.env := by rfl) (hpl : (backTo pos (starEach [] X.env)).any (·.1) = false := by rfl) : DE X fl .FC (.Call (.Name "sorted" p) [e] [] pos) (dCall gSort fa) :=
 PE.imp (pe_callB call_sortedL hg hm (show bootBuiltins "sorted" = some (.builtin "sorted") by decide +kernel) ha (by decide) (by decide) he hpl) fun σ H Q h => by
 obtain ⟨G, ow, δ, d, R, hf, q⟩ := h
 obtain ⟨ds, e1, e2⟩ := bind1 hf
 refine ⟨G, ow, δ, ds, R, e1, fun vs H' s r' => ?_⟩
 unfold gSort at e2
 split at e2
 ·next l =>
  cases e3 : intsD l with
  | none => rw [e3] at e2; cases e2
  | some ns =>
   rw [e3, Option.bind_some] at e2
   by_cases h64 : ns.length < 64
   ·rw [if_pos h64] at e2
    cases e2
    cases r' with
    | cons r1 r2 =>
     cases r2
     obtain ⟨a, ys, rfl, hx, hr⟩ := r1.lstE
     obtain rfl := intsD_ra e3 hr
     exact ⟨a, ns, rfl, hx, h64, fun l hn => q _ _ (s.trans (same_new hn _)) (.inr ⟨_, _, _, rfl, rfl, s.free hn, upd_same, ra_ints _⟩)⟩
   ·rw [if_neg h64] at e2; cases e2
 ·cases e2
end
end D3
namespace D3
open PySem PySem.Spec PyProof.Rows L2 My
def gK (n : Nat) (us ws : List α) : List α := if ws.length = n then us ++ ws else []
structure HasD (P : Program) (w : World) (K : PySem.W.Frag) (mg : Str → Option Value) (base : Heap) (n : Nat) (x : Str) (ps : List Str) (sp : Sp) (dvs : List V) (ks : List Str) : Prop where
 ex : ∃ (f : Addr) (fd : FuncData) (ds : List Value), FnOk P w K mg base CX0 n f fd ps sp ∧ Binds K fd ps ds ∧ Vals dvs ds ∧ KBinds K fd ps ks (gK ks.length) (gK ks.length) ∧ PySem.W.keepIn K (.ref f) = true ∧ mg x = some (.ref f)
structure DgD (K : PySem.W.Frag) (mg : Str → Option Value) (x : Str) (st : Stmt) (ps : List Str) (dvs : List V) (ks : List Str) : Prop where
 ex : ∃ (f : Addr) (fd : FuncData) (ds : List Value), FunD K x st f fd ∧ Binds K fd ps ds ∧ Vals dvs ds ∧ KBinds K fd ps ks (gK ks.length) (gK ks.length) ∧ mg x = some (.ref f)
section
variable {P : Program} {w : World} {K : PySem.W.Frag} {mg : Str → Option Value} {base : Heap} {x : Str} {ps N ks : List Str} {st : Stmt} {k n : Nat} {fs : FS} {fl : List Fl} {dvs : List V}
end
section
variable {X : Cx} {fl : List Fl} {e ke : Expr} {es : List Expr} {pos p kpos : Pos} {x kn : Str} {ps : List Str} {n : Nat} {F : List D → Option D} {fa : FA} {fk : FE} {i : Int} {dvs : List V}
theorem b_int1 {K : PySem.W.Frag} : BrC K (fun xs H Q => (∃ i, xs = [.int i] ∧ Q (.int i) H) ∨ ∃ k, xs = [.bl k] ∧ Q (.int (if k then 1 else 0)) H) gInt := by
 intro H xs ds d Q r e q
 unfold gInt at e
 split at e
 ·cases e
  cases r with
  | cons r1 r2 =>
   cases r2
   obtain rfl := r1.intE
   exact .inl ⟨_, rfl, q _ rfl (.int _)⟩
 ·cases e
  cases r with
  | cons r1 r2 =>
   cases r2
   obtain rfl := r1.blE
   exact .inr ⟨_, rfl, q _ rfl (.int _)⟩
 ·cases e
theorem dt_isN {j pos'} {a : Expr} {f : FE} (h : DE X fl .P a f) : DT X fl (.Compare a [.Is] [.Constant .none j pos'] pos) (tBool (dUn gIsN f)) := PT.imp (pt_cmp (pc_isN h)) fun σ H Q h => by
 obtain ⟨G, ow, δ, c, R, hf, q⟩ := h
 obtain ⟨d, e1, e2⟩ := bind1 hf
 obtain ⟨x, e3, e4⟩ := bind1 e1
 cases e4
 cases e2
 refine ⟨G, ow, δ, x, R, e3, fun v H1 s1 r1 => ?_⟩
 refine ⟨decide (v = .non), rfl, ?_⟩
 rw [isN_eq (RA.same (Same.refl H1) r1)]
 exact q H1 s1
theorem de_intc {p : Pos} (ha : DB X fl .P [e] fa) (hg : Gl X "int") (hm : X.mg "int" = none)
 (he : starEach [e] X.env = (false, eval e X.env) :: starEach [] X.env := by rfl) (hpl : (backTo pos (starEach [] X.env)).any (·.1) = false := by rfl) : DE X fl .FC (.Call (.Name "int" p) [e] [] pos) (dCall gInt fa) :=
 PE.imp (pe_callTy call_int1 hg hm boot_int ha (by decide) (by decide) he hpl) fun σ H Q h => by
 obtain ⟨G, ow, δ, d, R, hf, q⟩ := h
 obtain ⟨ds, e1, e2⟩ := bind1 hf
 exact ⟨G, ow, δ, ds, R, e1, fun vs H' s r' => b_int1 H' vs ds d Q r' e2 fun v hv rv => q v H' s (.inl ⟨hv, rv⟩)⟩
end
end D3
namespace D3
open PySem PySem.Spec PyProof.Rows L2 My
section
variable {X : Cx}
theorem call_minL (hc : X.calm = true) : CallR X (.builtin "min") (fun xs H Q => ∃ (p : Addr) (i : Int) (r : List Int), xs = [.ref p] ∧ SqL X.K H p ((i :: r).map V.int) ∧ Q (.int (mnI i r)) H) := by
 intro pins s σ H xs us Q I r h
 obtain ⟨p, i, r0, rfl, hx, q⟩ := h
 obtain ⟨u, rfl, rx⟩ := vals1 r
 cases rx
 obtain ⟨its, rvs, pl, hz⟩ := I.list hx
 have hi := ints_are rvs
 obtain ⟨xs, e⟩ := hi.allInts.items
 have hns : i :: r0 = xs.toList.map (·.1) := by rw [← hi.numsOf, ← nums_intItems, ← e]
 have hsz : 0 < xs.size := by
  have h3 : 0 < (i :: r0).length := by simp
  rw [hns, List.length_map, Array.length_toList] at h3; exact h3
 have hl : s.heap.IsList p (intItems xs) := e ▸ pl.isList
 refine min_intList (I.ok.hd hc) hl hsz fun v h' tk hv hk => ?_
 obtain ⟨t, rfl⟩ := intItems_at hv
 obtain ⟨h1, h2⟩ := argBest_lt (numAt xs) (xs.size - 1)
 have m1 : numAt xs (argBest (fun i j => decide (numAt xs i < numAt xs j)) (xs.size - 1)) ∈ i :: r0 := by
  rw [hns, numAt_eq]; exact getD_mem (by rw [List.length_map, Array.length_toList]; omega)
 have m2 : ∀ a ∈ i :: r0, numAt xs (argBest (fun i j => decide (numAt xs i < numAt xs j)) (xs.size - 1)) ≤ a := fun a ha => by
  rw [hns] at ha
  obtain ⟨j, hj, rfl⟩ := mem_getD ha
  rw [List.length_map, Array.length_toList] at hj
  rw [← numAt_eq]; exact h2 j (by omega)
 have sp := mnI_spec r0 i
 have eq : numAt xs (argBest (fun i j => decide (numAt xs i < numAt xs j)) (xs.size - 1)) = mnI i r0 := Int.le_antisymm (m2 _ sp.1) (sp.2 _ m1)
 rw [eq]
 exact ⟨.int _, H, I.kept hk, ⟨_, rfl⟩, q⟩
theorem b_minL {K : PySem.W.Frag} : BrC K (fun xs H Q => ∃ (p : Addr) (i : Int) (r : List Int), xs = [.ref p] ∧ SqL K H p ((i :: r).map V.int) ∧ Q (.int (mnI i r)) H) gMinL := by
 intro H xs ds d Q r e q
 unfold gMinL at e
 split at e
 ·next l =>
  split at e
  ·next i r0 e2 =>
   cases e
   cases r with
   | cons r1 r2 =>
    cases r2
    obtain ⟨a, ys, rfl, hx, hr⟩ := r1.lstE
    obtain rfl := intsD_ra e2 hr
    exact ⟨a, i, r0, rfl, hx, q _ rfl (.int _)⟩
  ·cases e
 ·cases e
theorem bools_at : ∀ {bs : List Bool} {its : List Value}, Vals (bs.map V.bl) its → its = bs.map Value.bool
 | [], _, .nil => rfl
 | b :: r, _, .cons h t => by
  cases h
  rw [bools_at t]
  rfl
theorem all_range (bs : List Bool) : (List.range bs.length).all (fun i => bs.getD i false) = bs.all id := by
 rw [Bool.eq_iff_iff, List.all_eq_true, List.all_eq_true]
 constructor
 ·intro h b hb
  obtain ⟨i, hi, rfl⟩ := List.getElem_of_mem hb
  have := h i (List.mem_range.mpr hi)
  rw [List.getD_eq_getElem?_getD, List.getElem?_eq_getElem hi] at this
  exact this
 ·intro h i hi
  have hi := List.mem_range.mp hi
  rw [List.getD_eq_getElem?_getD, List.getElem?_eq_getElem hi]
  exact h _ (List.getElem_mem hi)
theorem bools_truth {prog : Program} {w : World} {A : Around} (bs : List Bool) : TruthOf prog w A (fun i v => (bs.map Value.bool).toArray[i]? = some v) (fun i => bs.getD i false) := by
 intro i v s Q E hv hQ
 have hv' : (bs.map Value.bool)[i]? = some v := by simpa using hv
 rw [List.getElem?_map] at hv'
 cases e : bs[i]? with
 | none => rw [e] at hv'; cases hv'
 | some b =>
  rw [e] at hv'
  cases hv'
  have eb : bs.getD i false = b := by rw [List.getD_eq_getElem?_getD, e]; rfl
  have hQ' : Q (bs.getD i false) s := hQ
  rw [eb] at hQ'
  exact wpAny_truthy_bool hQ'
theorem call_allL (hc : X.calm = true) : CallR X (.builtin "all") (fun xs H Q => ∃ (p : Addr) (bs : List Bool), xs = [.ref p] ∧ SqL X.K H p (bs.map V.bl) ∧ Q (.bl (bs.all id)) H) := by
 intro pins s σ H xs us Q I r h
 obtain ⟨p, bs, rfl, hx, q⟩ := h
 obtain ⟨u, rfl, rx⟩ := vals1 r
 cases rx
 obtain ⟨its, rvs, pl, hz⟩ := I.list hx
 obtain rfl := bools_at rvs
 have hl : s.heap.IsList p (bs.map Value.bool).toArray := pl.isList
 have hlt : p < s.heap.objs.size := by obtain ⟨_, e, _⟩ := id hl; exact Heap.lt_size e
 refine call_all_walk (wpAny_pyIter_list hl ?_)
 refine ⟨_, _, _, _, _, _, _, rfl, Walks.list (A := X.A.in1) (I.ok.hd hc) _ p (Nat.ne_of_lt hlt) (bs.map Value.bool).toArray, ⟨⟨_, Heap.get?_push_size _ rfl, rfl, rfl⟩, hl.push _⟩, bools_truth bs, fun h' tk hk => ?_⟩
 have e : (bs.map Value.bool).toArray.size = bs.length := by simp
 rw [e, all_range]
 exact ⟨.bl _, H, I.kept (old_kept hk), rfl, q⟩
theorem boolsD_ra {K : PySem.W.Frag} {ok : Ok} {pl : Bool} {H : Hp} : ∀ {l : List D} {bs : List Bool} {ys : List V}, boolsD l = some bs → RAs K ok pl H ys l → ys = bs.map V.bl
 | [], _, _, e, .nil => by cases e; rfl
 | d :: r, bs, _, e, .cons h t => by
  cases d <;> first | (cases e; done) | skip
  obtain rfl := h.blE
  cases e2 : boolsD r with
  | none => rw [boolsD, e2] at e; cases e
  | some m =>
   rw [boolsD, e2] at e
   cases e
   rw [boolsD_ra e2 t]
   rfl
theorem b_all {K : PySem.W.Frag} : BrC K (fun xs H Q => ∃ (p : Addr) (bs : List Bool), xs = [.ref p] ∧ SqL K H p (bs.map V.bl) ∧ Q (.bl (bs.all id)) H) gAll := by
 intro H xs ds d Q r e q
 unfold gAll at e
 split at e
 ·next l =>
  cases e2 : boolsD l with
  | none => rw [e2] at e; cases e
  | some bs =>
   rw [e2] at e
   cases e
   cases r with
   | cons r1 r2 =>
    cases r2
    obtain ⟨a, ys, rfl, hx, hr⟩ := r1.lstE
    obtain rfl := boolsD_ra e2 hr
    exact ⟨a, bs, rfl, hx, q _ rfl (.bl _)⟩
 ·cases e
end
section
variable {X : Cx} {fl : List Fl} {a : Expr} {f : FE} {pos : Pos} {ta : TE}
theorem pc_notT {j pos'} (ha : PE X a ta) : PC X .IsNot a (.Constant (.bool true) j pos') (fun σ H Q => ta σ H fun x H1 => ∃ b, x = .bl b ∧ Q (.bl (!b)) H1) := by
 intro pins s σ H Q I h
 refine thn (ha pins s σ H _ I h) fun v s1 ⟨x, H1, I1, r1, q1⟩ => ?_
 obtain ⟨b, rfl, q⟩ := q1
 cases r1
 refine Constant_bool ?_
 cases b
 ·exact wpAny_pure ⟨.bl true, H1, I1, rfl, q⟩
 ·exact wpAny_pure ⟨.bl false, H1, I1, rfl, q⟩
end
section
variable {X : Cx} {fl : List Fl} {a b c : Expr} {f fa fb fc : FE} {pos : Pos}
theorem dt_chain {op op' : CmpOp} {r r' : R2} {g g' : D → D → Option D} (ho : OpR X (compareOp op) r) (ho' : OpR X (compareOp op') r') (hb : BrO X.K r g) (hb' : BrO X.K r' g') (h1 : DE X fl .P a fa) (h2 : DE X fl .P b fb) (h3 : DE X fl .P c fc)
 (hm : lastMarks [op, op'] [b, c] = false := by with_unfolding_all rfl) : DT X fl (.Compare a [op, op'] [b, c] pos) (tBool (dChain g g' fa fb fc)) := PT.imp (pt_chain ho ho' h1 h2 h3 hm) fun σ H Q h => by
 obtain ⟨G, ow, δ, bb, R, hf, q⟩ := h
 obtain ⟨d, hf, hd⟩ := bind1 hf
 have hd' : d = .bool bb := by cases d <;> first | (cases hd; rfl) | (cases hd; done)
 subst hd'
 obtain ⟨x, e1, hf⟩ := bind1 hf
 obtain ⟨y, e2, hf⟩ := bind1 hf
 obtain ⟨z, e3, hf⟩ := bind1 hf
 refine ⟨G, ow, δ, x, R, e1, fun v H1 s1 r1 => ⟨G, ow, δ, y, R.grow s1, e2, fun u H2 s2 r2 => ?_⟩⟩
 refine hb H2 v u x y z _ (RA.same s2 r1) r2 e3 fun zv hz rz => ?_
 split at hf
 ·obtain rfl := rz.blE
  obtain ⟨w, e4, e5⟩ := bind1 hf
  refine ⟨true, rfl, iteT ⟨G, ow, δ, w, R.grow (s1.trans s2), e4, fun wv H3 s3 r3 => ?_⟩⟩
  refine hb' H3 u wv y w _ _ (RA.same s3 r2) r3 e5 fun z hz rz => ?_
  obtain rfl := rz.blE
  exact ⟨_, rfl, q H3 (s1.trans (s2.trans s3))⟩
 ·obtain rfl := rz.blE
  cases hf
  exact ⟨false, rfl, iteF ⟨_, rfl, q H2 (s1.trans s2)⟩⟩
 ·cases hf
theorem dt_notT {j pos'} (h : DE X fl .P a f) : DT X fl (.Compare a [.IsNot] [.Constant (.bool true) j pos'] pos) (tBool (dUn gNotT f)) := PT.imp (pt_cmp (pc_notT h)) fun σ H Q h => by
 obtain ⟨G, ow, δ, bb, R, hf, q⟩ := h
 obtain ⟨d, hf, hd⟩ := bind1 hf
 obtain ⟨x, e1, e2⟩ := bind1 hf
 cases x <;> first | (cases e2; done) | skip
 cases e2
 cases hd
 refine ⟨G, ow, δ, _, R, e1, fun v H1 s1 r1 => ?_⟩
 obtain rfl := RA.blE r1
 exact ⟨_, rfl, _, rfl, q H1 s1⟩
theorem dt_notN {j pos'} (h : DE X fl .P a f) : DT X fl (.Compare a [.IsNot] [.Constant .none j pos'] pos) (tBool (dUn gNotN f)) := PT.imp (pt_cmp (pc_notN h)) fun σ H Q h => by
 obtain ⟨G, ow, δ, bb, R, hf, q⟩ := h
 obtain ⟨d, hf, hd⟩ := bind1 hf
 obtain ⟨x, e1, e2⟩ := bind1 hf
 cases e2
 cases hd
 refine ⟨G, ow, δ, x, R, e1, fun v H1 s1 r1 => ?_⟩
 refine ⟨!decide (v = .non), rfl, ?_⟩
 rw [isN_eq (RA.same (Same.refl H1) r1)]
 exact q H1 s1
end
def Itz (K : PySem.W.Frag) (a b : Addr) : It :=
 ⟨fun i H => ∃ xs ys x y, SqL K H a xs ∧ SqL K H b ys ∧ xs[i]? = some x ∧ ys[i]? = some y,
  fun i H x H' => ∃ p u v, H p = none ∧ H' = upd H p (.tup [u, v]) ∧ x = .ref p ∧ (∀ xs, SqL K H a xs → xs[i]? = some u) ∧ ∀ ys, SqL K H b ys → ys[i]? = some v,
  fun i H => ∃ xs ys, SqL K H a xs ∧ SqL K H b ys ∧ (xs.length ≤ i ∨ ys.length ≤ i)⟩
theorem zip_apart {h : Heap} {z TI TO i1 i2 l1 l2 : Addr} {k1 k2 : Nat} {f0 a b : Value} {x y : Value} {xs ys : Array Value} (hz : IsZip h z TI TO f0) (hTI : IsPair h TI x y) (hTO : IsPair h TO a b) (h1 : h.IsListIter i1 l1 k1) (h2 : h.IsListIter i2 l2 k2) (hl1 : h.IsList l1 xs) (hl2 : h.IsList l2 ys) (nT : TI ≠ TO) (ni : i1 ≠ i2) :
 ZipApart z TI TO i1 i2 l1 l2 := by
 obtain ⟨o1, e1, c1, d1⟩ := h1
 obtain ⟨o2, e2, c2, d2⟩ := h2
 obtain ⟨p1, g1, k1, m1⟩ := hl1
 obtain ⟨p2, g2, k2, m2⟩ := hl2
 have ne : ∀ {u v : Addr} {o o' : Obj}, h.get? u = some o → h.get? v = some o' → o.cls ≠ o'.cls → u ≠ v := fun e e' n z => by
  subst z
  rw [e] at e'
  cases e'
  exact n rfl
 exact ⟨ne hTI hz (by simp), ne hTO hz (by simp), ne e1 hz (by rw [c1]; simp), ne e2 hz (by rw [c2]; simp), nT, ne hTI e1 (by rw [c1]; simp), ne hTI e2 (by rw [c2]; simp), ne hTO e1 (by rw [c1]; simp), ne hTO e2 (by rw [c2]; simp), ni,
  ne g1 hz (by rw [k1]; simp), ne g1 hTO (by rw [k1]; simp), ne g1 e1 (by rw [k1, c1]; simp), ne g1 e2 (by rw [k1, c2]; simp), ne g2 hz (by rw [k2]; simp), ne g2 hTO (by rw [k2]; simp), ne g2 e1 (by rw [k2, c1]; simp), ne g2 e2 (by rw [k2, c2]; simp)⟩
theorem turn_zip {P : Program} {w : World} {K : PySem.W.Frag} {elts : List Expr} {x1} {tpos : Pos} (a b z TI TO i1 i2 : Addr) (nT : TI ≠ TO) (ni : i1 ≠ i2) :
 Turn P w K (.Tuple elts x1 tpos) (Itz K a b) [z, TI, TO, i1, i2] z (fun i h => IsZip h z TI TO .none ∧ IsPair h TI (.ref i1) (.ref i2) ∧ (∃ u v, IsPair h TO u v) ∧ h.IsListIter i1 a i ∧ h.IsListIter i2 b i) where
 mem := by simp
 obj := fun i h st c hc => by
  obtain ⟨hz, hTI, ⟨u, v, hTO⟩, ⟨o1, e1, c1, d1⟩, ⟨o2, e2, c2, d2⟩⟩ := st
  simp only [List.mem_cons, List.mem_singleton, List.not_mem_nil, or_false] at hc
  rcases hc with rfl | rfl | rfl | rfl | rfl
  ·exact ⟨_, hz, fun v z => by cases z⟩
  ·exact ⟨_, hTI, fun v z => by cases z⟩
  ·exact ⟨_, hTO, fun v z => by cases z⟩
  ·exact ⟨o1, e1, fun v z => by rw [d1] at z; cases z⟩
  ·exact ⟨o2, e2, fun v z => by rw [d2] at z; cases z⟩
 keep := fun i h h' st k => by
  obtain ⟨hz, hTI, ⟨u, v, hTO⟩, h1, h2⟩ := st
  exact ⟨k _ (by simp) _ hz, k _ (by simp) _ hTI, ⟨u, v, k _ (by simp) _ hTO⟩, h1.at fun o e => k i1 (by simp) o e, h2.at fun o e => k i2 (by simp) o e⟩
 item := by
  intro X hP hw hK hc i pins s σ H E I hf st hg
  subst hP hw hK
  obtain ⟨xs, ys, x, y, hqa, hqb, hx, hy⟩ := hg
  obtain ⟨itsa, rva, pa, hza⟩ := I.list hqa
  obtain ⟨itsb, rvb, pb, hzb⟩ := I.list hqb
  obtain ⟨ua, hua, rua⟩ := rva.get hx
  obtain ⟨ub, hub, rub⟩ := rvb.get hy
  obtain ⟨hz, hTI, ⟨u, v, hTO⟩, h1, h2⟩ := st
  have D := zip_apart hz hTI hTO h1 h2 pa.isList pb.isList nT ni
  have lts : ∀ c ∈ [z, TI, TO, i1, i2], c < s.heap.objs.size := fun c hc => by
   simp only [List.mem_cons, List.mem_singleton, List.not_mem_nil, or_false] at hc
   rcases hc with rfl | rfl | rfl | rfl | rfl
   ·exact Heap.lt_size hz
   ·exact Heap.lt_size hTI
   ·exact Heap.lt_size hTO
   ·obtain ⟨o, e, _⟩ := h1; exact Heap.lt_size e
   ·obtain ⟨o, e, _⟩ := h2; exact Heap.lt_size e
  refine wpAny_pyNext_zip_item D hz hTI hTO h1 h2 pa.isList pb.isList (x := ua) (y := ub) (by simpa using hua) (by simpa using hub) fun hh g1 g2 g3 g4 g5 g6 g7 => ?_
  refine ⟨_, rfl, wpAny_letOwnedTupleGo_zip g1 fun hh2 e1 e2 => ?_⟩
  replace e2 : Heap.SameBut z hh hh2 := e2
  have hn : H s.heap.objs.size = none := I.hok.fresh (Nat.le_refl _)
  have I0 : Inv X pins σ (upd H s.heap.objs.size (.tup [x, y])) { s with heap := s.heap.push { cls := .type "tuple", data := .seq #[ua, ub] } } :=
   I.laid (t' := s.toks) (fun b o e => Heap.get?_push_of_some _ e) (Nat.le_refl _) ⟨show 2 ≤ sizeLine by decide, [ua, ub], .cons rua (.cons rub .nil), ⟨_, Heap.get?_push_size _ rfl, rfl, _, rfl⟩⟩
  have ne : ∀ c, c ∈ [z, TI, TO, i1, i2] → c ≠ s.heap.objs.size := fun c hc => Nat.ne_of_lt (lts c hc)
  have I1 : Inv X pins σ (upd H s.heap.objs.size (.tup [x, y])) { s with heap := hh2, toks := s.toks } := by
   refine Inv.turnedL (s := { s with heap := s.heap.push { cls := .type "tuple", data := .seq #[ua, ub] } }) (ch := [z, TI, TO, i1, i2]) I0 (fun c o hc e => ?_) fun c hc => ⟨by rw [upd_ne (ne c hc)]; exact (hf c hc).1, (hf c hc).2⟩
   have b1 : c ≠ z := fun q => hc (by simp [q])
   have b2 : c ≠ TO := fun q => hc (by simp [q])
   have b3 : c ≠ i1 := fun q => hc (by simp [q])
   have b4 : c ≠ i2 := fun q => hc (by simp [q])
   rcases Heap.get?_push_cases e with ⟨e3, e4⟩ | e3
   ·subst e3 e4
    exact (e2.2 _ b1).trans g5
   ·exact (e2.2 _ b1).trans (g7 c o b1 b2 b3 b4 e3)
  refine ⟨.ref s.heap.objs.size, _, I1, rfl, ⟨_, x, y, hn, rfl, rfl, fun zs hz' => by rw [I.list_inj hz' hqa]; exact hx, fun zs hz' => by rw [I.list_inj hz' hqb]; exact hy⟩, ⟨e1, (e2.2 _ D.TIz).trans (g7 _ _ D.TIz D.TITO D.TIi1 D.TIi2 hTI), ⟨_, _, (e2.2 _ D.TOz).trans g2⟩, g3.at fun o e => (e2.2 _ D.i1z).trans e, g4.at fun o e => (e2.2 _ D.i2z).trans e⟩, fun c hc => ?_⟩
  rw [upd_ne (ne c hc)]
  exact (hf c hc).1
 done := by
  intro X hP hw hK hc i pins s σ H E I hf st hg
  subst hP hw hK
  obtain ⟨xs, ys, hqa, hqb, hx⟩ := hg
  obtain ⟨itsa, rva, pa, hza⟩ := I.list hqa
  obtain ⟨itsb, rvb, pb, hzb⟩ := I.list hqb
  obtain ⟨hz, hTI, ⟨u, v, hTO⟩, h1, h2⟩ := st
  have D := zip_apart hz hTI hTO h1 h2 pa.isList pb.isList nT ni
  have la := rva.length
  have lb := rvb.length
  refine wpAny_pyNext_zip_end (I.ok.hd hc) D hz hTI hTO h1 h2 pa.isList pb.isList ?_ fun h' eb => ⟨rfl, Inv.turnedL (t' := s.toks) (ch := [z, TI, TO, i1, i2]) I (fun c o hc e => eb c o (fun q => hc (by simp [q])) (fun q => hc (by simp [q])) (fun q => hc (by simp [q])) (fun q => hc (by simp [q])) e) hf⟩
  rcases hx with hx | hx
  ·exact .inl (by simp; omega)
  ·exact .inr (by simp; omega)
 self := fun _ _ _ _ _ st h => wpAny_pyIter_zip st.1 h
section
variable {X : Cx} {fl : List Fl} {a b : Expr} {f g : FE} {pos : Pos}
def iZip (K : PySem.W.Frag) (ta tb : TE) : TI := fun σ H R => ta σ H fun x H1 => tb σ H1 fun y H2 => ∃ p q, x = .ref p ∧ y = .ref q ∧ (∃ xs, SqL K H2 p xs) ∧ (∃ ys, SqL K H2 q ys) ∧ R (Itz K p q) H2
theorem boot_zip : bootBuiltins "zip" = some (.type "zip") := by decide +kernel
theorem pi_zip {elts : List Expr} {x1} {tpos p : Pos} {ta tb : TE} (hg : Gl X "zip") (hm : X.mg "zip" = none) (ha : PE X a ta) (hb : PE X b tb) (he : starEach [a, b] X.env = (false, eval a X.env) :: starEach [b] X.env := by rfl) (he2 : starEach [b] X.env = (false, eval b X.env) :: starEach [] X.env := by rfl)
 (hpl : (backTo pos (starEach [b] X.env)).any (·.1) = false := by rfl) : PI X (.Tuple elts x1 tpos) (.Call (.Name "zip" p) [a, b] [] pos) (iZip X.K ta tb) := by
 intro pins s σ H R I h
 refine wpAny_Call_Name_kw (ld_blt I hg hm boot_zip (PyProof.Rows.callWith_type1 (thn ((pa_cons ha (pa_cons hb pa_nil he2) he) pos pins s σ H (fun vs H1 => match vs with | [x, y] => ∃ p q, x = .ref p ∧ y = .ref q ∧ (∃ xs, SqL X.K H1 p xs) ∧ (∃ ys, SqL X.K H1 q ys) ∧ R (Itz X.K p q) H1 | _ => False) I h) fun us s1 ⟨vs, H1, I1, r1, q1⟩ => ?_) he hpl))
 cases r1 with
 | nil => exact q1.elim
 | cons r rr =>
  cases rr with
  | nil => exact q1.elim
  | cons r' rr' =>
  cases rr' with
  | cons _ _ => exact q1.elim
  | nil =>
  obtain ⟨l, m, e, e', ⟨xs, hq⟩, ⟨ys, hq'⟩, q⟩ := q1
  subst e e'
  cases r
  cases r'
  obtain ⟨its, rv, pl, hz⟩ := I1.list hq
  obtain ⟨its', rv', pl', hz'⟩ := I1.list hq'
  refine call_zip_2 pl.isList pl'.isList fun h' g1 g2 g3 g4 g5 g6 hk => ?_
  have I2 : Inv X pins σ H1 { s1 with heap := h' } := I1.kept (t' := s1.toks) hk
  refine wpAny_pyIter_zip (s := { s1 with heap := h' }) g1 ?_
  refine ⟨s1.heap.objs.size + 4, [s1.heap.objs.size + 4, s1.heap.objs.size + 2, s1.heap.objs.size + 3, s1.heap.objs.size, s1.heap.objs.size + 1], _, _, H1, rfl, I2, turn_zip l m (s1.heap.objs.size + 4) (s1.heap.objs.size + 2) (s1.heap.objs.size + 3) s1.heap.objs.size (s1.heap.objs.size + 1) (Nat.ne_of_lt (Nat.lt_succ_self _)) (Nat.ne_of_lt (Nat.lt_succ_self _)), ⟨g1, g2, ⟨_, _, g3⟩, g4, g5⟩, fun b hb => ?_, q⟩
  have hb' : s1.heap.objs.size ≤ b := by
   simp only [List.mem_cons, List.mem_singleton, List.not_mem_nil, or_false] at hb
   rcases hb with rfl | rfl | rfl | rfl | rfl <;> omega
  exact I1.fpOk hb' (I1.hok.fresh hb')
theorem zipD_get : ∀ (l m : List D) (i : Nat), (zipD l m)[i]? = (l[i]?).bind fun x => (m[i]?).map fun y => PyData.tuple [x, y]
 | [], _, i => by simp [zipD]
 | _ :: _, [], i => by cases i <;> simp [zipD]
 | x :: l, y :: m, 0 => by simp [zipD]
 | x :: l, y :: m, i + 1 => by simp [zipD, zipD_get l m i]
theorem zipD_len : ∀ (l m : List D), (zipD l m).length = min l.length m.length
 | [], _ => by simp [zipD]
 | _ :: _, [] => by simp [zipD]
 | x :: l, y :: m => by simp [zipD, zipD_len l m]
theorem RsB.same {K : PySem.W.Frag} {G : Gh} {ow : Ow} {Hb H H' : Hp} {L : List Nat} {v : V} {d : D} (e : Same H H') (h : Rs K G.H0 ow Hb H (.B L) v d) : Rs K G.H0 ow Hb H' (.B L) v d := by
 rcases h with h | ⟨i, hi, a, xs, ds, h1, h2, h3, h4, h5⟩
 ·exact .inl (RA.same e h)
 ·exact .inr ⟨i, hi, a, xs, ds, h1, h2, h3, e _ _ h4, h5.same e⟩
theorem di_zip {elts : List Expr} {x1} {tpos p : Pos} {L1 L2 L : List Nat} (ha : DE X fl (.B L1) a f) (hb : DE X fl (.B L2) b g) (hg : Gl X "zip") (hm : X.mg "zip" = none) (hL : L = L1 ++ L2 := by rfl)
 (he : starEach [a, b] X.env = (false, eval a X.env) :: starEach [b] X.env := by rfl) (he2 : starEach [b] X.env = (false, eval b X.env) :: starEach [] X.env := by rfl)
 (hpl : (backTo pos (starEach [b] X.env)).any (·.1) = false := by rfl) : DI X fl L (.Tuple elts x1 tpos) (.Call (.Name "zip" p) [a, b] [] pos) (fZip f g) := PI.imp (pi_zip hg hm ha hb he he2 hpl) fun σ H R' h => by
 subst hL
 obtain ⟨G, ow, δ, l, R, hf, q⟩ := h
 obtain ⟨d, e1, hf⟩ := bind1 hf
 obtain ⟨d', e2, hf⟩ := bind1 hf
 obtain ⟨l0, rfl⟩ : ∃ l0, d = .list l0 := by cases d <;> first | exact ⟨_, rfl⟩ | (cases hf; done)
 obtain ⟨m0, rfl⟩ : ∃ m0, d' = .list m0 := by cases d' <;> first | exact ⟨_, rfl⟩ | (cases hf; done)
 cases hf
 refine ⟨G, ow, δ, _, R, e1, fun v H1 s1 r1 => ⟨G, ow, δ, _, R.grow s1, e2, fun v' H2 s2 r2 => ?_⟩⟩
 have r1' := RsB.same s2 r1
 obtain ⟨pa, xs, rfl, hx, keepa⟩ := walk_B ((R.grow s1).grow s2) r1'
 obtain ⟨pb, ys, rfl, hy, keepb⟩ := walk_B ((R.grow s1).grow s2) r2
 refine ⟨pa, pb, rfl, rfl, ⟨xs, hx⟩, ⟨ys, hy⟩, q _ _ (s1.trans s2) fun H3 k3 i => ?_⟩
 obtain ⟨a1, a2⟩ := keepa H3 fun b o e z => k3 b o e fun i w => List.mem_append_left _ (z i w)
 obtain ⟨b1, b2⟩ := keepb H3 fun b o e z => k3 b o e fun i w => List.mem_append_right _ (z i w)
 refine ⟨fun d hd => ?_, fun hl => ⟨xs, ys, a1, b1, ?_⟩⟩
 ·rw [zipD_get] at hd
  cases ea : l0[i]? with
  | none => rw [ea] at hd; cases hd
  | some x0 =>
   cases eb : m0[i]? with
   | none => rw [ea, eb] at hd; cases hd
   | some y0 =>
    rw [ea, eb] at hd
    cases hd
    obtain ⟨x, hx1, rx⟩ := a2.get ea
    obtain ⟨y, hy1, ry⟩ := b2.get eb
    refine ⟨⟨xs, ys, x, y, a1, b1, hx1, hy1⟩, fun z H4 hyl => ?_⟩
    obtain ⟨p', u, v, hp, rfl, rfl, hu, hv⟩ := hyl
    have eu : some x = some u := hx1.symm.trans (hu xs a1)
    have ev : some y = some v := hy1.symm.trans (hv ys b1)
    cases eu
    cases ev
    have gg := same_new hp (.tup [x, y])
    exact ⟨gg, .tup upd_same (.cons (rx.same gg) (.cons (ry.same gg) .nil))⟩
 ·rw [zipD_len] at hl
  rw [a2.length, b2.length]
  omega
end
end D3
namespace D3
open PySem PySem.Spec PyProof.Rows L2 My
section
variable {X : Cx} {fl : List Fl} {e a b c : Expr} {es rest : List Expr} {k : Kd} {f fa fb fc : FE} {ft gt : FT} {pos : Pos}
theorem de_dicT : DE X fl .T (.Dict [] [] pos) (dC (.dict [])) := PE.imp pe_dnewK fun σ H Q h => by
 obtain ⟨G, ow, δ, d, R, hf, q⟩ := h
 cases hf
 intro p hp
 exact q _ _ (same_new hp _) ⟨[p], .dic upd_same, List.nodup_cons.mpr ⟨List.not_mem_nil, .nil⟩, fun x hx => by rw [List.mem_singleton.mp hx]; exact hp⟩
theorem c_T_C (h : DE X fl .T e f) : DE X fl .C e f := de_cast h fun Hb H G ow σ δ v d R r => by
 obtain ⟨as, h1, h2, h3⟩ := r
 exact h1.ra h3
end
section
variable {K : PySem.W.Frag} {fl : List Fl}
end
section
variable {K : PySem.W.Frag} {H : Hp}
end
section
variable {X : Cx} {fl : List Fl} {e ke : Expr} {f fk : FE} {pos : Pos}
end
end D3
namespace D3
open PySem
def qM (g : List D → Option (List D)) (i : Nat) (x : Option D) (δ : DS) : Option Oc := match x with
 | some (.list l) => match g l with
  | some m => some (.nx (δ.set i (some (.d (.list m)))))
  | none => none
 | _ => none
def insK (n : Nat) (j : Int) : Nat := if j < 0 then (j + n).toNat else min j.toNat n
def popD (j : Int) (l : List D) : Option (List D) := if l.length ≤ 1000000 then (pIx l.length j).map fun n => l.eraseIdx n else none
def insD (j : Int) (d : D) (l : List D) : Option (List D) := if l.length < 1000000 ∧ -(2 ^ 62) ≤ j ∧ j < 2 ^ 62 then some (l.take (insK l.length j) ++ d :: l.drop (insK l.length j)) else none
def sRev (i : Nat) : FS := fun δ => qM (fun l => some l.reverse) i (dVar i δ) δ
def qPo (i : Nat) (k x : Option D) (δ : DS) : Option Oc := match k with
 | some (.int j) => qM (popD j) i x δ
 | _ => none
def sPopI (i : Nat) (fk : FE) : FS := fun δ => qPo i (fk δ) (dVar i δ) δ
def qIn (i : Nat) (k d x : Option D) (δ : DS) : Option Oc := match k, d with
 | some (.int j), some d => qM (insD j d) i x δ
 | _, _ => none
def sIns (i : Nat) (fk f : FE) : FS := fun δ => qIn i (fk δ) (f δ) (dVar i δ) δ
def qBk (x k : Option D) : Option D := match x, k with
 | some (.list l), some (.int j) => if j = -1 then some (.list l.reverse) else none
 | _, _ => none
def dBack (f fk : FE) : FE := fun δ => qBk (f δ) (fk δ)
theorem v_back {f fk : FE} {δ : DS} : dBack f fk δ = qBk (f δ) (fk δ) := rfl
theorem v_back_s {l : List D} : qBk (some (.list l)) (some (.int (-1))) = some (.list l.reverse) := rfl
def asSeq : D → Option (List D)
 | .list l => some l
 | .tuple l => some l
 | _ => none
def qSq (x : Option D) : Option (List D) := x.bind asSeq
def fSeq (f : FE) : FA := fun δ => (f δ).bind asSeq
theorem v_sq {f : FE} {δ : DS} : fSeq f δ = qSq (f δ) := rfl
theorem v_sq_l {l : List D} : qSq (some (.list l)) = some l := rfl
theorem v_sq_t {l : List D} : qSq (some (.tuple l)) = some l := rfl
def gTupL : D → Option D
 | .list l => some (.tuple l)
 | .tuple l => some (.tuple l)
 | _ => none
theorem qM_inv {g : List D → Option (List D)} {i : Nat} {x : Option D} {δ : DS} {o : Oc} (h : qM g i x δ = some o) : ∃ l m, x = some (.list l) ∧ g l = some m ∧ o = .nx (δ.set i (some (.d (.list m)))) := by
 unfold qM at h
 split at h
 ·next l =>
  split at h
  ·next m e => cases h; exact ⟨l, m, rfl, e, rfl⟩
  ·cases h
 ·cases h
theorem v_rev {i : Nat} {δ : DS} : sRev i δ = qM (fun l => some l.reverse) i (dVar i δ) δ := rfl
theorem v_popI {i : Nat} {fk : FE} {δ : DS} : sPopI i fk δ = qPo i (fk δ) (dVar i δ) δ := rfl
theorem v_popI_s {i : Nat} {j : Int} {x : Option D} {δ : DS} : qPo i (some (.int j)) x δ = qM (popD j) i x δ := rfl
theorem v_ins {i : Nat} {fk f : FE} {δ : DS} : sIns i fk f δ = qIn i (fk δ) (f δ) (dVar i δ) δ := rfl
theorem v_ins_s {i : Nat} {j : Int} {d : D} {x : Option D} {δ : DS} : qIn i (some (.int j)) (some d) x δ = qM (insD j d) i x δ := rfl
theorem qM_s {g : List D → Option (List D)} {i : Nat} {l m : List D} {δ : DS} (h : g l = some m) : qM g i (some (.list l)) δ = some (.nx (δ.set i (some (.d (.list m))))) := by
 show (match g l with
  | some m => some (Oc.nx (δ.set i (some (.d (.list m)))))
  | none => none) = _
 rw [h]
def gIn : D → D → Option D := fun x y => match y with
 | .list l => if (SeqAt.shaped x && SeqAt.shaped (.list l)) = true then some (.bool (l.any fun z => PyData.eqv z x)) else none
 | .tuple l => if (SeqAt.shaped x && SeqAt.shaped (.tuple l)) = true then some (.bool (l.any fun z => PyData.eqv z x)) else none
 | _ => none
def gNotin : D → D → Option D := fun x y => match y with
 | .list l => if (SeqAt.shaped x && SeqAt.shaped (.list l)) = true then some (.bool (!l.any fun z => PyData.eqv z x)) else none
 | .tuple l => if (SeqAt.shaped x && SeqAt.shaped (.tuple l)) = true then some (.bool (!l.any fun z => PyData.eqv z x)) else none
 | _ => none
def qRv (x : Option D) : Option (List D) := x.bind fun x => match x with
 | .list l => some l.reverse
 | _ => none
theorem v_rv {f : FE} {δ : DS} : fRev f δ = qRv (f δ) := rfl
theorem v_rv_s {l : List D} : qRv (some (.list l)) = some l.reverse := rfl
def qRL (a : Option D) : Option Oc := match a with
 | some d => some (.ex "" "" d)
 | none => none
def sRetL (fe : FE) : FS := fun δ => (fe δ).bind fun d => some (.ex "" "" d)
theorem v_retL {fe : FE} {δ : DS} : sRetL fe δ = qRL (fe δ) := by
 unfold sRetL qRL
 cases fe δ <;> rfl
theorem v_retL_s {d : D} : qRL (some d) = some (.ex "" "" d) := rfl
def qFnL (o : Option Oc) : Option D := match o with
 | some (.rt d) => some d
 | some (.ex _ _ d) => some d
 | some (.nx _) => some .none
 | _ => none
def fnL (p q : Nat) (b : FS) : List D → Option D := fun ds => if ds.length = p then qFnL (b (ds.map (fun d => some (.d d)) ++ List.replicate q none)) else none
theorem v_fnL {p q : Nat} {b : FS} {ds : List D} : fnL p q b ds = if ds.length = p then qFnL (b (ds.map (fun d => some (.d d)) ++ List.replicate q none)) else none := rfl
theorem v_fnL_ex {c f : Str} {d : D} : qFnL (some (.ex c f d)) = some d := rfl
end D3
namespace D3
open PySem PySem.Spec PyProof.Rows L2 My
section
variable {X : Cx}
def rInsert : V → List V → Hp → VK → Prop := fun x vs H Q => ∃ l xs i y, x = .ref l ∧ vs = [.int i, y] ∧ H l = some (.lst xs) ∧ -(2 ^ 63) ≤ i ∧ i < 2 ^ 63 ∧ xs.length < sizeLine ∧ Q .non (upd H l (.lst (xs.take (insK xs.length i) ++ y :: xs.drop (insK xs.length i))))
theorem ins_arr (li : List Value) (k : Nat) (y : Value) : (li.toArray.extract 0 k).push y ++ li.toArray.extract k = (li.take k ++ y :: li.drop k).toArray := by
 apply Array.ext'
 simp [List.extract_eq_drop_take]
 exact List.take_of_length_le (by simp)
theorem mt_insert : MtM X "list.insert" rInsert := by
 intro pins s σ H x vs v us Q I rx rv h
 obtain ⟨l, xs, i, y, rfl, rfl, hH, h1, h2, hz, q⟩ := h
 cases rx
 obtain ⟨u1, u2, rfl, ru1, ru2⟩ := rv.two
 obtain ⟨t, rfl⟩ := ru1
 obtain ⟨z, its, n, r, hl, e⟩ := I.lstM hH
 refine call_meets F.slot_list_insert ⟨_, e, rfl⟩ F.entry_list_insert (F.args_list_insert_3 _ _ _) (AutoSeq1.list_insert_list_int_val_1 l its.toArray n i t u2 (by simp [fitsIndex_both h1 h2]) (by rw [List.size_toArray]; omega)) ⟨e, ?_⟩
 refine ⟨.non, _, I.lset (its' := its.take (insK xs.length i) ++ u2 :: its.drop (insK xs.length i)) hH e ?_ ((r.take _).append (.cons ru2 (r.drop _))) ?_, rfl, q⟩
 ·show (its.toArray.extract 0 (if i < 0 then (i + (its.toArray.size : Int)).toNat else min i.toNat its.toArray.size)).push u2 ++ its.toArray.extract (if i < 0 then (i + (its.toArray.size : Int)).toNat else min i.toNat its.toArray.size) = _
  rw [hl]
  exact ins_arr its (insK its.length i) u2
 ·rw [List.length_append, List.length_cons, List.length_take, List.length_drop]
  omega
end
section
variable {X : Cx} {fl : List Fl} {e ke : Expr} {f fk : FE} {pos : Pos}
theorem RAs.erase {K : PySem.W.Frag} {ok : Ok} {pl : Bool} {H : Hp} {v : List V} {d : List D} (n : Nat) (r : RAs K ok pl H v d) : RAs K ok pl H (v.eraseIdx n) (d.eraseIdx n) := by
 rw [List.eraseIdx_eq_take_drop_succ, List.eraseIdx_eq_take_drop_succ]
 exact (r.take n).append (r.drop (n + 1))
theorem pIx_seq {n : Nat} {i : Int} {j : Nat} (h : pIx n i = some j) : seqIndex? i n = some j ∧ j < n ∧ -(n : Int) ≤ i ∧ i < n := by
 unfold pIx at h
 unfold seqIndex?
 by_cases c : 0 ≤ i
 ·rw [if_pos c] at h
  by_cases c2 : i < n
  ·rw [if_pos c2] at h
   cases h
   simp only [show ¬ i < 0 by omega, if_false, dTr c, dTr c2, Bool.and_self, if_true]
   exact ⟨trivial, by omega, by omega, by omega⟩
  ·rw [if_neg c2] at h; cases h
 ·rw [if_neg c] at h
  by_cases c2 : -(n : Int) ≤ i
  ·rw [if_pos c2] at h
   cases h
   simp only [show i < 0 by omega, if_true, dTr (show 0 ≤ i + (n : Int) by omega), dTr (show i + (n : Int) < n by omega), Bool.and_self]
   exact ⟨trivial, by omega, by omega, by omega⟩
  ·rw [if_neg c2] at h; cases h
theorem ds_rev {i : Nat} {x : Str} {vpos apos cpos : Pos} (hfl : fl[i]? = some .O) (hN : X.N[i]? = some x) (hv : Vis X.env.scope x := by first | exact Or.inl rfl | exact Or.inr (Or.inl rfl) | exact Or.inr (Or.inr rfl)) (hd : (x == ("__debug__" : Str)) = false := by decide)
 (hcd : (x == ("__classdict__" : Str)) = false := by decide)
 (hs : swapsWith (.Call (.Attribute (.Name x vpos) "reverse" apos) [] [] cpos) none pos.line X.env = pure false := by rfl)
 (hbase : attributeBase (.Name x vpos) "reverse" X.env (eval (.Name x vpos) X.env) = eval (.Name x vpos) X.env := by rfl)
 (hline : (apos.endLine == cpos.line) = true := by rfl) :
 DS1 X fl (.Expr (.Call (.Attribute (.Name x vpos) "reverse" apos) [] [] cpos) pos) (sRev i) :=
 PS.imp (ps_expr (pe_bm0 PySem.F.plainAttrs_list PySem.F.slot_list_reverse PySem.F.type_list_reverse mt_reverse (pe_var hN hv hd hcd) hbase hline) hs) fun Dn σ H hh => by
 obtain ⟨G, ow, δ, o, R, hf, q⟩ := hh
 obtain ⟨l, m, e1, e2, rfl⟩ := qM_inv hf
 cases e2
 obtain ⟨a, xs, ho, h1, h2, h3⟩ := own_of R hfl e1
 exact ⟨_, h1, .inl ⟨rfl, _, SqL.of h2⟩, a, xs, rfl, rfl, h2, q ow σ _ (R.mut hfl ho h3.reverse)⟩
theorem ds_popI {i : Nat} {x : Str} {vpos apos cpos : Pos} (hfl : fl[i]? = some .O) (hk : DE X fl .P ke fk) (hN : X.N[i]? = some x) (hv : Vis X.env.scope x := by first | exact Or.inl rfl | exact Or.inr (Or.inl rfl) | exact Or.inr (Or.inr rfl)) (hd : (x == ("__debug__" : Str)) = false := by decide)
 (hcd : (x == ("__classdict__" : Str)) = false := by decide)
 (hs : swapsWith (.Call (.Attribute (.Name x vpos) "pop" apos) [ke] [] cpos) none pos.line X.env = pure false := by rfl)
 (hbase : attributeBase (.Name x vpos) "pop" X.env (eval (.Name x vpos) X.env) = eval (.Name x vpos) X.env := by rfl)
 (hfew : ((backTo cpos (starEach [ke] X.env)).all (fun x => !x.1) && (backToKw cpos (keywordEach [] X.env)).all (fun x => x.1.isSome)
  && decide (([ke] : List Expr).length + ([] : List Keyword).length + (if ([] : List Keyword).isEmpty then 0 else 1) < 30)) = true := by rfl)
 (hline : (apos.endLine == cpos.line) = true := by rfl) (hst : starEach [ke] X.env = (false, eval ke X.env) :: starEach [] X.env := by exact star_of rfl) (hplain : (backTo cpos (starEach [] X.env)).any (·.1) = false := by rfl) :
 DS1 X fl (.Expr (.Call (.Attribute (.Name x vpos) "pop" apos) [ke] [] cpos) pos) (sPopI i fk) :=
 PS.imp (ps_expr (pe_bm PySem.F.plainAttrs_list PySem.F.slot_list_pop PySem.F.type_list_pop mt_popAt (pe_var hN hv hd hcd) (pa_cons hk pa_nil hst) hbase hfew hline hst hplain) hs) fun Dn σ H hh => by
 obtain ⟨G, ow, δ, o, R, hf, q⟩ := hh
 unfold sPopI qPo at hf
 split at hf
 case h_2 => cases hf
 next j ek =>
 obtain ⟨l, m, e1, e2, rfl⟩ := qM_inv hf
 unfold popD at e2
 by_cases hl : l.length ≤ 1000000
 case neg => rw [if_neg hl] at e2; cases e2
 rw [if_pos hl] at e2
 cases ep : pIx l.length j with
 | none => rw [ep] at e2; cases e2
 | some n =>
  rw [ep] at e2
  cases e2
  obtain ⟨a, xs, ho, h1, h2, h3⟩ := own_of R hfl e1
  obtain ⟨p1, p2, p3, p4⟩ := pIx_seq ep
  refine ⟨_, h1, .inl ⟨rfl, _, SqL.of h2⟩, G, ow, δ, _, R, ek, fun v H' s r => ?_⟩
  obtain rfl := RA.intE r
  have hn : n < xs.length := by rw [h3.length]; exact p2
  exact ⟨a, xs, j, n, xs[n], rfl, rfl, s _ _ h2, by omega, by omega, by rw [h3.length]; exact p1, List.getElem?_eq_getElem hn, q ow σ _ ((R.grow s).mut hfl ho ((h3.same s).erase n))⟩
theorem ds_ins {i : Nat} {x : Str} {vpos apos cpos : Pos} (hfl : fl[i]? = some .O) (hk : DE X fl .P ke fk) (h : DE X fl .A e f) (hN : X.N[i]? = some x) (hv : Vis X.env.scope x := by first | exact Or.inl rfl | exact Or.inr (Or.inl rfl) | exact Or.inr (Or.inr rfl)) (hd : (x == ("__debug__" : Str)) = false := by decide)
 (hcd : (x == ("__classdict__" : Str)) = false := by decide)
 (hs : swapsWith (.Call (.Attribute (.Name x vpos) "insert" apos) [ke, e] [] cpos) none pos.line X.env = pure false := by rfl)
 (hbase : attributeBase (.Name x vpos) "insert" X.env (eval (.Name x vpos) X.env) = eval (.Name x vpos) X.env := by rfl)
 (hfew : ((backTo cpos (starEach [ke, e] X.env)).all (fun x => !x.1) && (backToKw cpos (keywordEach [] X.env)).all (fun x => x.1.isSome)
  && decide (([ke, e] : List Expr).length + ([] : List Keyword).length + (if ([] : List Keyword).isEmpty then 0 else 1) < 30)) = true := by rfl)
 (hline : (apos.endLine == cpos.line) = true := by rfl) (hst : starEach [ke, e] X.env = (false, eval ke X.env) :: starEach [e] X.env := by exact star_of rfl) (hst2 : starEach [e] X.env = (false, eval e X.env) :: starEach [] X.env := by exact star_of rfl) (hplain : (backTo cpos (starEach [e] X.env)).any (·.1) = false := by exact pl_of rfl) :
 DS1 X fl (.Expr (.Call (.Attribute (.Name x vpos) "insert" apos) [ke, e] [] cpos) pos) (sIns i fk f) :=
 PS.imp (ps_expr (pe_bm PySem.F.plainAttrs_list PySem.F.slot_list_insert PySem.F.type_list_insert mt_insert (pe_var hN hv hd hcd) (pa_cons hk (pa_cons h pa_nil hst2) hst) hbase hfew hline hst hplain) hs) fun Dn σ H hh => by
 obtain ⟨G, ow, δ, o, R, hf, q⟩ := hh
 unfold sIns qIn at hf
 split at hf
 case h_2 => cases hf
 next j d ek ed =>
 obtain ⟨l, m, e1, e2, rfl⟩ := qM_inv hf
 unfold insD at e2
 by_cases hl : l.length < 1000000 ∧ -(2 ^ 62) ≤ j ∧ j < 2 ^ 62
 case neg => rw [if_neg hl] at e2; cases e2
 rw [if_pos hl] at e2
 cases e2
 obtain ⟨a, xs, ho, h1, h2, h3⟩ := own_of R hfl e1
 refine ⟨_, h1, .inl ⟨rfl, _, SqL.of h2⟩, G, ow, δ, _, R, ek, fun v H' s r => ?_⟩
 obtain rfl := RA.intE r
 refine ⟨G, ow, δ, d, R.grow s, ed, fun u H2 s2 r2 => ?_⟩
 have S := s.trans s2
 refine ⟨a, xs, j, u, rfl, rfl, S _ _ h2, by omega, by omega, by rw [h3.length]; exact Nat.lt_trans hl.1 (by decide), ?_⟩
 have R' := R.grow S
 have h3' := h3.same S
 refine q ow σ _ (R'.mut hfl ho ?_)
 rw [h3.length]
 exact (h3'.take _).append (.cons r2 (h3'.drop _))
theorem fm_some {α β : Type} (f : α → Option β) (g : α → β) : ∀ l : List α, (∀ a ∈ l, f a = some (g a)) → l.filterMap f = l.map g
 | [], _ => rfl
 | a :: r, h => by
  rw [List.filterMap_cons, h a List.mem_cons_self, List.map_cons, fm_some f g r fun b hb => h b (List.mem_cons_of_mem _ hb)]
theorem rev_range {α : Type} (li : List α) (d : α) : (List.range li.length).map (fun k => li.getD (li.length - 1 - k) d) = li.reverse := by
 apply List.ext_getElem
 ·simp
 ·intro i h1 h2
  simp at h1 h2
  rw [List.getElem_map, List.getElem_range, List.getElem_reverse]
  rw [List.getD_eq_getElem?_getD, List.getElem?_eq_getElem (by omega)]
  rfl
theorem back_pick (li : List Value) : slicePick li.toArray none none (some (-1)) = li.reverse.toArray := by
 unfold slicePick
 apply congrArg List.toArray
 have hb : sliceBounds none none (some (-1)) li.toArray.size = ((li.length : Int) - 1, -1, -1) := by
  unfold sliceBounds
  simp
 rw [hb]
 show (sliceRange ((li.length : Int) - 1) (-1) (-1)).filterMap (li.toArray[·]?) = li.reverse
 unfold sliceRange
 have hc : (if (-1 : Int) > 0 then (if (li.length : Int) - 1 < -1 then (-1 - ((li.length : Int) - 1) + -1 - 1) / -1 else 0) else (if (li.length : Int) - 1 > -1 then ((li.length : Int) - 1 - -1 - -1 - 1) / (- -1) else 0)).toNat = li.length := by
  rw [if_neg (by decide)]
  by_cases c : (li.length : Int) - 1 > -1
  ·rw [if_pos c]
   show (((li.length : Int) - 1 - -1 - -1 - 1) / 1).toNat = li.length
   rw [Int.ediv_one]
   omega
  ·rw [if_neg c]
   show 0 = li.length
   omega
 show ((List.range (if (-1 : Int) > 0 then (if (li.length : Int) - 1 < -1 then (-1 - ((li.length : Int) - 1) + -1 - 1) / -1 else 0) else (if (li.length : Int) - 1 > -1 then ((li.length : Int) - 1 - -1 - -1 - 1) / (- -1) else 0)).toNat).map fun (k : Nat) => ((li.length : Int) - 1 + -1 * (k : Int)).toNat).filterMap (li.toArray[·]?) = li.reverse
 rw [hc, List.filterMap_map]
 rw [fm_some _ (fun k => li.getD (li.length - 1 - k) .none) (List.range li.length) (fun k hk => by
  have hk' := List.mem_range.mp hk
  show li.toArray[((li.length : Int) - 1 + -1 * (k : Int)).toNat]? = _
  rw [show ((li.length : Int) - 1 + -1 * (k : Int)).toNat = li.length - 1 - k by omega, List.getElem?_toArray, List.getD_eq_getElem?_getD, List.getElem?_eq_getElem (by omega)]
  rfl)]
 exact rev_range li .none
def tBack (K : PySem.W.Frag) (te ts : TE) : TE := fun σ H Q => te σ H fun x H1 => ts σ H1 fun k H2 => k = .int (-1) ∧ ∃ a xs, x = .ref a ∧ SqL K H2 a xs ∧ ∀ p, H2 p = none → Q (.ref p) (upd H2 p (.lst xs.reverse))
theorem pe_back {st : Expr} {te ts : TE} {p2 : Pos} (he : PE X e te) (hp : PE X st ts) : PE X (.Subscript e (.Slice none none (some st) p2) pos) (tBack X.K te ts) := by
 intro pins s σ H Q I h
 refine Subscript_ (thn (he pins s σ H _ I h) fun v s1 ⟨x, H1, I1, r1, q1⟩ => ?_)
 refine wpAny_Slice ?_
 rw [evalPart_none]
 refine wpAny_pure (wpAny_pure ?_)
 rw [evalPart_some]
 refine thn (hp pins s1 σ H1 _ I1 q1) fun vk s3 ⟨k, H3, I3, rk, ek, a, xs, ex, hx, q⟩ => ?_
 subst ek
 subst ex
 obtain ⟨t, rfl⟩ := rk
 cases r1
 have I4 : Inv X pins σ H3 { s3 with heap := s3.heap.push { cls := .type "slice", data := .fields #[.none, .none, .int (-1) t] } } := I3.kept (t' := s3.toks) fun b ob q => Heap.get?_push_of_some _ q
 obtain ⟨its, r, ht, hz⟩ := I4.list hx
 have hlen := r.length
 show wpAny (model X.prog X.w) X.A (subscriptTail e (.Slice none none (some st) p2) (.ref a) (.ref s3.heap.objs.size)) (EP X pins σ Q) X.xe { s3 with heap := s3.heap.push { cls := .type "slice", data := .fields #[.none, .none, .int (-1) t] } }
 refine tail_any (ops := [.ref a, .ref s3.heap.objs.size]) ht.isList.typeIs slot_list_getitem.lookup ?_ (by with_unfolding_all rfl)
 refine wpAny_getItem_list_slice ht.isList (Heap.IsSliceOf.new ..) .none .none (.int (-1) t) (by decide) ?_ (by rw [List.size_toArray] <;> omega)
 rw [back_pick]
 refine ⟨.ref _, _, I4.laid (t' := s3.toks) (o := .lst xs.reverse) (fun b ob q => Heap.get?_push_of_some _ q) (Nat.le_refl _) ?_, rfl, q _ (I4.hok.fresh (Nat.le_refl _))⟩
 exact ⟨by rw [List.length_reverse]; exact hz, _, 0, r.reverse, Heap.get?_push_size _ rfl⟩
theorem de_back {L : List Nat} {st : Expr} {p2 : Pos} {fs : FE} (h : DE X fl (.B L) e f) (h1 : DE X fl .P st fs) : DE X fl .F (.Subscript e (.Slice none none (some st) p2) pos) (dBack f fs) := PE.imp (pe_back h h1) fun σ H Q h => by
 obtain ⟨G, ow, δ, d, R, hf, q⟩ := h
 unfold dBack qBk at hf
 split at hf
 case h_2 => cases hf
 next l j e1 e2 =>
 by_cases hj : j = -1
 case neg => rw [if_neg hj] at hf; cases hf
 rw [if_pos hj] at hf
 cases hf
 subst hj
 refine ⟨G, ow, δ, _, R, e1, fun v H1 s1 r1 => ⟨G, ow, δ, _, R.grow s1, e2, fun u H2 s2 r2 => ?_⟩⟩
 obtain ⟨p, xs, rfl, hx, hr⟩ := B_list r1
 refine ⟨RA.intE r2, p, xs, rfl, s2.seq hx, fun pn hp => q _ _ ((s1.trans s2).trans (same_new hp _)) (new_F (G := G) (s1.trans s2) hp (hr.same s2).reverse)⟩
end
section
variable {X : Cx} {fl : List Fl} {a : Expr} {pos p p2 pos2 : Pos} {fa : FA}
end
end D3
namespace D3
open PySem PySem.Spec PyProof.Rows L2 My
section
variable {X : Cx} {pins : List (Addr × Obj)} {σ : L2.St} {H : Hp} {s : Shared}
end
section
variable {X : Cx} {K : PySem.W.Frag}
end
section
variable {X : Cx} {fl : List Fl} {es : List Expr} {pos : Pos}
end
section
variable {X : Cx} {fl : List Fl} {e : Expr} {f : FE}
theorem pi_or {tg l : Expr} {t1 t2 : TI} (h1 : PI X tg l t1) (h2 : PI X tg l t2) : PI X tg l (fun σ H R => t1 σ H R ∨ t2 σ H R) := fun pins s σ H R I h => by
 rcases h with h | h
 ·exact h1 pins s σ H R I h
 ·exact h2 pins s σ H R I h
theorem walk_T {K : PySem.W.Frag} {G : Gh} {ow : Ow} {σ : St} {H Hb : Hp} {δ : DS} {L : List Nat} {v : V} {l : List D} (R : Rel K fl G ow σ H δ) (r : Rs K G.H0 ow Hb H (.B L) v (.tuple l)) : ∃ a xs, v = .ref a ∧ SqT K H a xs ∧
 ∀ H2 : Hp, (∀ b o, H b = some o → (∀ i, ow i = some b → i ∈ L) → (∀ i, b ∉ ow.n i) → H2 b = some o) → SqT K H2 a xs ∧ RAs K (fun b => okA ow b ∧ H b ≠ none) true H2 xs l := by
 rcases r with r | ⟨i, hi, a, xs, ds, ho, rfl, e, hx, hr⟩
 ·cases r with
  | tup e q =>
   refine ⟨_, _, rfl, e.sq, fun H2 hk => ⟨?_, RAs.keep hk R.ownL R.ownC (fun b z => z.1) q.track⟩⟩
   exact .inl (.inl (hk _ _ e (nm R.ownL e (by intro xs z; cases z)) (nm2 R.ownC e Chg.tup)))
 ·cases e
theorem di_seq {tg : Expr} {L : List Nat} (h : DE X fl (.B L) e f) : DI X fl L tg e (fSeq f) := PI.imp (pi_or (pi_list h) (pi_tup h)) fun σ H R' h => by
 obtain ⟨G, ow, δ, l, R, hf, q⟩ := h
 obtain ⟨d, e1, e2⟩ := bind1 hf
 cases d with
 | list l' =>
  cases e2
  refine .inl ⟨G, ow, δ, _, R, e1, fun v H1 s r => ?_⟩
  obtain ⟨a, xs, rfl, hx, keep⟩ := walk_B (R.grow s) r
  refine ⟨a, rfl, ⟨xs, hx⟩, q _ _ s fun H2 k2 i => ?_⟩
  obtain ⟨k3, k4⟩ := keep H2 k2
  refine ⟨fun d hd => ?_, fun hl => ⟨xs, k3, by rw [k4.length]; exact hl⟩⟩
  obtain ⟨y, hy, ry⟩ := k4.get hd
  refine ⟨⟨xs, y, k3, hy⟩, fun x H3 hyl => ?_⟩
  obtain ⟨e, hz⟩ := hyl
  subst e
  have : some y = some x := hy.symm.trans (hz xs k3)
  cases this
  exact ⟨Same.refl _, ry⟩
 | tuple l' =>
  cases e2
  refine .inr ⟨G, ow, δ, _, R, e1, fun v H1 s r => ?_⟩
  obtain ⟨a, xs, rfl, hx, keep⟩ := walk_T (R.grow s) r
  refine ⟨a, rfl, ⟨xs, hx⟩, q _ _ s fun H2 k2 i => ?_⟩
  obtain ⟨k3, k4⟩ := keep H2 k2
  refine ⟨fun d hd => ?_, fun hl => ⟨xs, k3, by rw [k4.length]; exact hl⟩⟩
  obtain ⟨y, hy, ry⟩ := k4.get hd
  refine ⟨⟨xs, y, k3, hy⟩, fun x H3 hyl => ?_⟩
  obtain ⟨e, hz⟩ := hyl
  subst e
  have : some y = some x := hy.symm.trans (hz xs k3)
  cases this
  exact ⟨Same.refl _, ry⟩
 | none => cases e2
 | bool _ => cases e2
 | int _ => cases e2
 | str _ => cases e2
 | dict _ => cases e2
end
section
variable {X : Cx} {fl : List Fl} {a : Expr} {f : FE} {pos p : Pos}
theorem de_tupL {L : List Nat} (h : DE X fl (.B L) a f) (hg : Gl X "tuple") (hm : X.mg "tuple" = none)
 (he : starEach [a] X.env = (false, eval a X.env) :: starEach [] X.env := by exact star_of rfl) (hpl : (backTo pos (starEach [] X.env)).any (·.1) = false := by rfl) : DE X fl .A (.Call (.Name "tuple" p) [a] [] pos) (dUn gTupL f) :=
 PE.imp (pe_callTy call_tuple_of hg hm boot_tuple (pa_cons h pa_nil he) (by decide) (by decide) he hpl) fun σ H Q h => by
 obtain ⟨G, ow, δ, d, R, hf, q⟩ := h
 obtain ⟨x, e1, e2⟩ := bind1 hf
 refine ⟨G, ow, δ, x, R, e1, fun v H1 s1 r1 => ?_⟩
 unfold gTupL at e2
 split at e2
 ·cases e2
  obtain ⟨p, xs, rfl, hx, hr⟩ := B_list r1
  exact ⟨p, xs, rfl, .inl ⟨hx, fun pn hp => q _ _ (s1.trans (same_new hp _)) (.tup upd_same (hr.same (same_new hp _)))⟩⟩
 ·cases e2
  rcases r1 with r1 | ⟨i, hi, a, xs, ds, ho, rfl, e, hx, hr⟩
  ·obtain ⟨p, xs, rfl, hx, hr⟩ := r1.tupE0
   exact ⟨p, xs, rfl, .inr ⟨hx.sq, q _ _ s1 (.tup hx hr)⟩⟩
  ·cases e
 ·cases e2
end
section
variable {X : Cx} {fl : List Fl} {a b : Expr} {fa fb : FE} {pos : Pos}
end
end D3
namespace D3
open PySem PySem.Spec PyProof.Rows L2 My
section
variable {X : Cx} {K : PySem.W.Frag}
def rInD (K : PySem.W.Frag) : R2 := fun x y H Q => ∃ da l, RdV K H x da ∧ ((RdV K H y (.list l) ∧ SeqAt.shaped (.list l) = true) ∨ (RdV K H y (.tuple l) ∧ SeqAt.shaped (.tuple l) = true)) ∧ SeqAt.shaped da = true ∧ Q (.bl (l.any fun z => PyData.eqv z da)) H
def rNotinD (K : PySem.W.Frag) : R2 := fun x y H Q => ∃ da l, RdV K H x da ∧ ((RdV K H y (.list l) ∧ SeqAt.shaped (.list l) = true) ∨ (RdV K H y (.tuple l) ∧ SeqAt.shaped (.tuple l) = true)) ∧ SeqAt.shaped da = true ∧ Q (.bl (!l.any fun z => PyData.eqv z da)) H
theorem in_room {A : Around} {l : List D} {d : D} (hu : A.units + 64 < cLine) (h : PyData.depthAll l + 1 ≤ 64) : A.units + 1 + min (PyData.depthAll l) d.depth < cLine := by
 have := Nat.min_le_left (PyData.depthAll l) d.depth
 omega
theorem shaped_list {l : List D} (h : SeqAt.shaped (.list l) = true) : PyData.canLayAll0 l = true ∧ PyData.depthAll l + 1 ≤ 64 := by
 unfold SeqAt.shaped at h
 rw [Bool.and_eq_true] at h
 refine ⟨by simpa [PyData.canLay0] using h.1, ?_⟩
 have := of_decide_eq_true h.2
 simpa [PyData.depth] using this
theorem shaped_tuple {l : List D} (h : SeqAt.shaped (.tuple l) = true) : PyData.canLayAll0 l = true ∧ PyData.depthAll l + 1 ≤ 64 := by
 unfold SeqAt.shaped at h
 rw [Bool.and_eq_true] at h
 refine ⟨by simpa [PyData.canLay0] using h.1, ?_⟩
 have := of_decide_eq_true h.2
 simpa [PyData.depth] using this
theorem op_inD (hu : X.A.units + 64 < cLine) : OpR X (compareOp .In) (rInD X.K) := by
 intro pins s σ H x y v u Q I rx ry h
 obtain ⟨da, l, ha, hb, sa, q⟩ := h
 obtain ⟨as, za⟩ := ha.reads I rx
 rcases hb with ⟨hb, sb⟩ | ⟨hb, sb⟩
 ·obtain ⟨bs, zb⟩ := hb.reads I ry
  exact SeqAt.in_list_reads zb za (shaped_list sb).1 (SeqAt.canLay_of_shaped sa) (in_room hu (shaped_list sb).2) ⟨.bl _, H, I, rfl, q⟩
 ·obtain ⟨bs, zb⟩ := hb.reads I ry
  exact SeqAt.in_tuple_reads zb za (shaped_tuple sb).1 (SeqAt.canLay_of_shaped sa) (in_room hu (shaped_tuple sb).2) ⟨.bl _, H, I, rfl, q⟩
theorem op_notinD (hu : X.A.units + 64 < cLine) : OpR X (compareOp .NotIn) (rNotinD X.K) := by
 intro pins s σ H x y v u Q I rx ry h
 obtain ⟨da, l, ha, hb, sa, q⟩ := h
 obtain ⟨as, za⟩ := ha.reads I rx
 rcases hb with ⟨hb, sb⟩ | ⟨hb, sb⟩
 ·obtain ⟨bs, zb⟩ := hb.reads I ry
  exact SeqAt.notIn_list_reads zb za (shaped_list sb).1 (SeqAt.canLay_of_shaped sa) (in_room hu (shaped_list sb).2) ⟨.bl _, H, I, rfl, q⟩
 ·obtain ⟨bs, zb⟩ := hb.reads I ry
  exact SeqAt.notIn_tuple_reads zb za (shaped_tuple sb).1 (SeqAt.canLay_of_shaped sa) (in_room hu (shaped_tuple sb).2) ⟨.bl _, H, I, rfl, q⟩
theorem b_in : BrO K (rInD K) gIn := by
 intro H x y dx dy d Q rx ry e q
 cases dy with
 | list l =>
  by_cases z : (SeqAt.shaped dx && SeqAt.shaped (.list l)) = true
  ·have e : (if (SeqAt.shaped dx && SeqAt.shaped (.list l)) = true then some (PyData.bool (l.any fun z => PyData.eqv z dx)) else none) = some d := e
   rw [if_pos z] at e
   cases e
   rw [Bool.and_eq_true] at z
   exact ⟨dx, l, rx.rd (SeqAt.canLay_of_shaped z.1), .inl ⟨ry.rd (SeqAt.canLay_of_shaped z.2), z.2⟩, z.1, q _ rfl (.bl _)⟩
  ·have e : (if (SeqAt.shaped dx && SeqAt.shaped (.list l)) = true then some (PyData.bool (l.any fun z => PyData.eqv z dx)) else none) = some d := e
   rw [if_neg z] at e
   cases e
 | tuple l =>
  by_cases z : (SeqAt.shaped dx && SeqAt.shaped (.tuple l)) = true
  ·have e : (if (SeqAt.shaped dx && SeqAt.shaped (.tuple l)) = true then some (PyData.bool (l.any fun z => PyData.eqv z dx)) else none) = some d := e
   rw [if_pos z] at e
   cases e
   rw [Bool.and_eq_true] at z
   exact ⟨dx, l, rx.rd (SeqAt.canLay_of_shaped z.1), .inr ⟨ry.rd (SeqAt.canLay_of_shaped z.2), z.2⟩, z.1, q _ rfl (.bl _)⟩
  ·have e : (if (SeqAt.shaped dx && SeqAt.shaped (.tuple l)) = true then some (PyData.bool (l.any fun z => PyData.eqv z dx)) else none) = some d := e
   rw [if_neg z] at e
   cases e
 | _ => cases e
theorem b_notin : BrO K (rNotinD K) gNotin := by
 intro H x y dx dy d Q rx ry e q
 cases dy with
 | list l =>
  by_cases z : (SeqAt.shaped dx && SeqAt.shaped (.list l)) = true
  ·have e : (if (SeqAt.shaped dx && SeqAt.shaped (.list l)) = true then some (PyData.bool (!l.any fun z => PyData.eqv z dx)) else none) = some d := e
   rw [if_pos z] at e
   cases e
   rw [Bool.and_eq_true] at z
   exact ⟨dx, l, rx.rd (SeqAt.canLay_of_shaped z.1), .inl ⟨ry.rd (SeqAt.canLay_of_shaped z.2), z.2⟩, z.1, q _ rfl (.bl _)⟩
  ·have e : (if (SeqAt.shaped dx && SeqAt.shaped (.list l)) = true then some (PyData.bool (!l.any fun z => PyData.eqv z dx)) else none) = some d := e
   rw [if_neg z] at e
   cases e
 | tuple l =>
  by_cases z : (SeqAt.shaped dx && SeqAt.shaped (.tuple l)) = true
  ·have e : (if (SeqAt.shaped dx && SeqAt.shaped (.tuple l)) = true then some (PyData.bool (!l.any fun z => PyData.eqv z dx)) else none) = some d := e
   rw [if_pos z] at e
   cases e
   rw [Bool.and_eq_true] at z
   exact ⟨dx, l, rx.rd (SeqAt.canLay_of_shaped z.1), .inr ⟨ry.rd (SeqAt.canLay_of_shaped z.2), z.2⟩, z.1, q _ rfl (.bl _)⟩
  ·have e : (if (SeqAt.shaped dx && SeqAt.shaped (.tuple l)) = true then some (PyData.bool (!l.any fun z => PyData.eqv z dx)) else none) = some d := e
   rw [if_neg z] at e
   cases e
 | _ => cases e
end
def Itv (K : PySem.W.Frag) (a : Addr) (n : Nat) : It :=
 ⟨fun i H => i < n ∧ ∃ xs x, SqL K H a xs ∧ xs.length = n ∧ xs[n - 1 - i]? = some x, fun i H x H' => H' = H ∧ ∀ xs, SqL K H a xs → xs[n - 1 - i]? = some x, fun i _ => n ≤ i⟩
theorem turn_rev {P : Program} {w : World} {K : PySem.W.Frag} {tg : Expr} (a it : Addr) (n : Nat) : Turn P w K tg (Itv K a n) [it] it (fun i h => i ≤ n ∧ h.IsRevIter it a ((n : Int) - 1 - (i : Int))) where
 mem := by simp
 obj := fun i h st b hb => by
  have e : b = it := by simpa using hb
  subst e
  obtain ⟨_, o, e, c, d⟩ := st
  exact ⟨o, e, fun v z => by rw [d] at z; cases z⟩
 keep := fun i h h' st k => ⟨st.1, st.2.at fun o e => k it (by simp) o e⟩
 item := by
  intro X hP hw hK hc i pins s σ H E I hf st hg
  subst hP hw hK
  obtain ⟨hi, xs, x, hq, hn, hx⟩ := hg
  obtain ⟨its, rv, p, hz⟩ := I.list hq
  obtain ⟨u, hu, ru⟩ := rv.get hx
  obtain ⟨f0, f1, f2, f3, f4, f5⟩ := hf it (by simp)
  have st2 := st.2
  rw [show (n : Int) - 1 - (i : Int) = ((n - 1 - i : Nat) : Int) by omega] at st2
  refine wpAny_pyNext_rev_item st2 p.isList (x := u) (by simpa using hu) fun h' st' sb => ?_
  rw [show ((n - 1 - i : Nat) : Int) - 1 = (n : Int) - 1 - ((i + 1 : Nat) : Int) by omega] at st'
  have I1 : Inv X pins σ H { s with heap := h' } := I.turned (t' := s.toks) (fun b o hb e => (sb.2 b hb).trans e) f0 f1 f3 f4 f5
  obtain ⟨o, e, c, d⟩ := id st'
  exact ⟨u, rfl, go_of (s := { s with heap := h' }) e c d (by decide) ⟨x, H, I1, ru, ⟨rfl, fun ys hy => by rw [I.list_inj hy hq]; exact hx⟩, ⟨by omega, st'⟩, fun b hb => (hf b hb).1⟩⟩
 done := by
  intro X hP hw hK hc i pins s σ H E I hf st hg
  subst hP hw hK
  obtain ⟨f0, f1, f2, f3, f4, f5⟩ := hf it (by simp)
  have hg : n ≤ i := hg
  have st2 := st.2
  have st1 := st.1
  rw [show (n : Int) - 1 - (i : Int) = -1 by omega] at st2
  exact wpAny_pyNext_rev_end (I.ok.hd hc) st2 fun h' eb => ⟨rfl, I.turned (t' := s.toks) (fun b o hb e => eb b o hb e) f0 f1 f3 f4 f5⟩
 self := fun _ _ _ _ _ st h => wpAny_pyIter_revIter st.2 h
section
variable {X : Cx} {fl : List Fl} {a : Expr} {f : FE} {pos : Pos}
def iRev (K : PySem.W.Frag) (ta : TE) : TI := fun σ H R => ta σ H fun x H1 => ∃ p xs, x = .ref p ∧ SqL K H1 p xs ∧ R (Itv K p xs.length) H1
theorem pi_rev {tg : Expr} {p : Pos} {ta : TE} (hg : Gl X "reversed") (hm : X.mg "reversed" = none) (ha : PE X a ta) (he : starEach [a] X.env = (false, eval a X.env) :: starEach [] X.env := by rfl)
 (hpl : (backTo pos (starEach [] X.env)).any (·.1) = false := by rfl) : PI X tg (.Call (.Name "reversed" p) [a] [] pos) (iRev X.K ta) := by
 intro pins s σ H R I h
 refine wpAny_Call_Name_kw (ld_blt I hg hm boot_reversed (PyProof.Rows.callWith_type1 (thn ((pa_cons ha pa_nil he) pos pins s σ H (fun vs H1 => match vs with | [x] => ∃ p xs, x = .ref p ∧ SqL X.K H1 p xs ∧ R (Itv X.K p xs.length) H1 | _ => False) I h) fun us s1 ⟨vs, H1, I1, r1, q1⟩ => ?_) he hpl))
 cases r1 with
 | nil => exact q1.elim
 | cons r rr =>
  cases rr with
  | cons _ _ => exact q1.elim
  | nil =>
  obtain ⟨l, xs, e, hq, q⟩ := q1
  subst e
  cases r
  obtain ⟨its, rv, pl, hz⟩ := I1.list hq
  have hl := rv.length
  refine call_reversed_list pl.isList ?_
  have I2 : Inv X pins σ H1 { s1 with heap := s1.heap.push (revObj l ((its.toArray.size : Int) - 1)) } := I1.kept (t' := s1.toks) fun b o e => Heap.get?_push_of_some _ e
  have it0 : (s1.heap.push (revObj l ((its.toArray.size : Int) - 1))).IsRevIter s1.heap.objs.size l ((its.toArray.size : Int) - 1) := ⟨_, Heap.get?_push_size _ rfl, rfl, rfl⟩
  refine wpAny_pyIter_revIter (s := { s1 with heap := s1.heap.push (revObj l ((its.toArray.size : Int) - 1)) }) it0 ?_
  have it1 := it0
  rw [show (its.toArray.size : Int) - 1 = (xs.length : Int) - 1 - ((0 : Nat) : Int) by rw [List.size_toArray]; omega] at it1
  refine ⟨s1.heap.objs.size, [s1.heap.objs.size], _, _, H1, rfl, I2, turn_rev l s1.heap.objs.size xs.length, ⟨Nat.zero_le _, by rw [show (xs.length : Int) - 1 - ((0 : Nat) : Int) = (its.toArray.size : Int) - 1 by rw [List.size_toArray]; omega]; exact it0⟩, fun b hb => ?_, q⟩
  have e : b = s1.heap.objs.size := by simpa using hb
  subst e
  exact I1.fpOk (Nat.le_refl _) (I1.hok.fresh (Nat.le_refl _))
theorem di_rev {tg : Expr} {p : Pos} {L : List Nat} (h : DE X fl (.B L) a f) (hg : Gl X "reversed") (hm : X.mg "reversed" = none) (he : starEach [a] X.env = (false, eval a X.env) :: starEach [] X.env := by rfl)
 (hpl : (backTo pos (starEach [] X.env)).any (·.1) = false := by rfl) : DI X fl L tg (.Call (.Name "reversed" p) [a] [] pos) (fRev f) := PI.imp (pi_rev hg hm h he hpl) fun σ H R' h => by
 obtain ⟨G, ow, δ, l, R, hf, q⟩ := h
 obtain ⟨d, e1, e2⟩ := bind1 hf
 obtain ⟨l0, rfl⟩ : ∃ l0, d = .list l0 := by cases d <;> first | exact ⟨_, rfl⟩ | (cases e2; done)
 cases e2
 refine ⟨G, ow, δ, _, R, e1, fun v H1 s r => ?_⟩
 obtain ⟨a, xs, rfl, hx, keep⟩ := walk_B (R.grow s) r
 refine ⟨a, xs, rfl, hx, q _ _ s fun H2 k2 i => ?_⟩
 obtain ⟨k3, k4⟩ := keep H2 k2
 have kl := k4.length
 refine ⟨fun d hd => ?_, fun hl => by rw [List.length_reverse] at hl; show xs.length ≤ i; omega⟩
 have hi : i < l0.length := by
  have := (List.getElem?_eq_some_iff.mp hd).1
  rwa [List.length_reverse] at this
 rw [List.getElem?_reverse hi] at hd
 obtain ⟨y, hy, ry⟩ := k4.get hd
 rw [← kl] at hy
 refine ⟨⟨by omega, xs, y, k3, rfl, hy⟩, fun x H3 hyl => ?_⟩
 obtain ⟨e, hz⟩ := hyl
 subst e
 have : some y = some x := hy.symm.trans (hz xs k3)
 cases this
 exact ⟨Same.refl _, ry⟩
end
def spL (K : PySem.W.Frag) (F : List D → Option D) : Sp := fun vs H Q _ => ∃ ds d, (Tb H ∧ RAs K ok1 true H vs ds) ∧ F ds = some d ∧ ∀ v H', Same H H' → RA K ok1 true H' v d → Q v H'
section
variable {X : Cx} {fl : List Fl} {e : Expr} {es : List Expr} {f : FE} {pos p : Pos} {x : Str} {n : Nat} {F : List D → Option D} {fa : FA}
theorem ds_retL (h : DE X fl .P e f) : DS1 X fl (.Return (some e) pos) (sRetL f) := PS.imp (ps_ret h) fun Dn σ H h => by
 obtain ⟨G, ow, δ, o, R, hf, q⟩ := h
 obtain ⟨d, e1, e2⟩ := bind1 hf
 cases e2
 exact ⟨G, ow, δ, d, R, e1, fun v H' s r => q v H' (R.same0.trans s) r⟩
theorem c_PA (hA : (fl.all fun x => decide (x = .A)) = true) (h : DE X fl .P e f) : DE X fl .A e f := de_cast h fun Hb H G ow σ δ v d R r => by
 have hA' : ∀ (i : Nat) (c : Fl), fl[i]? = some c → c = Fl.A := fun i c e => by simpa using List.all_eq_true.mp hA c (List.mem_of_getElem? e)
 have ok : ∀ a, okA ow a := fun a => by
  constructor
  ·intro i z
   rcases (R.own i a z).2.1 with ⟨w, _⟩ | ⟨w, _⟩
   ·cases hA' i _ w
   ·cases hA' i _ w
  ·intro i z
   rcases (R.nt i a z).2.2 with ⟨w, _⟩ | w
   ·cases hA' i _ w
   ·cases hA' i _ w
 exact RA.imp (fun a _ => ok a) (fun z => z) r
theorem de_callL {ps : List Str} (h : Has X.prog X.w X.K X.mg X.base n x ps (spL X.K F)) (hr : Room n X.A) (ha : DB X fl .P (e :: es) fa) (hg : Gl X x := by rfl) (hdb : (x == ("__debug__" : Str)) = false := by decide)
 (he : starEach (e :: es) X.env = (false, eval e X.env) :: starEach es X.env := by exact star_of rfl) (hpl : (backTo pos (starEach es X.env)).any (·.1) = false := by exact pl_of rfl) :
 DE X fl .P (.Call (.Name x p) (e :: es) [] pos) (dCall F fa) := PE.imp (pe_callH h hr ha hg hdb he hpl) fun σ H Q h => by
 obtain ⟨G, ow, δ, d, R, hf, q⟩ := h
 obtain ⟨ds, e1, e2⟩ := bind1 hf
 refine ⟨G, ow, δ, ds, R, e1, fun vs H' s r => ?_⟩
 show spL X.K F (vs ++ []) H' Q E0
 rw [List.append_nil]
 exact ⟨ds, d, ⟨R.tb.same s, r⟩, e2, fun v H2 s2 r2 => q v H2 (s.trans s2) r2⟩
end
section
variable {P : Program} {w : World} {K : PySem.W.Frag} {mg : Str → Option Value} {base : Heap} {x : Str} {ps N : List Str} {st : Stmt} {k n : Nat} {fs : FS} {fl : List Fl}
theorem fun_okL {f : Addr} {fd : FuncData} (Fn : FunD K x st f fd) (S : FnScope N ps (defScope st)) (hp : ∀ i, i < ps.length → fl[i]? = some .A) (hN : ps.length ≤ N.length)
 (hbody : ∀ (f : Addr) (cdv : Value) (A : Around) (outer : List Env) (s : Shared) (H : Hp) (E : XK), Room k (A.deeper (envOfC x (defScope st) s.heap.objs.size f cdv)) → DSs (cx P w K mg base N x st f cdv A outer s H E) fl (defBody st) fs) :
 FnOk P w K mg base CX0 (k + 1) f fd ps (spL K (fnL ps.length (N.length - ps.length) fs)) := by
 refine Fn.ok S (fun vs H Q E h => ?_) (fun cdv A outer s H vs Q E hr h => ?_)
 ·obtain ⟨ds, d, r, hf, _⟩ := h
  unfold fnL at hf
  by_cases z : ds.length = ps.length
  ·rw [r.2.length]; exact z
  ·rw [if_neg z] at hf; cases hf
 ·obtain ⟨ds, d, r, hf, q⟩ := h
  refine ⟨_, hbody f cdv A outer s H E hr, ?_⟩
  unfold fnL qFnL at hf
  by_cases z : ds.length = ps.length
  ·rw [if_pos z] at hf
   split at hf
   ·next d' e =>
    cases hf
    exact ⟨_, _, _, _, rel_start ps.length hp z hN r, e, fun v H' s r => q v H' s (RA.imp (fun _ _ => trivial) (fun _ => rfl) r)⟩
   ·next c' f' d' e =>
    cases hf
    exact ⟨_, _, _, _, rel_start ps.length hp z hN r, e, fun v H' s r => q v H' s r⟩
   ·next δ' e =>
    cases hf
    exact ⟨_, _, _, _, rel_start ps.length hp z hN r, e, fun ow' σ' H' R' => q .non H' R'.same0 .non⟩
   ·cases hf
  ·rw [if_neg z] at hf; cases hf
theorem dg_okL (Dd : Dg K mg x st ps) (S : FnScope N ps (defScope st)) (hp : ∀ i, i < ps.length → fl[i]? = some .A) (hN : ps.length ≤ N.length)
 (hbody : ∀ (f : Addr) (cdv : Value) (A : Around) (outer : List Env) (s : Shared) (H : Hp) (E : XK), Room k (A.deeper (envOfC x (defScope st) s.heap.objs.size f cdv)) → DSs (cx P w K mg base N x st f cdv A outer s H E) fl (defBody st) fs) :
 Has P w K mg base (k + 1) x ps (spL K (fnL ps.length (N.length - ps.length) fs)) := by
 obtain ⟨f, fd, Fn, b, m⟩ := Dd.ex
 exact ⟨f, fd, fun_okL Fn S hp hN hbody, b, Fn.kp, m⟩
end
section
variable {P : Program} {w : World} {K : PySem.W.Frag} {mg : Str → Option Value} {base : Heap} {x : Str} {ps : List Str} {st : Stmt} {n : Nat}
end
end D3
namespace D3
open PySem PySem.Spec PyProof.Rows L2 My
section
variable {K : PySem.W.Frag} {fl flA : List Fl} {G : Gh} {ow : Ow} {σ σ' : St} {H H1 : Hp} {δ : DS} {T : List Nat}
end
section
variable {X : Cx} {fl flA : List Fl} {e : Expr} {es : List Expr} {f : FE} {fa : FA} {pos : Pos}
end
section
variable {X : Cx} {fl : List Fl} {pos : Pos}
end
end D3
namespace XS
open PySem PySem.W PyProof.Rows
def runT {α : Type} (lt : Nat → Nat → Bool) : KasT α → α
 | .ret a => a
 | .ask i j k => runT lt (k (lt i j))
def asksR {α : Type} (n : Nat) (R : α → Prop) : KasT α → Prop
 | .ret a => R a
 | .ask i j k => i < n ∧ j < n ∧ ∀ b, asksR n R (k b)
section
variable {α β : Type} {n : Nat} {R : α → Prop} {R' : β → Prop} {lt : Nat → Nat → Bool}
theorem asks_bind {f : α → KasT β} (hf : ∀ a, R a → asksR n R' (f a)) : ∀ t : KasT α, asksR n R t → asksR n R' (t.bind f)
 | .ret a, h => hf a h
 | .ask _ _ k, h => ⟨h.1, h.2.1, fun b => asks_bind hf (k b) (h.2.2 b)⟩
theorem asks_run : ∀ t : KasT α, asksR n R t → R (runT lt t)
 | .ret _, h => h
 | .ask _ _ k, h => asks_run (k _) (h.2.2 _)
theorem asks_wp {cmp : Nat → Nat → (Bool → Shared → Prop) → Shared → Prop} {G : α → Shared → Prop} {s : Shared} (hc : ∀ i j C, i < n → j < n → C (lt i j) s → cmp i j C s) :
 ∀ t : KasT α, asksR n R t → G (runT lt t) s → t.kasWp cmp G s
 | .ret _, _, q => q
 | .ask _ _ k, h, q => hc _ _ _ h.1 h.2.1 (asks_wp hc (k _) (h.2.2 _) q)
end
def good (n : Nat) (p : Array Nat) : Prop := p.Perm (List.range n).toArray
section
variable {n : Nat} {p : Array Nat}
theorem good.mem (g : good n p) {x : Nat} (h : x ∈ p.toList) : x < n := by
 have : x ∈ (List.range n) := by
  have := (Array.perm_iff_toList_perm.mp g).mem_iff.mp h
  simpa using this
 exact List.mem_range.mp this
theorem good.get (g : good n p) (h0 : 0 < n) (i : Nat) : p.getD i 0 < n := by
 unfold Array.getD
 split
 ·exact g.mem (by simp)
 ·exact h0
theorem good.rev (g : good n p) (i j : Nat) : good n (kas_rev p i j) := (mirror_perm _ _ _ _).trans g
theorem good.bub (g : good n p) (i j : Nat) : good n (bubble p i j) := (bubble_perm _ _ _).trans g
theorem asks_asc (h0 : 0 < n) (g : good n p) : ∀ f a, asksR n (fun _ => True) (kas_asc p f a)
 | 0, a => trivial
 | f + 1, a => ⟨g.get h0 _, g.get h0 _, fun b => by
  cases b
  ·exact asks_asc h0 g f (a + 1)
  ·trivial⟩
theorem asks_desc (h0 : 0 < n) : ∀ f (p : Array Nat) a q, good n p → asksR n (fun r => good n r.1) (kas_desc f p a q)
 | 0, p, a, q, g => g
 | f + 1, p, a, q, g => by
  refine ⟨g.get h0 _, g.get h0 _, fun b => ?_⟩
  cases b
  ·refine ⟨g.get h0 _, g.get h0 _, fun c => ?_⟩
   cases c
   ·exact asks_desc h0 f p (a + 1) (q + 1) g
   ·exact g
  ·show asksR n _ (if q > 0 then _ else _)
   split
   ·exact asks_desc h0 f _ _ _ (g.rev _ _)
   ·exact asks_desc h0 f _ _ _ g
theorem asks_tail3 (h0 : 0 < n) (g : good n p) (a m : Nat) : asksR n (fun r => good n r.2) (kas_tail3 a m p) := by
 unfold kas_tail3
 refine asks_bind (R := fun _ => True) (fun c _ => ?_) _ (asks_asc h0 (g.rev _ _) _ _)
 show good n (kas_rev p 0 a)
 exact g.rev _ _
theorem asks_part (h0 : 0 < n) (g : good n p) (a m : Nat) : asksR n (fun r => good n r.2) (kas_descPart a m p) :=
 asks_bind (R := fun r => good n r.1) (fun r h => by
  split
  ·exact asks_tail3 h0 (good.rev h _ _) _ _
  ·exact asks_tail3 h0 h _ _) _ (asks_desc h0 _ _ _ _ g)
theorem asks_count (h0 : 0 < n) (g : good n p) (m : Nat) : asksR n (fun r => good n r.2) (kas_count m p) :=
 asks_bind (R := fun _ => True) (fun a _ => by
  split
  ·exact g
  ·split
   ·refine ⟨g.get h0 _, g.get h0 _, fun b => ?_⟩
    cases b
    ·exact asks_part h0 (g.rev _ _) _ _
    ·exact g
   ·exact asks_part h0 g _ _) _ (asks_asc h0 g _ _)
theorem asks_place (h0 : 0 < n) (g : good n p) (k : Nat) : ∀ f l r, asksR n (fun _ => True) (kas_place p k f l r)
 | 0, l, r => trivial
 | f + 1, l, r => by
  unfold kas_place
  split
  ·trivial
  ·refine ⟨g.get h0 _, g.get h0 _, fun b => ?_⟩
   cases b
   ·exact asks_place h0 g k f _ _
   ·exact asks_place h0 g k f _ _
theorem asks_bin (h0 : 0 < n) : ∀ f (p : Array Nat) k, good n p → asksR n (good n) (kas_bin f p k)
 | 0, p, k, g => g
 | f + 1, p, k, g => asks_bind (R := fun _ => True) (fun l _ => asks_bin h0 f _ _ (g.bub _ _)) _ (asks_place h0 g k _ _ _)
theorem asks_sort (h0 : 0 < n) : asksR n (good n) (kas_sort n) :=
 asks_bind (R := fun r => good n r.2) (fun r h => by
  split
  ·exact asks_bin h0 _ _ _ h
  ·exact h) _ (asks_count h0 (Array.Perm.refl _) n)
end
def ordT (n : Nat) (lt : Nat → Nat → Bool) : List Nat := (runT lt (kas_sort n)).toList
theorem ord_perm {n : Nat} (h0 : 0 < n) (lt : Nat → Nat → Bool) : (ordT n lt).Perm (List.range n) := by
 have : good n (runT lt (kas_sort n)) := asks_run _ (asks_sort h0)
 have := Array.perm_iff_toList_perm.mp this
 simpa [ordT] using this
def lexB (a b : Int × Int) : Bool := if a.1 = b.1 then decide (a.2 < b.2) else decide (a.1 < b.1)
def ltP (qs : List (Int × Int)) (i j : Nat) : Bool := lexB (qs.getD i (0, 0)) (qs.getD j (0, 0))
open D3
def prsD : List D → Option (List (Int × Int))
 | [] => some []
 | .tuple [.int i, .int j] :: r => (prsD r).map ((i, j) :: ·)
 | _ => none
def gSortP : List D → Option D
 | [.list l] => match intsD l with
  | some _ => gSort [.list l]
  | none => (prsD l).bind fun qs => if l.length < 64 then (if l.length = 1 then some (.list l) else some (.list ((ordT l.length (ltP qs)).map fun i => l.getD i .none))) else none
 | _ => none
def gDictL : List D → Option D
 | [.list l] => (prsD l).bind fun qs => if l.length ≤ 1000 ∧ (qs.map (·.1)).Nodup then some (.dict (qs.map fun q => (.int q.1, .int q.2))) else none
 | _ => none
end XS
namespace XS
open PySem PySem.Spec PySem.W PyProof.Rows L2 My D3
theorem obj_there {P : Program} {w : World} {H : Hp} {h : Heap} {a : Addr} {o : HO} (x : ObjOk P w H h a o) : ∃ u, h.get? a = some u := by
 cases o with
 | lst xs => obtain ⟨_, _, _, _, e⟩ := x; exact ⟨_, e⟩
 | tup xs => obtain ⟨_, _, _, u, e, _⟩ := x; exact ⟨_, e⟩
 | dK kvs => obtain ⟨_, _, _, _, u, _, _, e, _⟩ := x; exact ⟨_, e⟩
 | dT kvs => obtain ⟨_, _, _, _, u, _, _, e, _⟩ := x; exact ⟨_, e⟩
 | set S n => obtain ⟨u, _, _, _, e, _⟩ := x; exact ⟨_, e⟩
 | ins C dx fs => obtain ⟨_, _, _, e, _⟩ := x; exact ⟨_, e⟩
 | own y => exact x
 | xd fs => obtain ⟨_, ⟨u, _, _, e, _⟩, _⟩ := x; exact ⟨_, e⟩
 | met f y => exact ⟨_, x⟩
 | rng lo hi => obtain ⟨_, _, _, e⟩ := x; exact ⟨_, e⟩
 | frz u v => exact ⟨_, x.1⟩
 | tbl q p => obtain ⟨_, e, _⟩ := x; exact ⟨_, e⟩
 | ext φ => exact x.2.1
section
variable {X : Cx} {pins : List (Addr × Obj)} {σ : L2.St} {H : Hp} {s : Shared}
theorem ns_one {h : Heap} {L : Addr} {m m' : Str → Option Value} (a : h.Ns L m) (b : h.Ns L m') : m = m' := by
 obtain ⟨o, es, ep, e, d, _, f⟩ := a
 obtain ⟨o', es', ep', e', d', _, f'⟩ := b
 rw [e] at e'; cases e'
 rw [d] at d'; cases d'
 funext x
 rw [← f, ← f']
theorem inv_new {h' : Heap} {m : Str → Option Value} {D : Addr} {o : HO} (I : Inv X pins σ H s) (hm : s.heap.Ns X.env.locals m) (hm' : h'.Ns X.env.locals m) (k : ∀ b u, b ≠ X.env.locals → s.heap.get? b = some u → h'.get? b = some u)
 (hD : s.heap.get? D = none) (new : ObjOk X.prog X.w (upd H D o) h' D o) : Inv X pins σ (upd H D o) { s with heap := h' } := by
 have hn : H D = none := by
  cases e : H D with
  | none => rfl
  | some u =>
   obtain ⟨w, hw⟩ := obj_there (I.hok D u e)
   rw [hD] at hw; cases hw
 have ne : ∀ {b u}, H b = some u → b ≠ D := fun e => ne_of_none e hn
 refine I.step (g' := s.gens) (d' := s.drawn) (t' := s.toks) (ch := []) (fun b hb => by cases hb) (fun b u hL _ _ e _ => k b u hL e) (fun b u hL _ _ e _ => ⟨u.slots, k b u hL e⟩) (fun b u _ e n => ?_) (fun b u _ e => ?_)
  (fun b xs e => by rw [upd_ne (ne e)]; exact e) (fun b u v e => by rw [upd_ne (ne e)]; exact e) (fun b q p e => by rw [upd_ne (ne e)]; exact e) (fun m2 h2 => by rw [← ns_one hm h2]; exact hm') (fun b u e => ?_) I.bare
 ·rw [upd_ne (fun z => by rw [z, hD] at e; cases e)]; exact n
 ·by_cases z : b = X.env.locals
  ·obtain ⟨w, _, _, hw, _⟩ := hm'
   exact ⟨w, by rw [z]; exact hw⟩
  ·exact ⟨u, k b u z e⟩
 ·by_cases z : b = D
  ·subst z
   rw [upd_same] at e
   cases e
   exact new
  ·rw [upd_ne z] at e
   refine (I.hok b u e).stay (fun c w hc q => k c w (fun y => ?_) q) (fun c q => by rw [upd_ne (ne q)]; exact q) fun c xs q => by rw [upd_ne (ne q)]; exact q
   rcases hc with rfl | y2
   ·rw [y, I.free] at e; cases e
   ·rw [y, I.free] at y2; cases y2
end
section
variable {prog : Program} {w : World} {A : Around} {E : Value → Shared → Prop} {s : Shared}
theorem lt_pair {x y : Addr} {a b c d : Int} {t1 t2 t3 t4 : Tok} {C : Bool → Shared → Prop} (hx : IsTup s.heap x #[.int a t1, .int b t2]) (hy : IsTup s.heap y #[.int c t3, .int d t4]) (q : C (lexB (a, b) (c, d)) s) :
 wpAny (model prog w) A (keyLt' (tuples' true) (.ref x) (.ref y)) C E s := by
 obtain ⟨ox, ex, _, nx, dx⟩ := hx
 obtain ⟨oy, ey, _, ny, dy⟩ := hy
 refine kat_lt ex dx ey dy ?_
 show KatLex prog w A true (decide (2 < 2)) C [(Value.int a t1, Value.int c t3), (Value.int b t2, Value.int d t4)] 0 s
 refine kat_cons (wpAny_eqBool_int (kat_go (fun e => ?_) fun e => ?_))
 ·refine kat_yes (kat_cons (wpAny_eqBool_int (kat_go (fun e2 => ?_) fun e2 => ?_)))
  ·refine kat_yes (kat_nil ?_)
   have e := beq_iff_eq.mp e
   have e2 := beq_iff_eq.mp e2
   subst e e2
   simpa [lexB] using q
  ·refine kat_no (kat_one _ _ (lt_int ?_))
   have e := beq_iff_eq.mp e
   subst e
   simpa [lexB, PySem.W.BoolBack] using q
 ·refine kat_no ?_
  have e : a ≠ c := by
   intro z; subst z; simp at e
  have q' : C (decide (a < c)) s := by simpa [lexB, e] using q
  exact oneLt_int q'
end
end XS
namespace XS
open PySem PySem.Spec PySem.W PyProof.Rows L2 My D3
def IsPr (K : PySem.W.Frag) (H : Hp) (y : V) (q : Int × Int) : Prop := ∃ a, y = .ref a ∧ SqT K H a [.int q.1, .int q.2]
abbrev Prs (K : PySem.W.Frag) (H : Hp) : List V → List (Int × Int) → Prop := Paired (IsPr K H)
section
variable {X : Cx} {pins : List (Addr × Obj)} {σ : L2.St} {H : Hp} {s : Shared}
theorem pair_of (I : Inv X pins σ H s) {y : V} {u : Value} {q : Int × Int} (h : IsPr X.K H y q) (r : RelV y u) : ∃ a t1 t2, u = .ref a ∧ IsTup s.heap a #[.int q.1 t1, .int q.2 t2] := by
 obtain ⟨a, rfl, hq⟩ := h
 cases r
 obtain ⟨its, rr, p, _⟩ := I.tuple hq
 cases rr with
 | cons r1 rr => cases rr with
  | cons r2 rr =>
   cases rr
   obtain ⟨t1, rfl⟩ := r1
   obtain ⟨t2, rfl⟩ := r2
   exact ⟨a, t1, t2, rfl, p⟩
theorem tups_of (I : Inv X pins σ H s) {h' : Heap} (k : ∀ a items, IsTup s.heap a items → IsTup h' a items) : ∀ {ys : List V} {us : List Value} {qs : List (Int × Int)}, Prs X.K H ys qs → Vals ys us → ∃ fs, KatTups h' us fs ∧ fs.length = us.length ∧ ∀ v ∈ fs, ∃ i t, v = .int i t
 | _, _, _, .nil, .nil => ⟨[], trivial, rfl, fun _ h => by cases h⟩
 | _, _, _, .cons p ps, .cons r rs => by
  obtain ⟨fs, h1, h2, h3⟩ := tups_of I k ps rs
  obtain ⟨a, t1, t2, rfl, ht⟩ := pair_of I p r
  obtain ⟨o, e, c, n, d⟩ := k _ _ ht
  refine ⟨.int _ t1 :: fs, ⟨⟨a, o, _, n, rfl, e, c, d, rfl⟩, h1⟩, by simp [h2], fun v hv => ?_⟩
  rcases List.mem_cons.mp hv with rfl | hv
  ·exact ⟨_, _, rfl⟩
  ·exact h3 v hv
theorem getD_pair {ys : List V} {us : List Value} {qs : List (Int × Int)} : Prs X.K H ys qs → Vals ys us → ∀ i, i < ys.length → IsPr X.K H (ys.getD i .non) (qs.getD i (0, 0)) ∧ RelV (ys.getD i .non) (us.getD i .none)
 | .nil, .nil, i, h => by cases h
 | .cons p ps, .cons r rs, 0, h => ⟨p, r⟩
 | .cons p ps, .cons r rs, i + 1, h => by
  have := getD_pair ps rs i (by simpa using h)
  simpa using this
theorem call_sortedP : CallR X (.builtin "sorted") (fun xs H Q => ∃ (p : Addr) (ys : List V) (qs : List (Int × Int)), xs = [.ref p] ∧ SqL X.K H p ys ∧ 2 ≤ ys.length ∧ ys.length < 64 ∧ Prs X.K H ys qs ∧ ∀ l, H l = none → Q (.ref l) (upd H l (.lst ((ordT ys.length (ltP qs)).map fun i => ys.getD i .non)))) := by
 intro pins s σ H xs us Q I r h
 obtain ⟨p, ys, qs, rfl, hx, h2, h64, hp, q⟩ := h
 obtain ⟨u, rfl, rx⟩ := vals1 r
 cases rx
 obtain ⟨its, rvs, pl, hz⟩ := I.list hx
 obtain ⟨m, hm, _⟩ := id I.loc
 have len : its.length = ys.length := rvs.length.symm
 refine kat_sorted (h₀ := Att.noObjs s.heap) (L := X.env.locals) (m := m) (Att.fr_all hm) (news_all (g := Att.noObjs s.heap) (h := s.heap) (L := X.env.locals)) pl.isList (by rw [len]; exact h2) (by rw [len]; exact h64) fun D e1 h' F' N' lt => ?_
 have kept : ∀ {h'' : Heap} {nw : List (Addr × Obj)}, News (Att.noObjs s.heap) X.env.locals h'' nw → (∀ y ∈ allNews (Att.noObjs s.heap) s.heap X.env.locals, y ∈ nw) → ∀ b o, b ≠ X.env.locals → s.heap.get? b = some o → h''.get? b = some o := fun N hs b o hb e => (N (b, o) (hs _ (mem_allNews hb (Att.noObjs_get _ _) e))).1
 have kt : ∀ a items, IsTup s.heap a items → IsTup h' a items := fun a items ⟨o, e, c, n, d⟩ => ⟨o, kept N' (fun y hy => List.mem_cons_of_mem _ hy) a o (fun z => by
  obtain ⟨o2, es, ep, e2, d2, _⟩ := hm
  rw [z, e2] at e; cases e
  rw [d2] at d; cases d) e, c, n, d⟩
 obtain ⟨fs, f1, f2, f3⟩ := tups_of I kt hp rvs
 refine kat_kind (T := .type "int") f1 (by rw [f2, len]; omega) (fun v hv => ?_) rfl ?_
 ·obtain ⟨i, t, rfl⟩ := f3 v hv
  exact fun A Q E s _ q => wpAny_pure q
 have e64 : its.length < 64 := by rw [len]; exact h64
 refine asks_wp (n := its.length) (lt := ltP qs) (R := good its.length) (fun i j C hi hj hc => ?_) _ (asks_sort (by rw [len]; omega)) ?_
 ·obtain ⟨p1, r1⟩ := getD_pair hp rvs i (by rw [← len]; exact hi)
  obtain ⟨p2, r2⟩ := getD_pair hp rvs j (by rw [← len]; exact hj)
  obtain ⟨a1, t1, t2, x1, y1⟩ := pair_of I p1 r1
  obtain ⟨a2, t3, t4, x2, y2⟩ := pair_of I p2 r2
  unfold kas_ask
  rw [x1, x2]
  exact lt_pair (kt _ _ y1) (kt _ _ y2) hc
 ·refine KasFin.intro F' N' (.head fun y hy => Nat.ne_of_lt (lt y hy)) fun h2 c F2 N2 => ?_
  have hD : s.heap.get? D = none := by
   cases e : s.heap.get? D with
   | none => rfl
   | some o =>
    by_cases z : D = X.env.locals
    ·exact absurd z (N' _ (List.mem_cons_self ..)).2.1
    ·exact absurd (lt (D, o) (mem_allNews z (Att.noObjs_get _ _) e)) (Nat.lt_irrefl _)
  have hn : H D = none := by
   cases e : H D with
   | none => rfl
   | some u =>
    obtain ⟨w, hw⟩ := obj_there (I.hok D u e)
    rw [hD] at hw; cases hw
  have pm := ord_perm (n := ys.length) (by omega) (ltP qs)
  have hv : ∀ l : List Nat, (∀ i ∈ l, i < ys.length) → Vals (l.map fun i => ys.getD i .non) (l.map fun i => its.getD i .none) := fun l hl => by
   induction l with
   | nil => exact .nil
   | cons i l ih => exact .cons (getD_pair hp rvs i (hl i List.mem_cons_self)).2 (ih fun j hj => hl j (List.mem_cons_of_mem _ hj))
  have o1 : ((runT (ltP qs) (kas_sort its.length)).toList) = ordT ys.length (ltP qs) := by rw [len]; rfl
  have new : ObjOk X.prog X.w (upd H D (.lst ((ordT ys.length (ltP qs)).map fun i => ys.getD i .non))) h2 D (.lst ((ordT ys.length (ltP qs)).map fun i => ys.getD i .non)) := by
   refine ⟨by rw [List.length_map, pm.length_eq, List.length_range]; exact Nat.le_trans (Nat.le_of_lt h64) (by decide), _, c, hv _ fun i hi => List.mem_range.mp (pm.mem_iff.mp hi), ?_⟩
   have := (N2 _ (List.mem_cons_self ..)).1
   rw [← o1]
   exact this
  exact ⟨.ref D, _, inv_new (s := s) (h' := h2) I hm F2.ns (kept N2 fun y hy => List.mem_cons_of_mem _ hy) hD new, rfl, q D hn⟩
end
end XS
namespace XS
open PySem PySem.Spec PySem.W PyProof.Rows L2 My D3
section
variable {prog : Program} {w : World} {A : Around} {E : Value → Shared → Prop} {s : Shared}
theorem sort_few {a : Addr} {v : Value} {n : Nat} {P : PySem.Fin → Shared → Prop} (ho : s.heap.get? a = some (seqObj "list" #[v] n))
 (h : ∀ h' c, (∀ b u, b ≠ a → s.heap.get? b = some u → h'.get? b = some u) → h'.get? a = some (seqObj "list" #[v] c) → P (.done (.ret .none)) { s with heap := h' }) :
 wpAny (model prog w) A (Builtin.«list.sort» ⟨[.ref a], []⟩) P E s := by
 obtain ⟨g1, e1⟩ : ∃ g1, g1 = s.heap.update a (Obj.mapSeq fun _ => (#[] : Array Value)) := ⟨_, rfl⟩
 obtain ⟨c1, h1⟩ : ∃ c, g1.get? a = some (seqObj "list" #[] c) := ⟨_, by rw [e1]; exact get?_update_seq ho fun _ => #[]⟩
 have k1 : ∀ b u, b ≠ a → s.heap.get? b = some u → g1.get? b = some u := fun b u z q => by rw [e1]; exact (Heap.get?_update_ne _ _ _ _ z).trans q
 rw [list_sort_plain]
 refine wpAny_bind (listItems_at ho rfl ?_)
 refine wpAny_bind (listUpdate_at ho rfl ?_ (show 1 ≤ sizeLine by decide) (Nat.zero_le _))
 rw [← e1]
 refine wpAny_bind (seqEpoch_at h1 rfl ?_)
 refine wpAny_bind (wpAny_newTuple ?_ (show 1 ≤ sizeLine by decide))
 refine wpAny_bind (wpAny_newList ?_ (Nat.zero_le _))
 refine wpAny_holding ?_
 obtain ⟨g2, e2⟩ : ∃ g2, g2 = (g1.push (seqObj "tuple" #[v] 0)).push (seqObj "list" #[] 0) := ⟨_, rfl⟩
 show wpAny (model prog w) A _ P E { s with heap := (g1.push (seqObj "tuple" #[v] 0)).push (seqObj "list" #[] 0) }
 rw [← e2]
 have h2 : g2.get? a = some (seqObj "list" #[] c1) := by rw [e2]; exact Heap.get?_push_of_some _ (Heap.get?_push_of_some _ h1)
 have k2 : ∀ b u, b ≠ a → s.heap.get? b = some u → g2.get? b = some u := fun b u z q => by rw [e2]; exact Heap.get?_push_of_some _ (Heap.get?_push_of_some _ (k1 b u z q))
 have two : (#[v] : Array Value).size < 2 := Nat.lt_succ_self 1
 have srt : (arrOf (SortSt.mk' general' ((#[v] : Array Value).zip #[v]) #[] 7 none)).map (·.2) = #[v] := by
  show ((#[v] : Array Value).zip #[v]).map (·.2) = #[v]
  simp
 dsimp only
 rw [if_pos two, if_pos two]
 refine wpAny_bind (wpAny_pure ?_)
 refine wpAny_bind (wpAny_pure ?_)
 dsimp only
 rw [srt]
 refine wpAny_bind (seqEpoch_at h2 rfl ?_)
 refine wpAny_bind (listUpdate_at h2 rfl ?_ (Nat.zero_le _) (show 1 ≤ sizeLine + 1 by decide))
 show wpAny _ _ (if (c1 != c1) = true then _ else ret Value.none) P E _
 rw [if_neg (by simp)]
 refine wpAny_pure (h _ _ (fun b u z q => (Heap.get?_update_ne _ _ _ _ z).trans (k2 b u z q)) (get?_update_seq h2 _))
end
section
variable {X : Cx}
theorem call_sorted1 : CallR X (.builtin "sorted") (fun xs H Q => ∃ (p : Addr) (y : V), xs = [.ref p] ∧ SqL X.K H p [y] ∧ ∀ l, H l = none → Q (.ref l) (upd H l (.lst [y]))) := by
 intro pins s σ H xs us Q I r h
 obtain ⟨p, y, rfl, hx, q⟩ := h
 obtain ⟨u, rfl, rx⟩ := vals1 r
 cases rx
 obtain ⟨its, rvs, pl, hz⟩ := I.list hx
 obtain ⟨v, rfl, rv⟩ : ∃ v, its = [v] ∧ RelV y v := by
  cases rvs with
  | cons a b => cases b; exact ⟨_, rfl, a⟩
 refine Calls.call_function_entry kind_sorted plain_sorted entry_sorted (args_sorted1 _) ?_
 unfold Builtin.«sorted»
 refine wpAny_bind (m := checkCount "sorted" 1 1 _) (wpAny_pure ?_)
 refine wpAny_bind (collect_list (vs := [v]) pl.isList ?_ (show 1 ≤ sizeLine by decide))
 refine wpAny_bind (wpAny_newList ?_ (show 1 ≤ sizeLine by decide))
 obtain ⟨g, eg⟩ : ∃ g, g = (s.heap.push (seqObj "list" #[] 0)).update s.heap.objs.size (Obj.mapSeq (· ++ [v].toArray)) := ⟨_, rfl⟩
 show wpAny _ _ _ _ _ { s with heap := ((s.heap.push (seqObj "list" #[] 0)).update s.heap.objs.size (Obj.mapSeq (· ++ [v].toArray))).push (seqObj "list" [v].toArray 0) }
 rw [← eg]
 have sz : g.objs.size = s.heap.objs.size + 1 := by rw [eg, Heap.size_update, size_push']
 have old : ∀ b o, s.heap.get? b = some o → g.get? b = some o := fun b o e => by
  have lt := Heap.lt_size e
  rw [eg, Heap.get?_update_ne _ _ _ _ (Nat.ne_of_lt lt)]
  exact Heap.get?_push_of_some _ e
 have at' : (g.push (seqObj "list" [v].toArray 0)).get? g.objs.size = some (seqObj "list" #[v] 0) := Heap.get?_push_size _ rfl
 refine wpAny_bind (wpAny_holding (wpAny_call_entry slot_list_sort ⟨_, at', rfl⟩ entry_list_sort (sort_few at' fun h' c k e => ⟨_, rfl, ?_⟩) (args_list_sort _)))
 refine wpAny_pure ⟨_, rfl, ?_⟩
 have hn : H g.objs.size = none := I.hok.fresh (by rw [sz]; exact Nat.le_succ _)
 have I2 := I.laid (h' := h') (t' := s.toks) (a := g.objs.size) (o := .lst [y]) (fun b o q => k b o (fun z => by
  have lt : b < s.heap.objs.size := Heap.lt_size q
  have z : b = s.heap.objs.size + 1 := z.trans sz
  rw [z] at lt
  exact absurd lt (Nat.not_lt.mpr (Nat.le_succ _))) (Heap.get?_push_of_some _ (old b o q))) (by rw [sz]; exact Nat.le_succ _) ⟨show 1 ≤ sizeLine by decide, [v], c, .cons rv .nil, e⟩
 exact ⟨.ref _, _, I2, rfl, q _ hn⟩
end
end XS
namespace XS
open PySem PySem.Spec PySem.W PyProof.Rows L2 My D3
section
variable {K : PySem.W.Frag} {H : Hp}
theorem prs_ra : ∀ {l : List D} {qs : List (Int × Int)} {ys : List V}, prsD l = some qs → RAs K ok1 true H ys l → Prs K H ys qs ∧ l = qs.map fun q => .tuple [.int q.1, .int q.2]
 | [], qs, ys, e, r => by
  cases e; cases r; exact ⟨.nil, rfl⟩
 | d :: l, qs, ys, e, r => by
  cases r with
  | cons r1 r2 =>
   unfold prsD at e
   split at e
   ·next h => cases h
   ·next i j t h =>
    cases h
    cases e3 : prsD l with
    | none => rw [e3] at e; cases e
    | some q2 =>
     rw [e3] at e
     cases e
     obtain ⟨p, el⟩ := prs_ra e3 r2
     obtain ⟨a, xs, rfl, hs, hr⟩ := r1.tupE
     cases hr with
     | cons h1 hr => cases hr with
      | cons h2 hr =>
       cases hr
       obtain rfl := h1.intE
       obtain rfl := h2.intE
       exact ⟨.cons ⟨a, rfl, hs⟩ p, by rw [List.map_cons, ← el]⟩
   ·cases e
theorem flat_prs (qs : List (Int × Int)) : flats (qs.map fun q => (.tuple [.int q.1, .int q.2] : D)) = true := by
 induction qs with
 | nil => rfl
 | cons q qs ih => simp [flats, flat, ih]
theorem flat_get : ∀ {l : List D}, flats l = true → ∀ i, flat (l.getD i .none) = true
 | [], _, i => by simp [flat]
 | d :: l, h, 0 => by rw [flats, Bool.and_eq_true] at h; exact h.1
 | d :: l, h, i + 1 => by
  rw [flats, Bool.and_eq_true] at h
  simpa using flat_get h.2 i
theorem ra_getD : ∀ {ys : List V} {l : List D} {ok : Ok} {pl : Bool}, RAs K ok pl H ys l → ∀ i, RA K ok pl H (ys.getD i .non) (l.getD i .none)
 | _, _, _, _, .nil, i => by simp; exact .non
 | _, _, _, _, .cons a b, 0 => a
 | _, _, _, _, .cons a b, i + 1 => by simpa using ra_getD b i
end
theorem de_sortP {X : Cx} {fl : List Fl} {e : Expr} {fa : FA} {p pos : Pos} (ha : DB X fl .P [e] fa) (hg : Gl X "sorted") (hm : X.mg "sorted" = none)
 (he : starEach [e] X.env = (false, eval e X.env) :: starEach [] X.env := by rfl) (hpl : (backTo pos (starEach [] X.env)).any (·.1) = false := by rfl) : DE X fl .FC (.Call (.Name "sorted" p) [e] [] pos) (dCall gSortP fa) := by
 have bs : bootBuiltins "sorted" = some (.builtin "sorted") := by decide +kernel
 intro pins s σ H Q I h
 obtain ⟨G, ow, δ, d, R, hf, q⟩ := h
 obtain ⟨ds, e1, e2⟩ := bind1 hf
 unfold gSortP at e2
 split at e2
 ·next l =>
  split at e2
  ·next ns e3 => exact de_sorted ha hg hm he hpl pins s σ H Q I ⟨G, ow, δ, d, R, by unfold dCall; rw [e1]; exact e2, q⟩
  ·next e3 =>
   obtain ⟨qs, e4, e5⟩ := bind1 e2
   by_cases h64 : l.length < 64
   ·rw [if_pos h64] at e5
    by_cases h1 : l.length = 1
    ·rw [if_pos h1] at e5
     cases e5
     refine pe_callB call_sorted1 hg hm bs ha (by decide) (by decide) he hpl pins s σ H Q I ⟨G, ow, δ, _, R, e1, fun vs H' sm r' => ?_⟩
     cases r' with
     | cons r1 r2 =>
      cases r2
      obtain ⟨a, ys, rfl, hx, hr⟩ := r1.lstE
      obtain ⟨hp, hl⟩ := prs_ra e4 hr
      obtain ⟨y, rfl⟩ : ∃ y, ys = [y] := by
       have := hr.length
       rw [h1] at this
       exact List.length_eq_one_iff.mp this
      refine ⟨a, y, rfl, hx, fun l0 hn => q _ _ (sm.trans (same_new hn _)) (.inr ⟨_, _, _, rfl, rfl, sm.free hn, upd_same, ?_⟩)⟩
      exact RAs.flat (by rw [hl]; exact flat_prs qs) (hr.same (same_new hn _))
    ·rw [if_neg h1] at e5
     cases e5
     refine pe_callB call_sortedP hg hm bs ha (by decide) (by decide) he hpl pins s σ H Q I ⟨G, ow, δ, _, R, e1, fun vs H' sm r' => ?_⟩
     cases r' with
     | cons r1 r2 =>
      cases r2
      obtain ⟨a, ys, rfl, hx, hr⟩ := r1.lstE
      obtain ⟨hp, hl⟩ := prs_ra e4 hr
      have el : ys.length = l.length := hr.length
      have h2 : 2 ≤ ys.length := by
       rcases Nat.lt_or_ge ys.length 2 with z | z
       ·have : l.length = 0 := by omega
        have := List.length_eq_zero_iff.mp this
        subst this
        cases e3
       ·exact z
      refine ⟨a, ys, qs, rfl, hx, h2, by omega, hp, fun l0 hn => q _ _ (sm.trans (same_new hn _)) (.inr ⟨_, _, _, rfl, rfl, sm.free hn, upd_same, ?_⟩)⟩
      rw [el]
      have fl0 : flats l = true := by rw [hl]; exact flat_prs qs
      have hr2 := hr.same (same_new hn (.lst ((ordT l.length (ltP qs)).map fun i => ys.getD i .non)))
      generalize ordT l.length (ltP qs) = is at hr2 ⊢
      clear e3 e4 hx h2 hp hl e1 hf
      have : ∀ (is : List Nat) (H2 : Hp), RAs X.K ok1 true H2 ys l → RAs X.K (fun b => okN H b ∧ b ≠ l0) false H2 (is.map fun i => ys.getD i .non) (is.map fun i => l.getD i .none) := fun is H2 hr => by
       induction is with
       | nil => exact .nil
       | cons i is ih => exact .cons (RA.flat (flat_get fl0 i) (ra_getD hr i)) ih
      exact this is _ hr2
   ·rw [if_neg h64] at e5; cases e5
 ·cases e2
end XS
namespace XS
open PySem PySem.Spec PySem.W PyProof.Rows
section
variable {prog : Program} {w : World} {A : Around} {E : Value → Shared → Prop} {s : Shared}
theorem no_keys : typeLookup (.type "list") "keys" = pure none := by rw [typeLookup_type, builtinLookup_eq_fast]; kernel_rfl
theorem keys_none {a : Addr} {xs : Array Value} {k : Nat} {sl : Array (Option Value)} {Q : Option Value → Shared → Prop} (hx : s.heap.get? a = some { cls := .type "list", dict := none, data := .seq xs k, slots := sl }) (hA : A.handled = none)
 (h : ∀ h' tk, (∀ b o, s.heap.get? b = some o → h'.get? b = some o) → Q none { s with heap := h', toks := tk }) : wpAny (model prog w) A (getAttr? (.ref a) "keys") Q E s := by
 obtain ⟨hp, g, d, tk, os⟩ := s
 have hT : ∀ tk', (⟨hp, g, d, tk', os⟩ : Shared).TypeIs (.ref a) "list" := fun _ => ⟨_, hx, rfl⟩
 have f1 := sub_AttributeError
 have f3 := F.slot_list_getattribute.lookup
 have f4 := F.slot_list_getattribute.bind (.ref a)
 have f5 := am_list_getattr_none
 unfold getAttr? getAttrBy? getAttrBy
 repeat (any_goals (first | assumption | exact hT _ | ((with_reducible show wpAny _ _ (call (Value.builtin "list.__getattribute__") _ _) _ _ _); refine call_meets F.slot_list_getattribute (hT _) am_entry_list_getattribute (F.args_list_getattribute_2 _ _) (meets_getattribute_miss_list a xs k sl "keys" _ no_keys (by decide) (by decide)) ⟨hx, hA, fun h' tk' e hx' => ?_⟩) | wp_step))
 obtain ⟨t', u', he⟩ := hx'.there
 show wpAny _ _ (getattributeRaised _ _ _ _ _ _ _) _ _ _
 unfold getattributeRaised
 repeat (any_goals (first | assumption | wp_step))
 exact h _ _ hx'.keeps
theorem entry_upd : entryFor table "dict.update.loop" = some Builtin.«dict.update.loop» := entryFor_of_tree (by kernel_rfl)
theorem plain_upd : plainId "dict.update.loop" = true := by decide +kernel
structure PL (h : Heap) (D I l : Addr) (its : Array Value) (vs : List (L2.Key × Value)) (i : Nat) : Prop where
 iter : h.IsListIter I l i
 lst : h.IsList l its
 prs : ∀ (j : Nat) (u : Value), its[j]? = some u → ∃ (a : Addr) (n : Int) (t : Tok) (v : Value), u = Value.ref a ∧ IsTup h a #[Value.int n t, v] ∧ vs[j]? = some (Sum.inl n, v) ∧ a ≠ D ∧ a ≠ I
 ne : l ≠ D ∧ l ≠ I ∧ D ≠ I
theorem upd_loop {D I l : Addr} {its : Array Value} {vs : List (L2.Key × Value)} {R : Result → Shared → Prop} (hA : A.handled = none) (hn : (vs.map (·.1)).Nodup) (hz : vs.length = its.size) (hs : its.size ≤ 1000) :
 ∀ (m i : Nat) (tk : Tok) (s : Shared), its.size - i = m → i ≤ its.size → PL s.heap D I l its vs i → s.heap.DictOf (L2.mixKind prog w) D (vs.take i) →
  (∀ h' tk, (∀ b o, b ≠ D → b ≠ I → s.heap.get? b = some o → h'.get? b = some o) → h'.DictOf (L2.mixKind prog w) D vs → R (.ok (.ret .none)) { s with heap := h', toks := tk }) →
  codeAny (model prog w) A (.builtin "dict.update.loop" ⟨[.ref D, .ref I, .int i tk, .none], []⟩) R s := by
 intro m
 induction m with
 | zero =>
  intro i tk s hm hi P hd hR
  have e : i = its.size := by omega
  subst e
  refine codeAny_builtin entry_upd ?_
  rw [Around.under_plainId plain_upd _]
  have : its[its.size]? = none := by simp
  show wpAny _ A.in1 (pyNext (.ref I) >>= _) _ _ s
  refine wpAny_bind (wpAny_pyNext_list_end (by simpa using hA) P.iter P.lst this fun h' hx => ?_)
  show wpAny _ A.in1 (Builtin.Dict.addKeywords D [] >>= _) _ _ _
  refine wpAny_bind (wpAny_pure (wpAny_pure ?_))
  have hx' : h'.DictOf (L2.mixKind prog w) D vs := by
   have := hd.extBut hx P.ne.2.2
   rwa [← hz, List.take_length] at this
  exact hR h' s.toks (fun b o _ z q => hx b o z q) hx'
 | succ m ih =>
  intro i tk s hm hi P hd hR
  have hlt : i < its.size := by omega
  obtain ⟨u, hu⟩ : ∃ u, its[i]? = some u := ⟨its[i], by simp [hlt]⟩
  obtain ⟨a, n, t, v, rfl, hp, hv, na, ni⟩ := P.prs i u hu
  refine codeAny_builtin entry_upd ?_
  rw [Around.under_plainId plain_upd _]
  show wpAny _ A.in1 (pyNext (.ref I) >>= _) _ _ s
  refine wpAny_bind (wpAny_pyNext_list_item P.iter P.lst hu fun h1 it1 sb1 => ?_)
  have k1 : ∀ b, b ≠ I → h1.get? b = s.heap.get? b := fun b z => sb1.2 b z
  have hp1 : IsTup h1 a #[.int n t, v] := by
   obtain ⟨o, e, c⟩ := hp
   exact ⟨o, (k1 a ni).trans e, c⟩
  have hd1 : h1.DictOf (L2.mixKind prog w) D (vs.take i) := hd.sameBut sb1 P.ne.2.2
  show wpAny _ A.in1 (holding [Value.ref a] _ >>= _) _ _ _
  refine wpAny_bind (wpAny_holding ?_)
  have hs1 : (vs.take i).length ≤ sizeLine := by
   rw [List.length_take]
   exact Nat.le_trans (Nat.min_le_left _ _) (Nat.le_trans (Nat.le_of_lt hlt) (Nat.le_trans hs (by decide)))
  have hnew : stored (vs.take i) (Sum.inl n) v = vs.take (i + 1) := by
   have hi2 : i < vs.length := by omega
   have hv2 : vs[i] = (Sum.inl n, v) := by
    have := List.getElem?_eq_getElem hi2
    rw [hv] at this
    exact (Option.some.inj this).symm
   have no : ¬ ((vs.take i).any fun kv => decide (kv.1 = Sum.inl n)) = true := by
    intro z
    obtain ⟨kv, hk, e⟩ := List.any_eq_true.mp z
    have e := of_decide_eq_true e
    obtain ⟨j, hj, e2⟩ := List.mem_iff_getElem.mp hk
    have hj' : j < i := by
     have : j < (vs.take i).length := hj
     rw [List.length_take] at this
     omega
    have e3 : vs[j] = kv := by
     rw [← e2, List.getElem_take]
    have := List.pairwise_iff_getElem.mp hn j i (by rw [List.length_map]; omega) (by rw [List.length_map]; exact hi2) hj'
    apply this
    rw [List.getElem_map, List.getElem_map, e3, hv2, e]
   unfold stored
   rw [if_neg no, List.take_add_one, hv]
   rfl
  obtain ⟨o2, e2, c2, n2, d2⟩ := id hp1
  have hT : Shared.TypeIs { s with heap := h1 } (.ref a) "tuple" := ⟨o2, e2, c2⟩
  refine wpAny_bind (wpAny_tryCatch ?_)
  unfold Builtin.Dict.pairItems
  refine wpAny_bind (wpAny_typeOf hT ?_)
  rw [if_pos (by decide)]
  refine wpAny_bind (wpAny_seqItems e2 d2 (wpAny_pure ?_))
  show wpAny _ _ (holding [Value.int n t, v] (dictSet D (.int n t) v)) _ _ _
  refine wpAny_holding (wpAny_dictSet_pairs (knd := L2.mixKind prog w) (k := Sum.inl n) (hsz := hs1) (by show Value.isInt n (.int n t) = true; simp [Value.isInt]) hd1 fun h2 dd sb2 => ?_)
  rw [hnew] at dd
  refine wpAny_pure ⟨plainId_quiet plain_upd _, ?_⟩
  have k2 : ∀ b o, b ≠ D → b ≠ I → s.heap.get? b = some o → h2.get? b = some o := fun b o z1 z2 q => (sb2.2 b z1).trans ((k1 b z2).trans q)
  have tup2 : ∀ b x, b ≠ D → b ≠ I → IsTup s.heap b x → IsTup h2 b x := fun b x z1 z2 ⟨o, e, c⟩ => ⟨o, k2 b o z1 z2 e, c⟩
  refine ih (i + 1) 0 _ (by omega) (by omega) ⟨?_, ?_, fun j u hj => ?_, P.ne⟩ dd fun h3 tk3 k3 d3 => ?_
  ·obtain ⟨o, e, c⟩ := it1
   exact ⟨o, (sb2.2 I (Ne.symm P.ne.2.2)).trans e, c⟩
  ·obtain ⟨o, e, c⟩ := P.lst
   exact ⟨o, k2 l o P.ne.1 P.ne.2.1 e, c⟩
  ·obtain ⟨a', n', t', v', rfl, q1, q2, q3, q4⟩ := P.prs j u hj
   exact ⟨a', n', t', v', rfl, tup2 a' _ q3 q4 q1, q2, q3, q4⟩
  ·exact hR h3 tk3 (fun b o z1 z2 q => k3 b o z1 z2 (k2 b o z1 z2 q)) d3
end
end XS
namespace XS
open PySem PySem.Spec PySem.W PyProof.Rows
section
variable {prog : Program} {w : World} {A : Around} {E : Value → Shared → Prop} {s : Shared}
theorem dict_of_list {l : Addr} {its : Array Value} {n : Nat} {sl : Array (Option Value)} {vs : List (L2.Key × Value)} {Q : Value → Shared → Prop} (hA : A.handled = none) (hl : s.heap.get? l = some { cls := .type "list", dict := none, data := .seq its n, slots := sl })
 (hp : ∀ (j : Nat) (u : Value), its[j]? = some u → ∃ (a : Addr) (n : Int) (t : Tok) (v : Value), u = Value.ref a ∧ IsTup s.heap a #[Value.int n t, v] ∧ vs[j]? = some (Sum.inl n, v)) (hn : (vs.map (·.1)).Nodup) (hz : vs.length = its.size) (hs : its.size ≤ 1000)
 (h : ∀ h' tk, h'.DictOf (L2.mixKind prog w) s.heap.objs.size vs → (∀ b o, s.heap.get? b = some o → h'.get? b = some o) → Q (.ref s.heap.objs.size) { s with heap := h', toks := tk }) :
 wpAny (model prog w) A (PySem.call (.type "dict") [.ref l]) Q E s := by
 refine callType_codes (Q₁ := fun obj s₁ => obj = .ref s.heap.objs.size ∧ s₁ = { s with heap := s.heap.push { cls := .type "dict", data := .dict #[] } }) F.kt_called_dict (F.kt_typeCall_dict_1 _) F.entry_dict_init (kt_code_dict_new _ ⟨rfl, rfl⟩) ?_
 rintro obj s₁ ⟨rfl, rfl⟩
 obtain ⟨g, eg⟩ : ∃ g, g = s.heap.push { cls := .type "dict", data := .dict #[] } := ⟨_, rfl⟩
 rw [← eg]
 have dn : g.DictOf (L2.mixKind prog w) s.heap.objs.size [] := by rw [eg]; exact Heap.DictOf.new s.heap
 have kg : ∀ b o, s.heap.get? b = some o → g.get? b = some o := fun b o q => by rw [eg]; exact Heap.get?_push_of_some _ q
 have lg := kg _ _ hl
 have hT : Shared.TypeIs { s with heap := g } (.ref l) "list" := ⟨_, lg, rfl⟩
 refine ⟨dn.typeIs, F.args_dict_init_2 _ _, ?_⟩
 unfold Builtin.«dict.__init__»
 refine wpAny_bind ?_
 unfold Builtin.Dict.selfAndRest
 refine wpAny_bind (wpAny_notOrdered_dict dn.typeIs ?_)
 show wpAny _ _ (pure (s.heap.objs.size, [Value.ref l])) _ _ _
 refine wpAny_pure ?_
 show wpAny _ _ (Builtin.Dict.updateFrom "dict.__init__" s.heap.objs.size (.ref l) [] .none) _ _ _
 unfold Builtin.Dict.updateFrom
 refine wpAny_bind (wpAny_typeOf hT ?_)
 rw [if_pos (by decide)]
 have hA2 : A.in1.in1.handled = none := by simpa using hA
 refine wpAny_bind (keys_none (s := { s with heap := g }) lg hA2 fun h1 tk1 k1 => ?_)
 rw [if_pos (by rfl)]
 refine wpAny_bind (wpAny_rule ?_)
 have l1 : h1.get? l = _ := k1 _ _ lg
 have il : h1.IsList l its := ⟨_, l1, rfl, n, rfl⟩
 refine wpAny_bind (wpAny_pyIter_list (s := { s with heap := h1, toks := tk1 }) il ?_)
 refine wpAny_pure ⟨plainId_quiet plain_upd _, ?_⟩
 obtain ⟨g2, eg2⟩ : ∃ g2, g2 = h1.push { cls := .type "list_iterator", data := .fields #[.ref l, .int 0 0] } := ⟨_, rfl⟩
 have k2 : ∀ b o, s.heap.get? b = some o → g2.get? b = some o := fun b o q => by rw [eg2]; exact Heap.get?_push_of_some _ (k1 _ _ (kg _ _ q))
 have old : ∀ b o, s.heap.get? b = some o → b ≠ s.heap.objs.size ∧ b ≠ h1.objs.size := fun b o q => by
  have lt := Heap.lt_size q
  have lt2 := Heap.lt_size (k1 _ _ (kg _ _ q))
  exact ⟨Nat.ne_of_lt lt, Nat.ne_of_lt lt2⟩
 have dne : s.heap.objs.size ≠ h1.objs.size := by
  obtain ⟨o, _, _, e, _⟩ := dn
  exact Nat.ne_of_lt (Heap.lt_size (k1 _ _ e))
 have dd : g2.DictOf (L2.mixKind prog w) s.heap.objs.size (vs.take 0) := by
  obtain ⟨o, es, ep, e, r⟩ := dn
  exact ⟨o, es, ep, by rw [eg2]; exact Heap.get?_push_of_some _ (k1 _ _ e), r⟩
 have o1 := old _ _ hl
 show codeAny (model prog w) A.in1 (Code.builtin "dict.update.loop" ⟨[Value.ref s.heap.objs.size, Value.ref h1.objs.size, Value.int ((0 : Nat) : Int) 0, Value.none], []⟩) _ { s with heap := h1.push { cls := .type "list_iterator", data := .fields #[.ref l, .int 0 0] }, toks := tk1 }
 rw [← eg2]
 refine upd_loop (s := { s with heap := g2, toks := tk1 }) (A := A.in1) (by simpa using hA) hn hz hs its.size 0 0 rfl (Nat.zero_le _) ⟨⟨_, by rw [eg2]; exact Heap.get?_push_size _ rfl, rfl, rfl⟩, ⟨_, k2 _ _ hl, rfl, n, rfl⟩, fun j u hj => ?_, ⟨o1.1, o1.2, dne⟩⟩ dd fun h3 tk3 k3 d3 => ?_
 ·obtain ⟨a, m, t, v, rfl, ⟨o, e, c⟩, q⟩ := hp j u hj
  have o2 := old _ _ e
  exact ⟨a, m, t, v, rfl, ⟨o, k2 _ _ e, c⟩, q, o2.1, o2.2⟩
 ·exact ⟨rfl, h h3 tk3 d3 fun b o q => k3 b o (old b o q).1 (old b o q).2 (k2 b o q)⟩
end
end XS
namespace XS
open PySem PySem.Spec PySem.W PyProof.Rows L2 My D3
theorem prs_get {K : PySem.W.Frag} {H : Hp} : ∀ {ys : List V} {qs : List (Int × Int)}, Prs K H ys qs → ys.length = qs.length
 | _, _, .nil => rfl
 | _, _, .cons _ r => by simp [prs_get r]
section
variable {X : Cx} {pins : List (Addr × Obj)} {σ : L2.St} {H : Hp} {s : Shared}
theorem prs_vals (I : L2.Inv X pins σ H s) : ∀ {ys : List V} {us : List Value} {qs : List (Int × Int)}, Prs X.K H ys qs → Vals ys us → ∃ vs : List (L2.Key × Value), vs.length = us.length ∧ (vs.map (·.1)) = qs.map (fun q => Sum.inl q.1) ∧ KV (qs.map fun q => (Sum.inl q.1, V.int q.2)) vs ∧
 ∀ (j : Nat) (u : Value), us[j]? = some u → ∃ (a : Addr) (n : Int) (t : Tok) (v : Value), u = Value.ref a ∧ IsTup s.heap a #[Value.int n t, v] ∧ vs[j]? = some (Sum.inl n, v)
 | _, _, _, .nil, .nil => ⟨[], rfl, rfl, .nil, fun j u h => by simp at h⟩
 | _, _, _, .cons p ps, .cons r rs => by
  obtain ⟨vs, h1, h2, h3, h4⟩ := prs_vals I ps rs
  obtain ⟨a, t1, t2, rfl, ht⟩ := pair_of I p r
  refine ⟨(Sum.inl _, .int _ t2) :: vs, by simp [h1], by simp [h2], .cons ⟨rfl, ⟨t2, rfl⟩⟩ h3, fun j u hj => ?_⟩
  cases j with
  | zero =>
   simp at hj
   subst hj
   exact ⟨a, _, t1, _, rfl, ht, rfl⟩
  | succ j => exact h4 j u (by simpa using hj)
theorem call_dictL (hA : X.A.handled = none) : CallR X (.type "dict") (fun xs H Q => ∃ (p : Addr) (ys : List V) (qs : List (Int × Int)), xs = [.ref p] ∧ SqL X.K H p ys ∧ ys.length ≤ 1000 ∧ Prs X.K H ys qs ∧ (qs.map (·.1)).Nodup ∧ ∀ l, H l = none → Q (.ref l) (upd H l (.dK (qs.map fun q => (Sum.inl q.1, V.int q.2))))) := by
 intro pins s σ H xs us Q I r h
 obtain ⟨p, ys, qs, rfl, hx, hl, hp, hn, q⟩ := h
 obtain ⟨u, rfl, rx⟩ := vals1 r
 cases rx
 obtain ⟨its, rvs, pl, hz⟩ := I.list hx
 obtain ⟨⟨c, d, dt, sl⟩, n, e, rfl, rfl, rfl⟩ := pl
 obtain ⟨vs, v1, v2, v3, v4⟩ := prs_vals I hp rvs
 have len : its.length = ys.length := rvs.length.symm
 have nd : (vs.map (·.1)).Nodup := by
  rw [v2]
  have : List.Pairwise (· ≠ ·) ((qs.map (·.1)).map (Sum.inl : Int → L2.Key)) := List.Pairwise.map (S := (· ≠ ·)) (Sum.inl : Int → L2.Key) (fun a b ne e => ne (Sum.inl.inj e)) hn
  rwa [List.map_map] at this
 refine dict_of_list (vs := vs) hA e (fun j u hj => v4 j u (by simpa using hj)) nd (by simpa using v1) (by simp; omega) fun h' tk dd k => ?_
 have hq : H s.heap.objs.size = none := I.hok.fresh (Nat.le_refl _)
 have I2 := I.laid (h' := h') (t' := tk) (a := s.heap.objs.size) (o := .dK (qs.map fun q => (Sum.inl q.1, V.int q.2))) k (Nat.le_refl _)
  ⟨by rw [List.length_map, ← prs_get hp]; exact Nat.le_trans hl (by decide), beq_eq_false_iff_ne.mpr (Ne.symm (Nat.ne_of_lt (big I))), vs, v3, dd⟩
 exact ⟨.ref _, _, I2, rfl, q _ hq⟩
end
theorem dk0_prs : ∀ qs : List (Int × Int), dk0 (qs.map fun q => (.int q.1, .int q.2)) = qs.map fun q => (Sum.inl q.1, V.int q.2)
 | [] => rfl
 | q :: qs => by rw [List.map_cons, dk0, dk0_prs qs]; rfl
theorem dh0_prs (qs : List (Int × Int)) : dh0 (qs.map fun q => (.int q.1, .int q.2)) = .dK (qs.map fun q => (Sum.inl q.1, V.int q.2)) := by
 cases qs with
 | nil => rfl
 | cons q r => exact congrArg HO.dK (dk0_prs (q :: r))
theorem de_dictL {X : Cx} {fl : List Fl} {e : Expr} {fa : FA} {p pos : Pos} (hA : X.A.handled = none) (ha : DB X fl .P [e] fa) (hg : Gl X "dict") (hm : X.mg "dict" = none)
 (he : starEach [e] X.env = (false, eval e X.env) :: starEach [] X.env := by rfl) (hpl : (backTo pos (starEach [] X.env)).any (·.1) = false := by rfl) : DE X fl .C (.Call (.Name "dict" p) [e] [] pos) (dCall gDictL fa) :=
 PE.imp (pe_callTy (call_dictL hA) hg hm (show bootBuiltins "dict" = some (.type "dict") by decide +kernel) ha (by decide) (by decide) he hpl) fun σ H Q h => by
 obtain ⟨G, ow, δ, d, R, hf, q⟩ := h
 obtain ⟨ds, e1, e2⟩ := bind1 hf
 refine ⟨G, ow, δ, ds, R, e1, fun vs H' sm r' => ?_⟩
 unfold gDictL at e2
 split at e2
 ·next l =>
  obtain ⟨qs, e4, e5⟩ := bind1 e2
  by_cases hc : l.length ≤ 1000 ∧ (qs.map (·.1)).Nodup
  ·rw [if_pos hc] at e5
   cases e5
   cases r' with
   | cons r1 r2 =>
    cases r2
    obtain ⟨a, ys, rfl, hx, hr⟩ := r1.lstE
    obtain ⟨hp, hl⟩ := prs_ra e4 hr
    refine ⟨a, ys, qs, rfl, hx, by rw [hr.length]; exact hc.1, hp, hc.2, fun l0 hn => q _ _ (sm.trans (same_new hn _)) (.dic ?_ (sm.free hn))⟩
    rw [dh0_prs]
    exact upd_same
  ·rw [if_neg hc] at e5; cases e5
 ·cases e2
end XS
namespace XS
open PySem PySem.Spec PySem.W PyProof.Rows L2 My D3
section
variable {X : Cx} {fl : List Fl} {a : Expr} {f : FE} {pos : Pos} {ta : TE}
theorem pc_notF {j pos'} (ha : PE X a ta) : PC X .IsNot a (.Constant (.bool false) j pos') (fun σ H Q => ta σ H fun x H1 => ∃ b, x = .bl b ∧ Q (.bl b) H1) := by
 intro pins s σ H Q I h
 refine thn (ha pins s σ H _ I h) fun v s1 ⟨x, H1, I1, r1, q1⟩ => ?_
 obtain ⟨b, rfl, q⟩ := q1
 cases r1
 refine Constant_bool ?_
 cases b
 ·exact wpAny_pure ⟨.bl false, H1, I1, rfl, q⟩
 ·exact wpAny_pure ⟨.bl true, H1, I1, rfl, q⟩
theorem dt_notF {j pos'} (h : DE X fl .P a f) : DT X fl (.Compare a [.IsNot] [.Constant (.bool false) j pos'] pos) (tBool (dUn gIsT f)) := PT.imp (pt_cmp (pc_notF h)) fun σ H Q h => by
 obtain ⟨G, ow, δ, b, R, hf, q⟩ := h
 obtain ⟨y, e0, e3⟩ := bind1 hf
 obtain ⟨x, e1, e2⟩ := bind1 e0
 cases x <;> first | (cases e2; done) | skip
 cases e2
 cases e3
 refine ⟨G, ow, δ, _, R, e1, fun v H1 s1 r1 => ?_⟩
 obtain rfl := RA.blE r1
 exact ⟨_, rfl, _, rfl, q H1 s1⟩
end
end XS
namespace D3
open PySem
end D3
namespace D3
open PySem
end D3
namespace D3
open PySem
end D3
namespace D3
open PySem
end D3
namespace D3
open PySem PySem.Spec PyProof.Rows L2 My
section
variable {X : Cx} {fl : List Fl} {e a b : Expr} {es : List Expr} {f fa fb : FE} {fr : FA} {k : Kd} {pos : Pos}
theorem vA (i : Nat) {x : Str} (hfl : fl[i]? = some .A := by rfl) (hN : X.N[i]? = some x := by rfl) (hv : Vis X.env.scope x := by first | exact Or.inl rfl | exact Or.inr (Or.inl rfl) | exact Or.inr (Or.inr rfl)) (hd : (x == ("__debug__" : Str)) = false := by decide)
 (hcd : (x == ("__classdict__" : Str)) = false := by decide) : DE X fl .A (.Name x pos) (dVar i) := de_varA i hfl hN hv hd hcd
theorem vP (i : Nat) {x : Str} (hfl : fl[i]? = some .A := by rfl) (hN : X.N[i]? = some x := by rfl) (hv : Vis X.env.scope x := by first | exact Or.inl rfl | exact Or.inr (Or.inl rfl) | exact Or.inr (Or.inr rfl)) (hd : (x == ("__debug__" : Str)) = false := by decide)
 (hcd : (x == ("__classdict__" : Str)) = false := by decide) : DE X fl .P (.Name x pos) (dVar i) := c_A_P (de_varA i hfl hN hv hd hcd)
theorem vB (i : Nat) {x : Str} (hfl : fl[i]? = some .A := by rfl) (hN : X.N[i]? = some x := by rfl) (hv : Vis X.env.scope x := by first | exact Or.inl rfl | exact Or.inr (Or.inl rfl) | exact Or.inr (Or.inr rfl)) (hd : (x == ("__debug__" : Str)) = false := by decide)
 (hcd : (x == ("__classdict__" : Str)) = false := by decide) : DE X fl (.B []) (.Name x pos) (dVar i) := c_A_B (de_varA i hfl hN hv hd hcd)
theorem iP {i j pos} : DE X fl .P (.Constant (.int i) j pos) (dC (.int i)) := c_FC_P de_int
theorem iC {i j pos} : DE X fl .C (.Constant (.int i) j pos) (dC (.int i)) := c_FC_C de_int
theorem dz : DB X fl k [] dNil := db_nil
theorem dq (h : DE X fl k e f) (hr : DB X fl k es fr) (hk : isR k = true := by rfl) (hs : starEach (e :: es) X.env = (false, eval e X.env) :: starEach es X.env := by exact star_of rfl) : DB X fl k (e :: es) (dCons f fr) := db_cons hk h hr hs
theorem dx {L : List Nat} (ha : DE X fl (.B L) a fa) (hb : DE X fl .P b fb) (hs : PlainIx b := by exact fun _ _ => rfl) : DE X fl .A (.Subscript a b pos) (dOp gIx fa fb) := de_ix ha hb hs
theorem sA {i : Nat} {x : Str} {pos' : Pos} (hN : X.N.Nodup) (h : DE X fl .A e f) (hfl : fl[i]? = some .A := by rfl) (hi : X.N[i]? = some x := by rfl) (hv : X.env.scope.names.lookup x = some .local ∨ X.env.scope.names.lookup x = some .cell := by first | exact Or.inl rfl | exact Or.inr rfl)
 (hs : swapsWith e (some (.Name x pos')) pos.line X.env = pure false := by rfl) (hfn : X.fn x = true ∨ X.env.scope.names.lookup x = some .local := by first | exact .inl rfl | exact .inr rfl) :
 DS1 X fl (.Assign [.Name x pos'] e pos) (sSetl i f) := ds_setA hfl hN hi hv h hs hfn
theorem gN' {i : Nat} {x : Str} {pos : Pos} (hN : X.N.Nodup) (hfl : fl[i]? = some .A := by rfl) (hi : X.N[i]? = some x := by rfl) (hv : X.env.scope.names.lookup x = some .local ∨ X.env.scope.names.lookup x = some .cell := by first | exact Or.inl rfl | exact Or.inr rfl)
 (hfn : X.fn x = true ∨ X.env.scope.names.lookup x = some .local := by first | exact .inl rfl | exact .inr rfl) : DG X fl [i] (.Name x pos) (gNl i) := dg_name hfl hN hi hv hfn
end
theorem fsc {N P : List Str} {sc : Scope} (a : sc.kind = .function := by rfl) (b : sc.isCoroutine = false := by rfl) (c : sc.isGenerator = false := by rfl) (d : N.Nodup := by decide +kernel) (e : N.take P.length = P := by rfl) (f : ∀ x ∈ P, sc.names.lookup x = some .local ∨ sc.names.lookup x = some .cell := by decide +kernel) (g : ∀ y ∈ sc.names, y.2 ≠ .free := by decide +kernel) : FnScope N P sc := ⟨a, b, c, d, e, f, g⟩
end D3
namespace D3
open PySem
def qS (o : Option Oc) (b : FS) : Option Oc := match o with
 | some (.nx δ) => b δ
 | some o => some o
 | none => none
def qI (o : Option Bool) (a b : FS) (δ : DS) : Option Oc := match o with
 | some true => a δ
 | some false => b δ
 | none => none
def qO (g : D → D → Option D) (a b : Option D) : Option D := match a, b with
 | some x, some y => g x y
 | _, _ => none
def qU (g : D → Option D) (a : Option D) : Option D := match a with
 | some x => g x
 | none => none
def qC (a : Option D) (r : Option (List D)) : Option (List D) := match a, r with
 | some x, some l => some (x :: l)
 | _, _ => none
def qF (F : List D → Option D) (l : Option (List D)) : Option D := match l with
 | some l => F l
 | none => none
def qR (a : Option D) : Option Oc := match a with
 | some d => some (.rt d)
 | none => none
def qSet (i : Nat) (a : Option D) (δ : DS) : Option Oc := match a with
 | some d => if i < δ.length then some (.nx (δ.set i (some (.d d)))) else none
 | none => none
def qAnd (a : Option D) (fb : FE) (δ : DS) : Option D := match a with
 | some (.bool true) => fb δ
 | some (.bool false) => some (.bool false)
 | _ => none
def qOr (a : Option D) (fb : FE) (δ : DS) : Option D := match a with
 | some (.bool true) => some (.bool true)
 | some (.bool false) => fb δ
 | _ => none
def qN (a : Option D) : Option D := match a with
 | some (.bool b) => some (.bool (!b))
 | _ => none
def qB (a : Option D) : Option Bool := match a with
 | some (.bool b) => some b
 | _ => none
def qTA (a : Option Bool) (b : FT) (δ : DS) : Option Bool := match a with
 | some true => b δ
 | some false => some false
 | none => none
def qTO (a : Option Bool) (b : FT) (δ : DS) : Option Bool := match a with
 | some true => some true
 | some false => b δ
 | none => none
def qTN (a : Option Bool) : Option Bool := match a with
 | some b => some (!b)
 | none => none
def qE (a : Option Bool) (fa fb : FE) (δ : DS) : Option D := match a with
 | some true => fa δ
 | some false => fb δ
 | none => none
def qL (a : Option D) : Option (List D) := match a with
 | some (.list l) => some l
 | _ => none
def qFor (a : Option (List D)) (g : FG) (b : FS) (δ : DS) : Option Oc := match a with
 | some l => forD g b l δ
 | none => none
def qD (a : Option DS) : Option Oc := match a with
 | some δ => some (.nx δ)
 | none => none
def qG (a : Option D) (g : FG) (δ : DS) : Option DS := match a with
 | some d => g d δ
 | none => none
def qGs (a : Option DS) (r : List D → DS → Option DS) (l : List D) : Option DS := match a with
 | some δ => r l δ
 | none => none
def qT (a : Option (List D)) : Option D := match a with
 | some l => if l.length ≤ sizeLine then some (.tuple l) else none
 | none => none
def qK (a : Option (List D)) : Option D := match a with
 | some l => if l.length ≤ sizeLine then some (.list l) else none
 | none => none
def qFl (p : D → Bool) (a : Option D) : Option D := match a with
 | some d => if p d = true then some d else none
 | none => none
def qA (i : Nat) (x a : Option D) (δ : DS) : Option Oc := match x, a with
 | some (.list l), some d => if l.length < 1000000 then some (.nx (δ.set i (some (.d (.list (l ++ [d])))))) else none
 | _, _ => none
def qP (i : Nat) (a x k : Option D) (δ : DS) : Option Oc := match a, x, k with
 | some d, some (.list l), some (.int j) => (pIx l.length j).bind fun n => some (.nx (δ.set i (some (.d (.list (l.set n d))))))
 | _, _, _ => none
def qCh (g' : D → D → Option D) (z : Option D) (y : Option D) (fc : FE) (δ : DS) : Option D := match z with
 | some (.bool true) => qO g' y (fc δ)
 | some (.bool false) => some (.bool false)
 | _ => none
def qFn (o : Option Oc) : Option D := match o with
 | some (.rt d) => some d
 | some (.nx _) => some .none
 | _ => none
def qCo (a : Option (List D)) (g : FG) (c : FT) (e : FE) (t : Nat) (ix : List Nat) (δ : DS) : Option D := match a with
 | some l => if l.length ≤ 100000 then (match compD g c e (capD t ix δ) l with | some r => some (.list r) | none => none) else none
 | none => none
section
variable {a b : FS} {c c' : FT} {fa fb fc : FE} {fr : FA} {δ : DS} {g : D → D → Option D} {h : D → Option D} {F : List D → Option D} {i : Nat} {G : FG} {d : D}
theorem v_seq : sSeq a b δ = qS (a δ) b := by
 unfold sSeq qS
 cases a δ with
 | none => rfl
 | some o => cases o <;> rfl
theorem v_seq_nx {δ' : DS} : qS (some (.nx δ')) b = b δ' := rfl
theorem v_seq_rt : qS (some (.rt d)) b = some (.rt d) := rfl
theorem v_seq_bk {δ' : DS} : qS (some (.bk δ')) b = some (.bk δ') := rfl
theorem v_seq_ct {δ' : DS} : qS (some (.ct δ')) b = some (.ct δ') := rfl
theorem v_nil : sNil δ = some (.nx δ) := rfl
theorem v_bk : sBk δ = some (.bk δ) := rfl
theorem v_ct : sCt δ = some (.ct δ) := rfl
theorem v_if : sIf c a b δ = qI (c δ) a b δ := by
 unfold sIf qI
 cases c δ with
 | none => rfl
 | some t => cases t <;> rfl
theorem v_if_t : qI (some true) a b δ = a δ := rfl
theorem v_if_f : qI (some false) a b δ = b δ := rfl
theorem v_op : dOp g fa fb δ = qO g (fa δ) (fb δ) := by
 unfold dOp qO
 cases fa δ <;> cases fb δ <;> rfl
theorem v_op_s {x y : D} : qO g (some x) (some y) = g x y := rfl
theorem v_un : dUn h fa δ = qU h (fa δ) := by
 unfold dUn qU
 cases fa δ <;> rfl
theorem v_un_s {x : D} : qU h (some x) = h x := rfl
theorem v_lnil : dNil δ = some [] := rfl
theorem v_lcons : dCons fa fr δ = qC (fa δ) (fr δ) := by
 unfold dCons qC
 cases fa δ <;> cases fr δ <;> rfl
theorem v_lcons_s {x : D} {l : List D} : qC (some x) (some l) = some (x :: l) := rfl
theorem v_call : dCall F fr δ = qF F (fr δ) := by
 unfold dCall qF
 cases fr δ <;> rfl
theorem v_call_s {l : List D} : qF F (some l) = F l := rfl
theorem v_ret : sRet fa δ = qR (fa δ) := by
 unfold sRet qR
 cases fa δ <;> rfl
theorem v_ret_s : qR (some d) = some (.rt d) := rfl
theorem v_retN : sRetN δ = some (.rt .none) := rfl
theorem v_set : sSetl i fa δ = qSet i (fa δ) δ := by
 unfold sSetl sSet qSet
 cases fa δ with
 | none => simp
 | some d => rfl
theorem v_set_s : qSet i (some d) δ = if i < δ.length then some (.nx (δ.set i (some (.d d)))) else none := rfl
theorem v_c : dC d δ = some d := rfl
theorem v_and : dAnd fa fb δ = qAnd (fa δ) fb δ := by
 unfold dAnd qAnd
 cases fa δ with
 | none => rfl
 | some x =>
  cases x <;> try rfl
  next b => cases b <;> rfl
theorem v_and_t : qAnd (some (.bool true)) fb δ = fb δ := rfl
theorem v_and_f : qAnd (some (.bool false)) fb δ = some (.bool false) := rfl
theorem v_or : dOr fa fb δ = qOr (fa δ) fb δ := by
 unfold dOr qOr
 cases fa δ with
 | none => rfl
 | some x =>
  cases x <;> try rfl
  next b => cases b <;> rfl
theorem v_or_t : qOr (some (.bool true)) fb δ = some (.bool true) := rfl
theorem v_or_f : qOr (some (.bool false)) fb δ = fb δ := rfl
theorem v_not : dNot fa δ = qN (fa δ) := by
 unfold dNot qN
 cases fa δ with
 | none => rfl
 | some x => cases x <;> rfl
theorem v_not_s {b : Bool} : qN (some (.bool b)) = some (.bool (!b)) := rfl
theorem v_tb : tBool fa δ = qB (fa δ) := by
 unfold tBool qB
 cases fa δ with
 | none => rfl
 | some x => cases x <;> rfl
theorem v_tb_s {b : Bool} : qB (some (.bool b)) = some b := rfl
theorem v_tand : D3.tAnd c c' δ = qTA (c δ) c' δ := by
 unfold D3.tAnd qTA
 cases c δ with
 | none => rfl
 | some t => cases t <;> rfl
theorem v_tand_t : qTA (some true) c δ = c δ := rfl
theorem v_tand_f : qTA (some false) c δ = some false := rfl
theorem v_tor : D3.tOr c c' δ = qTO (c δ) c' δ := by
 unfold D3.tOr qTO
 cases c δ with
 | none => rfl
 | some t => cases t <;> rfl
theorem v_tor_t : qTO (some true) c δ = some true := rfl
theorem v_tor_f : qTO (some false) c δ = c δ := rfl
theorem v_tnot : D3.tNot c δ = qTN (c δ) := by
 unfold D3.tNot qTN
 cases c δ <;> rfl
theorem v_tnot_s {b : Bool} : qTN (some b) = some (!b) := rfl
theorem v_ite : dIf c fa fb δ = qE (c δ) fa fb δ := by
 unfold dIf qE
 cases c δ with
 | none => rfl
 | some t => cases t <;> rfl
theorem v_ite_t : qE (some true) fa fb δ = fa δ := rfl
theorem v_ite_f : qE (some false) fa fb δ = fb δ := rfl
theorem v_lst : fLst fa δ = qL (fa δ) := by
 unfold fLst qL asList
 cases fa δ with
 | none => rfl
 | some x => cases x <;> rfl
theorem v_lst_s {l : List D} : qL (some (.list l)) = some l := rfl
theorem v_for : sFor fr G b δ = qFor (fr δ) G b δ := by
 unfold sFor qFor
 cases fr δ <;> rfl
theorem v_for_s {l : List D} : qFor (some l) G b δ = forD G b l δ := rfl
theorem v_for_nil : forD G b [] δ = some (.nx δ) := rfl
theorem v_asg : sAsg fa G δ = qD (qG (fa δ) G δ) := by
 unfold sAsg qG qD
 cases fa δ with
 | none => rfl
 | some d =>
  dsimp only [Option.bind_some]
  cases G d δ <;> rfl
theorem v_asg_s : qG (some d) G δ = G d δ := rfl
theorem v_asg_d {δ' : DS} : qD (some δ') = some (.nx δ') := rfl
theorem v_gn : gNl i d δ = if i < δ.length then some (δ.set i (some (.d d))) else none := rfl
theorem v_gt {n : Nat} {gs : List D → DS → Option DS} {l : List D} : gTn n gs (.tuple l) δ = if l.length = n then gs l δ else none := rfl
theorem v_gsn : gsNil [] δ = some δ := rfl
theorem v_gsc {gs : List D → DS → Option DS} {l : List D} : gsCons G gs (d :: l) δ = qGs (G d δ) gs l := by
 show (G d δ).bind (fun δ' => gs l δ') = qGs (G d δ) gs l
 cases G d δ <;> rfl
theorem v_gsc_s {gs : List D → DS → Option DS} {l : List D} {δ' : DS} : qGs (some δ') gs l = gs l δ' := rfl
theorem v_tup : dTup fr δ = qT (fr δ) := by
 unfold dTup qT
 cases fr δ <;> rfl
theorem v_tup_s {l : List D} : qT (some l) = if l.length ≤ sizeLine then some (.tuple l) else none := rfl
theorem v_dl : dLst fr δ = qK (fr δ) := by
 unfold dLst qK
 cases fr δ <;> rfl
theorem v_dl_s {l : List D} : qK (some l) = if l.length ≤ sizeLine then some (.list l) else none := rfl
theorem v_flat : dFlat fa δ = qFl flat (fa δ) := by
 unfold dFlat qFl
 cases fa δ <;> rfl
theorem v_fl1 : dFl1 fa δ = qFl fl1 (fa δ) := by
 unfold dFl1 qFl
 cases fa δ <;> rfl
theorem v_fl_s {p : D → Bool} : qFl p (some d) = if p d = true then some d else none := rfl
theorem v_app : sApp i fa δ = qA i (dVar i δ) (fa δ) δ := by
 unfold sApp qA
 cases dVar i δ with
 | none => rfl
 | some x =>
  cases fa δ with
  | none => cases x <;> rfl
  | some d => cases x <;> rfl
theorem v_app_s {l : List D} : qA i (some (.list l)) (some d) δ = if l.length < 1000000 then some (.nx (δ.set i (some (.d (.list (l ++ [d])))))) else none := rfl
theorem v_put {fk : FE} : sPut i fk fa δ = qP i (fa δ) (dVar i δ) (fk δ) δ := by
 unfold sPut qP
 cases fa δ with
 | none => rfl
 | some d =>
  cases dVar i δ with
  | none => rfl
  | some x =>
   cases fk δ with
   | none => cases x <;> rfl
   | some k => cases x <;> cases k <;> rfl
theorem v_put_s {l : List D} {j : Int} : qP i (some d) (some (.list l)) (some (.int j)) δ = (pIx l.length j).bind fun n => some (.nx (δ.set i (some (.d (.list (l.set n d)))))) := rfl
theorem v_chain {g' : D → D → Option D} : dChain g g' fa fb fc δ = qCh g' (qO g (fa δ) (fb δ)) (fb δ) fc δ := by
 unfold dChain qCh qO
 cases fa δ with
 | none => rfl
 | some x =>
  cases fb δ with
  | none => rfl
  | some y =>
   dsimp only [Option.bind_some]
   cases g x y with
   | none => rfl
   | some z =>
    cases z <;> try rfl
    next b =>
    cases b with
    | false => rfl
    | true => dsimp only [Option.bind_some]; cases fc δ <;> rfl
theorem v_chain_t {g' : D → D → Option D} {y : Option D} : qCh g' (some (.bool true)) y fc δ = qO g' y (fc δ) := rfl
theorem v_chain_f {g' : D → D → Option D} {y : Option D} : qCh g' (some (.bool false)) y fc δ = some (.bool false) := rfl
theorem v_fn {p q : Nat} {ds : List D} : fnD p q b ds = if ds.length = p then qFn (b (ds.map (fun d => some (.d d)) ++ List.replicate q none)) else none := by
 unfold fnD qFn
 rfl
theorem v_fn_rt : qFn (some (.rt d)) = some d := rfl
theorem v_fn_nx {δ' : DS} : qFn (some (.nx δ')) = some .none := rfl
theorem v_comp {t : Nat} {ix : List Nat} : dComp fr G c fa t ix δ = qCo (fr δ) G c fa t ix δ := by
 unfold dComp qCo
 cases fr δ with
 | none => rfl
 | some l =>
  dsimp only [Option.bind_some]
  by_cases z : l.length ≤ 100000
  ·rw [if_pos z, if_pos z]
   cases compD G c fa (capD t ix δ) l <;> rfl
  ·rw [if_neg z, if_neg z]
theorem v_comp_s {t : Nat} {ix : List Nat} {l : List D} : qCo (some l) G c fa t ix δ = if l.length ≤ 100000 then (match compD G c fa (capD t ix δ) l with | some r => some (.list r) | none => none) else none := rfl
theorem v_yes : D3.tYes δ = some true := rfl
theorem v_var0 {r : DS} {x : D} : dVar 0 (some (.d x) :: r) = some x := rfl
theorem v_varS {r : DS} {y : Option U} : dVar (i + 1) (y :: r) = dVar i r := rfl
end
section
variable {i j : Int} {l m : List D} {d : D}
theorem n_add : gAdd (.int i) (.int j) = some (.int (i + j)) := rfl
theorem n_sub : gSub (.int i) (.int j) = some (.int (i - j)) := rfl
theorem n_lt : gLt (.int i) (.int j) = some (.bool (decide (i < j))) := rfl
theorem n_le : gLe (.int i) (.int j) = some (.bool (decide (i ≤ j))) := rfl
theorem n_gt : gGt (.int i) (.int j) = some (.bool (decide (j < i))) := rfl
theorem n_ge : gGe (.int i) (.int j) = some (.bool (decide (j ≤ i))) := rfl
theorem n_eqI : gEq (.int i) (.int j) = some (.bool (decide (i = j))) := rfl
theorem n_neI : gNe (.int i) (.int j) = some (.bool (!decide (i = j))) := rfl
theorem n_len : gLen [.list l] = some (.int l.length) := rfl
theorem n_lenT : gLen [.tuple l] = some (.int l.length) := rfl
theorem intsD_map : ∀ ns : List Int, intsD (ns.map .int) = some ns
 | [] => rfl
 | n :: r => by rw [List.map_cons, intsD, intsD_map r]; rfl
theorem n_sum {ns : List Int} : gSum [.list (ns.map .int)] = some (.int ns.sum) := by
 show (intsD (ns.map .int)).map _ = _
 rw [intsD_map]
 rfl
theorem n_abs : gAbs [.int i] = some (.int (if i < 0 then -i else i)) := rfl
theorem n_max : gMax2 [.int i, .int j] = some (.int (if j > i then j else i)) := rfl
theorem n_min : gMin2 [.int i, .int j] = some (.int (if j < i then j else i)) := rfl
theorem n_neg : gNeg (.int i) = some (.int (-i)) := rfl
theorem n_ix : gIx (.list l) (.int i) = pAt l i := rfl
theorem n_ixT : gIx (.tuple l) (.int i) = pAt l i := rfl
theorem n_cat : gCat (.list l) (.list m) = if l.length + m.length ≤ 1000000 then some (.list (l ++ m)) else none := rfl
theorem n_list : gList (.list l) = some (.list l) := rfl
theorem n_listT : gList (.tuple l) = some (.list l) := rfl
theorem n_at0 : pAt (d :: l) 0 = some d := by
 unfold pAt pIx
 rw [if_pos (by decide), if_pos (by simp)]
 rfl
end
def qPar (i j : Nat) (a : Option (List D)) (δ : DS) : Option Oc := match a with
 | some l => match l with
  | [x, y] => if i < δ.length ∧ j < δ.length then some (.nx ((δ.set i (some (.d x))).set j (some (.d y)))) else none
  | _ => none
 | none => none
def qRng1 (a : Option (List D)) : Option (List D) := match a with
 | some l => match l with
  | [.int j] => if rngG j = true then some (rngD 0 j) else none
  | _ => none
 | none => none
def qRng2 (a : Option (List D)) : Option (List D) := match a with
 | some l => match l with
  | [.int i, .int j] => if (rngG i && rngG j) = true then some (rngD i j) else none
  | _ => none
 | none => none
def qSl (x : Option D) (a b : Option (Option Int)) : Option D := match x, a, b with
 | some (.list l), some a, some b => some (.list (cutD l a b))
 | _, _, _ => none
def qOP (x : Option D) : Option (Option Int) := match x with
 | some (.int i) => some (some i)
 | _ => none
def qEn (x : Option D) : Option (List D) := match x with
 | some (.list l) => some (enumD l)
 | _ => none
section
variable {a b : FS} {fa : FE} {fr : FA} {δ : DS} {i j : Nat} {g : FG}
theorem v_par : sPar i j fr δ = qPar i j (fr δ) δ := by
 unfold sPar qPar
 cases fr δ with
 | none => rfl
 | some l => rfl
theorem v_par_s {x y : D} : qPar i j (some [x, y]) δ = if i < δ.length ∧ j < δ.length then some (.nx ((δ.set i (some (.d x))).set j (some (.d y)))) else none := rfl
theorem v_rng1 : fRng1 fr δ = qRng1 (fr δ) := by
 unfold fRng1 qRng1
 cases fr δ with
 | none => rfl
 | some l => rfl
theorem rng1 {k : Int} (h : -(2 ^ 62) ≤ k) (h2 : k < 2 ^ 62) : qRng1 (some [.int k]) = some (rngD 0 k) := by
 show (if rngG k = true then some (rngD 0 k) else none) = _
 rw [if_pos]
 unfold rngG
 rw [dTr h, dTr h2]
 rfl
theorem v_rng2 : fRng2 fr δ = qRng2 (fr δ) := by
 unfold fRng2 qRng2
 cases fr δ with
 | none => rfl
 | some l => rfl
theorem v_sl {lo hi : FO} : dSl fa lo hi δ = qSl (fa δ) (lo δ) (hi δ) := by
 unfold dSl qSl
 cases fa δ with
 | none => rfl
 | some x =>
  dsimp only [Option.bind_some]
  cases lo δ with
  | none => cases x <;> rfl
  | some p =>
   dsimp only [Option.bind_some]
   cases hi δ with
   | none => cases x <;> rfl
   | some r => cases x <;> rfl
theorem v_sl_s {l : List D} {p r : Option Int} : qSl (some (.list l)) (some p) (some r) = some (.list (cutD l p r)) := rfl
theorem v_oN : oNone δ = some none := rfl
theorem v_oP : oPart fa δ = qOP (fa δ) := by
 unfold oPart qOP
 cases fa δ with
 | none => rfl
 | some x => cases x <;> rfl
theorem v_oP_s {k : Int} : qOP (some (.int k)) = some (some k) := rfl
theorem v_enum : fEnum fa δ = qEn (fa δ) := by
 unfold fEnum qEn
 cases fa δ with
 | none => rfl
 | some x => cases x <;> rfl
theorem v_enum_s {l : List D} : qEn (some (.list l)) = some (enumD l) := rfl
theorem for_inv (Inv : Nat → DS → Prop) : ∀ (l : List D) (δ : DS), Inv 0 δ → (∀ i d δ, l[i]? = some d → Inv i δ → ∃ δ1 δ', g d δ = some δ1 ∧ (b δ1 = some (.nx δ') ∨ b δ1 = some (.ct δ')) ∧ Inv (i + 1) δ') → ∃ δ', forD g b l δ = some (.nx δ') ∧ Inv l.length δ' := by
 have key : ∀ (l : List D) (k : Nat) (δ : DS), Inv k δ → (∀ i d δ, l[i]? = some d → Inv (k + i) δ → ∃ δ1 δ', g d δ = some δ1 ∧ (b δ1 = some (.nx δ') ∨ b δ1 = some (.ct δ')) ∧ Inv (k + i + 1) δ') → ∃ δ', forD g b l δ = some (.nx δ') ∧ Inv (k + l.length) δ' := by
  intro l
  induction l with
  | nil => exact fun k δ h _ => ⟨δ, rfl, h⟩
  | cons d r ih =>
   intro k δ h hs
   obtain ⟨δ1, δ', e1, e2, e3⟩ := hs 0 d δ rfl h
   obtain ⟨δ2, e4, e5⟩ := ih (k + 1) δ' e3 fun i d' δ'' hd hi => by
    have := hs (i + 1) d' δ'' (by simpa using hd) (by rw [show k + (i + 1) = k + 1 + i by omega]; exact hi)
    rw [show k + (i + 1) + 1 = k + 1 + i + 1 by omega] at this
    exact this
   refine ⟨δ2, ?_, by rw [List.length_cons, show k + (r.length + 1) = k + 1 + r.length by omega]; exact e5⟩
   rw [forD, e1, Option.bind_some]
   rcases e2 with e2 | e2
   ·rw [e2]; exact e4
   ·rw [e2]; exact e4
 intro l δ h hs
 have := key l 0 δ h fun i d δ hd hi => by
  have := hs i d δ hd (by rw [Nat.zero_add] at hi; exact hi)
  rw [Nat.zero_add]
  exact this
 rw [Nat.zero_add] at this
 exact this
end
def qX (a : Option D) (δ : DS) : Option Oc := match a with
 | some _ => some (.nx δ)
 | none => none
theorem v_expr {fa : FE} {δ : DS} : sExpr fa δ = qX (fa δ) δ := by
 unfold sExpr qX
 cases fa δ <;> rfl
theorem v_expr_s {d : D} {δ : DS} : qX (some d) δ = some (.nx δ) := rfl
theorem v_chain3 {g g' g'' : D → D → Option D} {fa fb fc fd : FE} {δ : DS} : dChain3 g g' g'' fa fb fc fd δ = qAnd (qO g (fa δ) (fb δ)) (dChain g' g'' fb fc fd) δ := by
 unfold dChain3 qAnd dChain qO
 cases fa δ with
 | none => rfl
 | some x =>
  cases fb δ with
  | none => rfl
  | some y =>
   dsimp only [Option.bind_some]
   cases g x y with
   | none => rfl
   | some z =>
    cases z <;> try rfl
    next b => cases b <;> rfl
def qZ (a b : Option D) : Option (List D) := match a, b with
 | some (.list l), some (.list m) => some (zipD l m)
 | _, _ => none
theorem v_zip {f g : FE} {δ : DS} : fZip f g δ = qZ (f δ) (g δ) := by
 unfold fZip qZ
 cases f δ with
 | none => rfl
 | some x =>
  cases g δ with
  | none => cases x <;> rfl
  | some y => cases x <;> cases y <;> rfl
theorem v_zip_s {l m : List D} : qZ (some (.list l)) (some (.list m)) = some (zipD l m) := rfl
theorem v_n1 {fa : FE} {δ : DS} : dN1 fa δ = qFl (fun d => decide (nl d ≤ 1)) (fa δ) := by
 unfold dN1 qFl
 cases fa δ <;> rfl
theorem f_non : flat .none = true := rfl
theorem f_bl {b : Bool} : flat (.bool b) = true := rfl
theorem f_int {i : Int} : flat (.int i) = true := rfl
theorem f_str {x : Str} : flat (.str x) = true := rfl
theorem f_lst {l : List D} : flat (.list l) = false := rfl
theorem f_tup {l : List D} : flat (.tuple l) = flats l := rfl
theorem f_nil : flats [] = true := rfl
theorem f_cons {d : D} {l : List D} : flats (d :: l) = (flat d && flats l) := rfl
theorem f1_non : fl1 .none = true := rfl
theorem f1_bl {b : Bool} : fl1 (.bool b) = true := rfl
theorem f1_int {i : Int} : fl1 (.int i) = true := rfl
theorem f1_str {x : Str} : fl1 (.str x) = true := rfl
theorem f1_lst {l : List D} : fl1 (.list l) = flats l := rfl
theorem f1_tup {l : List D} : fl1 (.tuple l) = flats l := rfl
theorem u_is {c : String} {d : D} : gIs c d = some (.bool (isT c (tyD d))) := rfl
theorem u_isN {d : D} : gIsN d = some (.bool (isNone d)) := rfl
theorem u_notN {d : D} : gNotN d = some (.bool (!isNone d)) := rfl
theorem n_non : isNone .none = true := rfl
theorem n_bl {b : Bool} : isNone (.bool b) = false := rfl
theorem n_int {i : Int} : isNone (.int i) = false := rfl
theorem n_str {x : Str} : isNone (.str x) = false := rfl
theorem n_lst {l : List D} : isNone (.list l) = false := rfl
theorem n_tup {l : List D} : isNone (.tuple l) = false := rfl
theorem n_dic {l : List (D × D)} : isNone (.dict l) = false := rfl
def EVL := And.intro @f_non <| And.intro @f_bl <| And.intro @f_int <| And.intro @f_str <| And.intro @f_lst <| And.intro @f_tup <| And.intro @f_nil <| And.intro @f_cons <| And.intro @f1_non <| And.intro @f1_bl <| And.intro @f1_int <| And.intro @f1_str <| And.intro @f1_lst <| And.intro @f1_tup <| And.intro @u_is <| And.intro @u_isN <| And.intro @u_notN <| And.intro @n_non <| And.intro @n_bl <| And.intro @n_int <| And.intro @n_str <| And.intro @n_lst <| And.intro @n_tup <| And.intro @n_dic <| And.intro @List.length_cons.{0} <| And.intro @List.length_nil.{0} <| And.intro @List.map_cons.{0, 0} <| And.intro @List.map_nil.{0, 0} <| And.intro @List.replicate_succ.{0} <| And.intro @List.replicate_zero.{0} <| And.intro @List.cons_append.{0} <| And.intro @List.nil_append.{0} <| And.intro @List.append_nil.{0} <| And.intro @List.set_cons_zero.{0} <| And.intro @List.set_cons_succ.{0} <| And.intro @Nat.zero_add <| And.intro @if_true.{1} <| And.intro @decide_true <| And.intro @decide_false <| And.intro @Int.cast_ofNat_Int <| And.intro @Bool.not_true <| And.intro @Bool.not_false <| @Bool.and_self
def EV := And.intro EVL <| And.intro @v_n1 <| And.intro @v_zip <| And.intro @v_zip_s <| And.intro @v_expr <| And.intro @v_expr_s <| And.intro @v_chain3 <| And.intro @v_seq (And.intro @v_seq_nx (And.intro @v_seq_rt (And.intro @v_seq_bk (And.intro @v_seq_ct (And.intro @v_nil (And.intro @v_bk (And.intro @v_ct (And.intro @v_if (And.intro @v_if_t (And.intro @v_if_f (And.intro @v_op (And.intro @v_op_s (And.intro @v_un (And.intro @v_un_s (And.intro @v_lnil (And.intro @v_lcons (And.intro @v_lcons_s (And.intro @v_call (And.intro @v_call_s (And.intro @v_ret (And.intro @v_ret_s (And.intro @v_retN (And.intro @v_set (And.intro @v_set_s (And.intro @v_c (And.intro @v_and (And.intro @v_and_t (And.intro @v_and_f (And.intro @v_or (And.intro @v_or_t (And.intro @v_or_f (And.intro @v_not (And.intro @v_not_s (And.intro @v_tb (And.intro @v_tb_s (And.intro @v_tand (And.intro @v_tand_t (And.intro @v_tand_f (And.intro @v_tor (And.intro @v_tor_t (And.intro @v_tor_f (And.intro @v_tnot (And.intro @v_tnot_s (And.intro @v_ite (And.intro @v_ite_t (And.intro @v_ite_f (And.intro @v_lst (And.intro @v_lst_s (And.intro @v_for (And.intro @v_for_s (And.intro @v_for_nil (And.intro @v_asg (And.intro @v_asg_s (And.intro @v_asg_d (And.intro @v_gn (And.intro @v_gt (And.intro @v_gsn (And.intro @v_gsc (And.intro @v_gsc_s (And.intro @v_tup (And.intro @v_tup_s (And.intro @v_dl (And.intro @v_dl_s (And.intro @v_flat (And.intro @v_fl1 (And.intro @v_fl_s (And.intro @v_app (And.intro @v_app_s (And.intro @v_put (And.intro @v_put_s (And.intro @v_chain (And.intro @v_chain_t (And.intro @v_chain_f (And.intro @v_fn (And.intro @v_fn_rt (And.intro @v_fn_nx (And.intro @v_comp (And.intro @v_comp_s (And.intro @v_yes (And.intro @v_var0 (And.intro @v_varS (And.intro @n_add (And.intro @n_sub (And.intro @n_lt (And.intro @n_le (And.intro @n_gt (And.intro @n_ge (And.intro @n_eqI (And.intro @n_neI (And.intro @n_len (And.intro @n_lenT (And.intro @n_abs (And.intro @n_max (And.intro @n_min (And.intro @n_neg (And.intro @n_ix (And.intro @n_ixT (And.intro @n_cat (And.intro @n_list (And.intro @n_listT (And.intro @n_at0 (And.intro @v_par (And.intro @v_par_s (And.intro @v_rng1 (And.intro @v_rng2 (And.intro @v_sl (And.intro @v_sl_s (And.intro @v_oN (And.intro @v_oP (And.intro @v_oP_s (And.intro @v_enum @v_enum_s)))))))))))))))))))))))))))))))))))))))))))))))))))))))))))))))))))))))))))))))))))))))))))))))))))))))))))))))
end D3
namespace My
def cellF (ns : List Int) (i : Int) : Int :=
 if i < (ns.length : Int) then ns.getD i.toNat 0 % 1000000007
 else if ns = [] then 7919 * i + 5000011
 else ns.getD (i * 7 % (ns.length : Int)).toNat 0 % 1000000007 + 7919 * i
def divs (n : Int) : Nat → Int
 | 0 => n
 | k + 1 => divs n k / 1000003
def drawF (c i k m : Int) : Int :=
 (((c + 65537 * i + 3) * (1299709 + 15485863 * k) % 2147483629 * ((c + 65537 * i + 3) * (1299709 + 15485863 * k) % 2147483629) % 1500450271 + 104729) *
  ((c + 65537 * i + 3) * (1299709 + 15485863 * k) % 2147483629 * ((c + 65537 * i + 3) * (1299709 + 15485863 * k) % 2147483629) % 1500450271 + 104729)) % 715827883 / 64 % m
def partF (ns : List Int) (i k m : Int) : Int :=
 if i < (ns.length : Int) ∧ 10 ^ 40 ≤ ns.getD i.toNat 0 ∧ 0 < divs (ns.getD i.toNat 0) k.toNat then divs (ns.getD i.toNat 0) k.toNat % 1000003 % m
 else drawF (cellF ns i) i k m
theorem partF_range (ns : List Int) (i k : Int) {m : Int} (h : 0 < m) : 0 ≤ partF ns i k m ∧ partF ns i k m < m := by
 unfold partF drawF
 split
 ·exact ⟨Int.emod_nonneg _ (by omega), Int.emod_lt_of_pos _ h⟩
 ·exact ⟨Int.emod_nonneg _ (by omega), Int.emod_lt_of_pos _ h⟩
theorem partF_hit {ns : List Int} {i k m : Int} (h1 : i < (ns.length : Int)) (h2 : 10 ^ 40 ≤ ns.getD i.toNat 0) (h3 : 0 < divs (ns.getD i.toNat 0) k.toNat) :
 partF ns i k m = divs (ns.getD i.toNat 0) k.toNat % 1000003 % m := by
 unfold partF
 rw [if_pos ⟨h1, h2, h3⟩]
theorem partF_miss {ns : List Int} {i k m : Int} (h : ¬ (i < (ns.length : Int) ∧ 10 ^ 40 ≤ ns.getD i.toNat 0 ∧ 0 < divs (ns.getD i.toNat 0) k.toNat)) :
 partF ns i k m = drawF (cellF ns i) i k m := by
 unfold partF
 rw [if_neg h]
end My
namespace Com
open PySem D3
noncomputable def F_is_whole : List D → Option D := fnD 1 0 (sRet (dAnd (dUn (gIs "int") (dVar 0)) (dNot (dUn (gIs "bool") (dVar 0)))))
noncomputable def F__law_cell : List D → Option D := fnD 2 0 (sSeq (sIf (tBool (dOp gLt (dVar 1) (dCall gLen (dCons (dVar 0) (dNil))))) (sRet (dOp gMod (dOp gIx (dVar 0) (dVar 1)) (dC (.int 1000000007)))) (sNil))
 (sSeq (sIf (tBool (dOp gEq (dVar 0) (dLst (dNil)))) (sRet (dOp gAdd (dOp gMul (dC (.int 7919)) (dVar 1)) (dC (.int 5000011)))) (sNil))
 (sRet (dOp gAdd (dOp gMod (dOp gIx (dVar 0) (dOp gMod (dOp gMul (dVar 1) (dC (.int 7))) (dCall gLen (dCons (dVar 0) (dNil))))) (dC (.int 1000000007))) (dOp gMul (dC (.int 7919)) (dVar 1))))))
noncomputable def F__law_part : List D → Option D := fnD 4 2 (sSeq (sIf (D3.tAnd (tBool (dOp gLt (dVar 1) (dCall gLen (dCons (dVar 0) (dNil))))) (tBool (dOp gGe (dOp gIx (dVar 0) (dVar 1)) (dOp gPow (dC (.int 10)) (dC (.int 40)))))) (sSeq (sSetl 4 (dOp gIx (dVar 0) (dVar 1)))
 (sSeq (sFor (fRng1 (dCons (dVar 2) (dNil))) (gNl 5) (sSetl 4 (dOp gDiv (dVar 4) (dC (.int 1000003)))))
 (sIf (tBool (dOp gGt (dVar 4) (dC (.int 0)))) (sRet (dOp gMod (dOp gMod (dVar 4) (dC (.int 1000003))) (dVar 3))) (sNil)))) (sNil))
 (sSeq (sSetl 4 (dOp gMod (dOp gMul (dOp gAdd (dOp gAdd (dCall F__law_cell (dCons (dVar 0) (dCons (dVar 1) (dNil)))) (dOp gMul (dC (.int 65537)) (dVar 1))) (dC (.int 3))) (dOp gAdd (dC (.int 1299709)) (dOp gMul (dC (.int 15485863)) (dVar 2)))) (dC (.int 2147483629))))
 (sSeq (sSetl 4 (dOp gAdd (dOp gMod (dOp gMul (dVar 4) (dVar 4)) (dC (.int 1500450271))) (dC (.int 104729))))
 (sRet (dOp gMod (dOp gDiv (dOp gMod (dOp gMul (dVar 4) (dVar 4)) (dC (.int 715827883))) (dC (.int 64))) (dVar 3))))))
noncomputable def F_holds : List D → Option D := fnD 2 0 (sRet (dChain gLe gLt (dOp gIx (dVar 0) (dC (.int 0))) (dVar 1) (dOp gIx (dVar 0) (dC (.int 1)))))
noncomputable def F_count_at : List D → Option D := fnD 2 0 (sRet (dCall gLen (dCons (dComp (fLst (dVar 0)) (gNl 0) (tBool (dCall F_holds (dCons (dVar 0) (dCons (dVar 1) (dNil))))) (dFlat (dVar 0)) 1 [1]) (dNil))))
noncomputable def F__law_row : List D → Option D := fnD 3 0 (sRet (dComp (fRng1 (dCons (dVar 2) (dNil))) (gNl 0) (tYes) (dCall F__law_part (dCons (dVar 1) (dCons (dVar 2) (dCons (dVar 0) (dCons (dOp gPow (dC (.int 10)) (dC (.int 6))) (dNil)))))) 1 [0, 1]))
noncomputable def F_nights_of : List D → Option D := fnD 1 0 (sRet (dTup (dCons (dFlat (dOp gIx (dVar 0) (dC (.int 0)))) (dCons (dFlat (dOp gIx (dVar 0) (dC (.int 1)))) (dNil)))))
noncomputable def F_is_rising : List D → Option D := fnD 1 0 (sRet (dCall gAll (dCons (dComp (fZip (dVar 0) (dSl (dVar 0) (oPart (dC (.int 1))) oNone)) (gTn 2 (gsCons (gNl 0) (gsCons (gNl 1) (gsNil)))) (tYes) (dOp gLt (dVar 0) (dVar 1)) 2 []) (dNil))))
noncomputable def F_is_wish_for : List D → Option D := fnD 2 0 (sRet (dAnd (dChain3 gLe gLt gLe (dC (.int 0)) (dOp gIx (dVar 0) (dC (.int 0))) (dOp gIx (dVar 0) (dC (.int 1))) (dCall gLen (dCons (dVar 1) (dNil)))) (dChain gLe gLe (dC (.int 0)) (dOp gIx (dVar 0) (dC (.int 2))) (dC (.int 1000000000)))))
noncomputable def F_check_wishes : List D → Option D := fnD 2 2 (sFor (fEnum (dVar 0)) (gTn 2 (gsCons (gNl 2) (gsCons (gNl 3) (gsNil)))) (sIf (D3.tNot (tBool (dCall F_is_wish_for (dCons (dVar 3) (dCons (dVar 1) (dNil)))))) ((fun _ => none)) (sNil)))
noncomputable def F_cost : List D → Option D := fnD 3 0 (sRet (dCall gSum (dCons (dComp (fLst (dVar 0)) (gTn 2 (gsCons (gNl 0) (gsCons (gNl 1) (gsNil)))) (tBool (dChain gLe gLt (dVar 2) (dVar 0) (dVar 3))) (dFlat (dVar 1)) 2 [1, 2]) (dNil))))
noncomputable def F_worth_of : List D → Option D := fnD 2 0 (sRet (dCall gSum (dCons (dComp (fLst (dVar 1)) (gNl 0) (tYes) (dFlat (dOp gIx (dOp gIx (dVar 1) (dVar 0)) (dC (.int 2)))) 1 [0]) (dNil))))
noncomputable def F_gain : List D → Option D := fnD 2 0 (sRet (dOp gSub (dOp gIx (dVar 0) (dC (.int 2))) (dCall F_cost (dCons (dVar 1) (dCons (dOp gIx (dVar 0) (dC (.int 0))) (dCons (dOp gIx (dVar 0) (dC (.int 1))) (dNil)))))))
noncomputable def F__law_free : List D → Option D := fnD 2 4 (sSeq (sSetl 2 (dCall F__law_row (dCons (dVar 0) (dCons (dC (.int 1)) (dCons (dC (.int 5)) (dNil))))))
 (sSeq (sSetl 3 (dCall F__law_row (dCons (dVar 0) (dCons (dC (.int 60)) (dCons (dVar 1) (dNil))))))
 (sSeq (sSetl 4 (dOp gMod (dOp gIx (dVar 2) (dC (.int 0))) (dC (.int 4))))
 (sSeq (sIf (tBool (dOp gEq (dVar 4) (dC (.int 0)))) (sRet (dFl1 (dOp gRep (dLst (dCons (dOp gAdd (dC (.int 1)) (dOp gMod (dOp gIx (dVar 2) (dC (.int 1))) (dC (.int 3)))) (dNil))) (dVar 1)))) (sNil))
 (sSeq (sIf (tBool (dOp gEq (dVar 4) (dC (.int 1)))) (sRet (dComp (fRng1 (dCons (dVar 1) (dNil))) (gNl 0) (tYes) (dOp gMod (dOp gIx (dVar 1) (dVar 0)) (dC (.int 3))) 1 [3])) (sNil))
 (sSeq (sIf (tBool (dOp gEq (dVar 4) (dC (.int 2)))) (sRet (dComp (fRng1 (dCons (dVar 1) (dNil))) (gNl 0) (tYes) (dFlat (dOp gIx (dLst (dCons (dC (.int 0)) (dCons (dC (.int 1)) (dCons (dC (.int 2)) (dCons (dC (.int 5)) (dCons (dC (.int 11)) (dCons (dC (.int 12)) (dNil)))))))) (dOp gMod (dOp gIx (dVar 1) (dVar 0)) (dC (.int 6))))) 1 [3])) (sNil))
 (sSeq (sSetl 5 (dOp gMod (dOp gIx (dVar 2) (dC (.int 2))) (dOp gAdd (dVar 1) (dC (.int 1)))))
 (sRet (dFl1 (dOp gCat (dOp gRep (dLst (dCons (dOp gMod (dOp gIx (dVar 2) (dC (.int 3))) (dC (.int 4))) (dNil))) (dVar 5)) (dOp gRep (dLst (dCons (dOp gMod (dOp gIx (dVar 2) (dC (.int 4))) (dC (.int 4))) (dNil))) (dOp gSub (dVar 1) (dVar 5)))))))))))))
noncomputable def F__law_wishes : List D → Option D := fnD 3 6 (sSeq (sSetl 3 (dLst (dNil)))
 (sSeq (sFor (fRng1 (dCons (dVar 2) (dNil))) (gNl 4) (sSeq (sSetl 5 (dCall F__law_row (dCons (dVar 0) (dCons (dOp gAdd (dC (.int 4)) (dVar 4)) (dCons (dC (.int 7)) (dNil))))))
 (sSeq (sSetl 6 (dOp gMod (dOp gIx (dVar 5) (dC (.int 0))) (dVar 1)))
 (sSeq (sSetl 7 (dCall gMin2 (dCons (dVar 1) (dCons (dOp gAdd (dOp gAdd (dVar 6) (dC (.int 1))) (dOp gMod (dOp gIx (dVar 5) (dC (.int 1))) (dOp gIx (dLst (dCons (dC (.int 3)) (dCons (dVar 1) (dNil)))) (dOp gMod (dOp gIx (dVar 5) (dC (.int 2))) (dC (.int 2)))))) (dNil)))))
 (sSeq (sSetl 8 (dLst (dCons (dOp gMod (dOp gIx (dVar 5) (dC (.int 3))) (dC (.int 10))) (dCons (dOp gMul (dC (.int 5)) (dOp gSub (dVar 7) (dVar 6))) (dCons (dOp gMod (dOp gAdd (dOp gMul (dOp gIx (dVar 5) (dC (.int 3))) (dOp gPow (dC (.int 10)) (dC (.int 6)))) (dOp gIx (dVar 5) (dC (.int 6)))) (dOp gAdd (dOp gPow (dC (.int 10)) (dC (.int 9))) (dC (.int 1)))) (dNil))))))
 (sSeq (sSetl 8 (dOp gCat (dVar 8) (dLst (dCons (dOp gPow (dC (.int 10)) (dC (.int 9))) (dCons (dOp gAdd (dC (.int 1)) (dOp gMod (dOp gIx (dVar 5) (dC (.int 3))) (dC (.int 100)))) (dNil))))))
 (sIf (D3.tAnd (tBool (dOp gEq (dOp gMod (dOp gIx (dVar 5) (dC (.int 5))) (dC (.int 5))) (dC (.int 0)))) (tBool (dOp gNe (dVar 3) (dLst (dNil))))) (sApp 3 (dOp gIx (dVar 3) (dOp gMod (dOp gIx (dVar 5) (dC (.int 3))) (dCall gLen (dCons (dVar 3) (dNil)))))) (sApp 3 (dTup (dCons (dVar 6) (dCons (dVar 7) (dCons (dOp gIx (dVar 8) (dOp gMod (dOp gIx (dVar 5) (dC (.int 4))) (dC (.int 5)))) (dNil)))))))))))))
 (sRet (dFl1 (dVar 3)))))
noncomputable def F__law_prices : List D → Option D := fnD 3 5 (sSeq (sSetl 3 (dCall F__law_row (dCons (dVar 0) (dCons (dVar 1) (dCons (dOp gMul (dC (.int 3)) (dCall gLen (dCons (dVar 2) (dNil)))) (dNil))))))
 (sSeq (sSetl 4 (dLst (dNil)))
 (sSeq (sFor (fRng1 (dCons (dCall gLen (dCons (dVar 2) (dNil))) (dNil))) (gNl 5) (sIf (tBool (dOp gGt (dOp gMod (dOp gIx (dVar 3) (dOp gMul (dC (.int 3)) (dVar 5))) (dC (.int 3))) (dC (.int 0)))) (sSeq (sSetl 6 (dOp gAdd (dOp gMul (dOp gIx (dVar 3) (dOp gAdd (dOp gMul (dC (.int 3)) (dVar 5)) (dC (.int 1)))) (dOp gPow (dC (.int 10)) (dC (.int 6)))) (dOp gIx (dVar 3) (dOp gAdd (dOp gMul (dC (.int 3)) (dVar 5)) (dC (.int 2))))))
 (sSeq (sSetl 7 (dLst (dCons (dC (.int 1)) (dCons (dOp gAdd (dC (.int 1)) (dOp gMod (dVar 6) (dC (.int 9)))) (dCons (dOp gPow (dC (.int 10)) (dC (.int 9))) (dCons (dOp gAdd (dC (.int 1)) (dOp gMod (dVar 6) (dOp gPow (dC (.int 10)) (dC (.int 9))))) (dCons (dOp gAdd (dC (.int 1)) (dOp gMod (dOp gPow (dVar 6) (dC (.int 7))) (dOp gPow (dC (.int 10)) (dC (.int 40))))) (dNil))))))))
 (sApp 4 (dTup (dCons (dVar 5) (dCons (dOp gIx (dVar 7) (dOp gMod (dOp gDiv (dVar 6) (dC (.int 7))) (dC (.int 5)))) (dNil))))))) (sNil)))
 (sRet (dFl1 (dVar 4))))))
noncomputable def F__law_cost : List D → Option D := fnD 3 0 (sRet (dCall gSum (dCons (dComp (fLst (dVar 0)) (gTn 2 (gsCons (gNl 0) (gsCons (gNl 1) (gsNil)))) (D3.tAnd (tBool (dOp gLe (dVar 2) (dVar 0))) (tBool (dOp gLt (dVar 0) (dVar 3)))) (dFlat (dVar 1)) 2 [1, 2]) (dNil))))
noncomputable def F_held_at : List D → Option D := fnD 3 0 (sRet (dCall F_count_at (dCons (dComp (fLst (dVar 1)) (gNl 0) (tYes) (dCall F_nights_of (dCons (dOp gIx (dVar 1) (dVar 0)) (dNil))) 1 [0]) (dCons (dVar 2) (dNil)))))
noncomputable def F_fits : List D → Option D := fnD 3 0 (sRet (dCall gAll (dCons (dComp (fEnum (dVar 1)) (gTn 2 (gsCons (gNl 0) (gsCons (gNl 1) (gsNil)))) (tYes) (dOp gLe (dCall F_held_at (dCons (dVar 2) (dCons (dVar 3) (dCons (dVar 0) (dNil))))) (dVar 1)) 2 [0, 2]) (dNil))))
noncomputable def F__law_holds : List D → Option D := fnD 3 0 (sRet (dCall gLen (dCons (dComp (fLst (dVar 1)) (gNl 0) (D3.tAnd (tBool (dOp gLe (dOp gIx (dOp gIx (dVar 2) (dVar 0)) (dC (.int 0))) (dVar 1))) (tBool (dOp gLt (dVar 1) (dOp gIx (dOp gIx (dVar 2) (dVar 0)) (dC (.int 1)))))) (dFlat (dVar 0)) 1 [2, 0]) (dNil))))
noncomputable def F__law_is_choice : List D → Option D := fnD 3 2 (sSeq (sFor (fRng1 (dCons (dCall gLen (dCons (dVar 2) (dNil))) (dNil))) (gNl 3) (sIf (D3.tOr (D3.tNot (tBool (dChain gLe gLt (dC (.int 0)) (dOp gIx (dVar 2) (dVar 3)) (dCall gLen (dCons (dVar 0) (dNil)))))) (D3.tAnd (tBool (dOp gGt (dVar 3) (dC (.int 0)))) (tBool (dOp gLe (dOp gIx (dVar 2) (dVar 3)) (dOp gIx (dVar 2) (dOp gSub (dVar 3) (dC (.int 1)))))))) (sRet (dC (.bool false))) (sNil)))
 (sSeq (sFor (fRng1 (dCons (dCall gLen (dCons (dVar 1) (dNil))) (dNil))) (gNl 4) (sIf (tBool (dOp gGt (dCall F__law_holds (dCons (dVar 0) (dCons (dVar 2) (dCons (dVar 4) (dNil))))) (dOp gIx (dVar 1) (dVar 4)))) (sRet (dC (.bool false))) (sNil)))
 (sRet (dC (.bool true)))))
noncomputable def F_sold_out : List D → Option D := fnD 4 0 (sRet (dCall gAll (dCons (dComp (fLst (dVar 3)) (gTn 2 (gsCons (gNl 0) (gsCons (gNl 1) (gsNil)))) (tYes) (dOp gEq (dCall F_held_at (dCons (dVar 2) (dCons (dVar 3) (dCons (dVar 0) (dNil))))) (dOp gIx (dVar 4) (dVar 0))) 2 [0, 2, 1]) (dNil))))
noncomputable def F_ways_of_wish : List D → Option D := fnD 3 0 (sSeq (sIf (tBool (dOp gIn (dVar 1) (dVar 2))) (sRet (dTup (dCons (dFlat (dOp gIx (dVar 0) (dC (.int 1)))) (dCons (dFlat (dOp gIx (dVar 0) (dC (.int 0)))) (dCons (dFlat (dOp gIx (dVar 0) (dC (.int 2)))) (dCons (dFlat (dVar 1)) (dNil))))))) (sNil))
 (sRet (dTup (dCons (dFlat (dOp gIx (dVar 0) (dC (.int 0)))) (dCons (dFlat (dOp gIx (dVar 0) (dC (.int 1)))) (dCons (dUn gNeg (dOp gIx (dVar 0) (dC (.int 2)))) (dCons (dFlat (dVar 1)) (dNil))))))))
noncomputable def F_all_ways : List D → Option D := fnD 3 3 (sSeq (sSetl 3 (dComp (fRng1 (dCons (dCall gLen (dCons (dVar 1) (dNil))) (dNil))) (gNl 0) (tYes) (dFlat (dTup (dCons (dVar 0) (dCons (dOp gAdd (dVar 0) (dC (.int 1))) (dCons (dC (.int 0)) (dCons (dC (.none)) (dNil))))))) 1 []))
 (sSeq (sSetl 4 (dComp (fEnum (dVar 1)) (gTn 2 (gsCons (gNl 0) (gsCons (gNl 1) (gsNil)))) (tBool (dOp gLt (dCall F_held_at (dCons (dVar 2) (dCons (dVar 3) (dCons (dVar 0) (dNil))))) (dVar 1))) (dFlat (dVar 0)) 2 [0, 2]))
 (sSeq (sSetl 5 (dComp (fRev (dVar 4)) (gNl 0) (tYes) (dFlat (dTup (dCons (dOp gAdd (dVar 0) (dC (.int 1))) (dCons (dVar 0) (dCons (dC (.int 0)) (dCons (dC (.none)) (dNil))))))) 1 []))
 (sRet (dFl1 (dOp gCat (dOp gCat (dVar 3) (dVar 5)) (dComp (fEnum (dVar 0)) (gTn 2 (gsCons (gNl 0) (gsCons (gNl 1) (gsNil)))) (tYes) (dCall F_ways_of_wish (dCons (dVar 1) (dCons (dVar 0) (dCons (dVar 2) (dNil))))) 2 [2])))))))
noncomputable def F_cheapest : List D → Option D := fnD 2 6 (sSeq (sSetl 2 (dUn gList (dVar 0)))
 (sSeq (sSetl 3 (dOp gRep (dLst (dCons (dC (.none)) (dNil))) (dCall gLen (dCons (dVar 0) (dNil)))))
 (sSeq (sSetl 4 (dC (.bool true)))
 (sSeq (sWhile (tBool (dVar 4)) (sSeq (sSetl 4 (dC (.bool false)))
 (sFor (fLst (dVar 1)) (gNl 5) (sSeq (sSetl 6 (dOp gIx (dVar 2) (dOp gIx (dVar 5) (dC (.int 0)))))
 (sSeq (sSetl 7 (dOp gIx (dVar 2) (dOp gIx (dVar 5) (dC (.int 1)))))
 (sIf (D3.tAnd (tBool (dUn gNotN (dVar 6))) (D3.tOr (tBool (dUn gIsN (dVar 7))) (tBool (dOp gLt (dOp gAdd (dVar 6) (dOp gIx (dVar 5) (dC (.int 2)))) (dVar 7))))) (sSeq (sPut 2 (dOp gIx (dVar 5) (dC (.int 1))) (dOp gAdd (dVar 6) (dOp gIx (dVar 5) (dC (.int 2)))))
 (sSeq (sPut 3 (dOp gIx (dVar 5) (dC (.int 1))) (dVar 5))
 (sSetl 4 (dC (.bool true))))) (sNil)))))))
 (sRet (dTup (dCons (dFl1 (dVar 2)) (dCons (dFl1 (dVar 3)) (dNil)))))))))
noncomputable def F_places_on_the_way : List D → Option D := fnD 3 3 (sSeq (sSetl 3 (dLst (dNil)))
 (sSeq (sSetl 4 (dVar 2))
 (sSeq (sWhile (tBool (dOp gNe (dVar 4) (dVar 1))) (sSeq (sSetl 5 (dOp gIx (dVar 0) (dVar 4)))
 (sSeq (sIf (tBool (dUn gNotN (dOp gIx (dVar 5) (dC (.int 3))))) (sApp 3 (dOp gIx (dVar 5) (dC (.int 3)))) (sNil))
 (sSetl 4 (dOp gIx (dVar 5) (dC (.int 0)))))))
 (sRet (dFl1 (dVar 3))))))
noncomputable def F_with_one_more : List D → Option D := fnL 4 5 (sSeq (sSetl 4 (dOp gIx (dVar 0) (dVar 3)))
 (sSeq (sSetl 5 (dOp gRep (dLst (dCons (dC (.none)) (dNil))) (dOp gAdd (dCall gLen (dCons (dVar 1) (dNil))) (dC (.int 1)))))
 (sSeq (sPut 5 (dOp gIx (dVar 4) (dC (.int 1))) (dC (.int 0)))
 (sSeq (sSetl 6 (dCall F_cheapest (dCons (dVar 5) (dCons (dCall F_all_ways (dCons (dSl (dVar 0) oNone (oPart (dVar 3))) (dCons (dVar 1) (dCons (dVar 2) (dNil))))) (dNil)))))
 (sSeq (sSetl 7 (dOp gIx (dOp gIx (dVar 6) (dC (.int 0))) (dOp gIx (dVar 4) (dC (.int 0)))))
 (sSeq (sIf (D3.tOr (tBool (dUn gIsN (dVar 7))) (tBool (dOp gGe (dVar 7) (dOp gIx (dVar 4) (dC (.int 2)))))) (sRetL (dVar 2)) (sNil))
 (sSeq (sSetl 8 (dOp gCat (dCall F_places_on_the_way (dCons (dOp gIx (dVar 6) (dC (.int 1))) (dCons (dOp gIx (dVar 4) (dC (.int 1))) (dCons (dOp gIx (dVar 4) (dC (.int 0))) (dNil))))) (dLst (dCons (dVar 3) (dNil)))))
 (sRetL (dComp (fRng1 (dCons (dOp gAdd (dVar 3) (dC (.int 1))) (dNil))) (gNl 0) (tBool (dOp gNe (dOp gIn (dVar 0) (dVar 1)) (dOp gIn (dVar 0) (dVar 2)))) (dFlat (dVar 0)) 1 [2, 8])))))))))
noncomputable def F_prices_of : List D → Option D := fnD 3 2 (sSeq (sSetl 3 (dOp gIx (dCall F_cheapest (dCons (dOp gRep (dLst (dCons (dC (.int 0)) (dNil))) (dOp gAdd (dCall gLen (dCons (dVar 1) (dNil))) (dC (.int 1)))) (dCons (dCall F_all_ways (dCons (dVar 0) (dCons (dVar 1) (dCons (dVar 2) (dNil))))) (dNil)))) (dC (.int 0))))
 (sSeq (sSetl 4 (dComp (fRng1 (dCons (dCall gLen (dCons (dVar 1) (dNil))) (dNil))) (gNl 0) (tYes) (dFlat (dTup (dCons (dVar 0) (dCons (dOp gSub (dOp gIx (dVar 1) (dVar 0)) (dOp gIx (dVar 1) (dOp gAdd (dVar 0) (dC (.int 1))))) (dNil))))) 1 [3]))
 (sRet (dComp (fLst (dVar 4)) (gTn 2 (gsCons (gNl 0) (gsCons (gNl 1) (gsNil)))) (tBool (dOp gGt (dVar 1) (dC (.int 0)))) (dFlat (dTup (dCons (dVar 0) (dCons (dVar 1) (dNil))))) 2 []))))
noncomputable def F_best : List D → Option D := fnL 2 2 (sSeq (sExpr (dCall F_check_wishes (dCons (dVar 0) (dCons (dVar 1) (dNil)))))
 (sSeq (sSetl 2 (dLst (dNil)))
 (sSeq (sFor (fRng1 (dCons (dCall gLen (dCons (dVar 0) (dNil))) (dNil))) (gNl 3) (sSetl 2 (dCall F_with_one_more (dCons (dVar 0) (dCons (dVar 1) (dCons (dVar 2) (dCons (dVar 3) (dNil))))))))
 (sRetL (dTup (dCons (dCall F_worth_of (dCons (dVar 0) (dCons (dVar 2) (dNil)))) (dCons (dVar 2) (dCons (dCall F_prices_of (dCons (dVar 0) (dCons (dVar 1) (dCons (dVar 2) (dNil))))) (dNil)))))))))
noncomputable def F__law_is_best : List D → Option D := fnD 4 5 (sSeq (sIf (D3.tNot (tBool (dCall F__law_is_choice (dCons (dVar 0) (dCons (dVar 1) (dCons (dVar 2) (dNil))))))) (sRet (dC (.bool false))) (sNil))
 (sSeq (sFor (fRng1 (dCons (dCall gLen (dCons (dVar 3) (dNil))) (dNil))) (gNl 4) (sSeq (sAsg (dOp gIx (dVar 3) (dVar 4)) (gTn 2 (gsCons (gNl 5) (gsCons (gNl 6) (gsNil)))))
 (sSeq (sIf (D3.tOr (D3.tNot (tBool (dChain gLe gLt (dC (.int 0)) (dVar 5) (dCall gLen (dCons (dVar 1) (dNil)))))) (D3.tOr (tBool (dOp gLt (dVar 6) (dC (.int 1)))) (D3.tAnd (tBool (dOp gGt (dVar 4) (dC (.int 0)))) (tBool (dOp gLe (dVar 5) (dOp gIx (dOp gIx (dVar 3) (dOp gSub (dVar 4) (dC (.int 1)))) (dC (.int 0)))))))) (sRet (dC (.bool false))) (sNil))
 (sIf (tBool (dOp gNe (dCall F__law_holds (dCons (dVar 0) (dCons (dVar 2) (dCons (dVar 5) (dNil))))) (dOp gIx (dVar 1) (dVar 5)))) (sRet (dC (.bool false))) (sNil)))))
 (sSeq (sFor (fRng1 (dCons (dCall gLen (dCons (dVar 0) (dNil))) (dNil))) (gNl 7) (sSeq (sSetl 8 (dOp gSub (dOp gIx (dOp gIx (dVar 0) (dVar 7)) (dC (.int 2))) (dCall F__law_cost (dCons (dVar 3) (dCons (dOp gIx (dOp gIx (dVar 0) (dVar 7)) (dC (.int 0))) (dCons (dOp gIx (dOp gIx (dVar 0) (dVar 7)) (dC (.int 1))) (dNil)))))))
 (sIf (D3.tOr (D3.tAnd (tBool (dOp gLt (dVar 8) (dC (.int 0)))) (tBool (dOp gIn (dVar 7) (dVar 2)))) (D3.tAnd (tBool (dOp gGt (dVar 8) (dC (.int 0)))) (tBool (dOp gNotin (dVar 7) (dVar 2))))) (sRet (dC (.bool false))) (sNil))))
 (sRet (dC (.bool true))))))
noncomputable def F_has_room : List D → Option D := fnD 4 1 (sSeq (sSetl 4 (dComp (fEnum (dVar 1)) (gTn 2 (gsCons (gNl 0) (gsCons (gNl 1) (gsNil)))) (tBool (dCall F_holds (dCons (dCall F_nights_of (dCons (dVar 4) (dNil))) (dCons (dVar 0) (dNil))))) (dOp gSub (dVar 1) (dCall F_held_at (dCons (dVar 2) (dCons (dVar 3) (dCons (dVar 0) (dNil)))))) 2 [0, 2, 3]))
 (sRet (dOp gGt (dCall gMinL (dCons (dVar 4) (dNil))) (dC (.int 0)))))
noncomputable def F_by_turns : List D → Option D := fnD 2 3 (sSeq (sExpr (dCall F_check_wishes (dCons (dVar 0) (dCons (dVar 1) (dNil)))))
 (sSeq (sSetl 2 (dLst (dNil)))
 (sSeq (sFor (fEnum (dVar 0)) (gTn 2 (gsCons (gNl 3) (gsCons (gNl 4) (gsNil)))) (sIf (tBool (dCall F_has_room (dCons (dVar 0) (dCons (dVar 1) (dCons (dVar 2) (dCons (dVar 4) (dNil))))))) (sApp 2 (dVar 3)) (sNil)))
 (sRet (dFl1 (dVar 2))))))
noncomputable def F__law_other_choice : List D → Option D := fnD 3 1 (sSeq (sSetl 3 (dUn gList (dVar 0)))
 (sSeq (sIf (D3.tAnd (tBool (dOp gEq (dOp gMod (dOp gIx (dVar 2) (dC (.int 0))) (dC (.int 3))) (dC (.int 0)))) (tBool (dOp gNe (dVar 3) (dLst (dNil))))) (sPopI 3 (dOp gMod (dOp gIx (dVar 2) (dC (.int 1))) (dCall gLen (dCons (dVar 3) (dNil))))) (sIf (D3.tAnd (tBool (dOp gEq (dOp gMod (dOp gIx (dVar 2) (dC (.int 0))) (dC (.int 3))) (dC (.int 1)))) (tBool (dOp gGt (dVar 1) (dC (.int 0))))) (sSetl 3 (dCall gSort (dCons (dOp gCat (dVar 3) (dLst (dCons (dOp gMod (dOp gIx (dVar 2) (dC (.int 1))) (dVar 1)) (dNil)))) (dNil)))) (sIf (tBool (dOp gGt (dVar 1) (dC (.int 0)))) (sSetl 3 (dCall gSort (dCons (dComp (fRng1 (dCons (dVar 1) (dNil))) (gNl 0) (tBool (dOp gNe (dOp gIn (dVar 0) (dVar 1)) (dOp gEq (dVar 0) (dOp gMod (dOp gIx (dVar 3) (dC (.int 1))) (dVar 2))))) (dFlat (dVar 0)) 1 [3, 1, 2]) (dNil)))) (sNil))))
 (sRet (dFl1 (dVar 3)))))
end Com
namespace Com
open PySem D3 My
theorem pAt_ints {ns : List Int} {i : Int} (h0 : 0 ≤ i) (h1 : i < ns.length) : pAt (ns.map PyData.int) i = some (.int (ns.getD i.toNat 0)) := by
 unfold pAt pIx
 rw [List.length_map, if_pos h0, if_pos h1, Option.bind_some, List.getElem?_map]
 have h : i.toNat < ns.length := by omega
 rw [List.getElem?_eq_getElem h]
 simp [List.getD, h]
theorem pAt_nat {l : List D} {k : Nat} : pAt l (k : Int) = l[k]? := by
 unfold pAt pIx
 rw [if_pos (by omega)]
 by_cases h : k < l.length
 ·rw [if_pos (by omega), Option.bind_some]
  simp
 ·rw [if_neg (by omega), List.getElem?_eq_none (by omega)]
  rfl
theorem at0 {a : D} {l : List D} : pAt (a :: l) 0 = some a := pAt_nat (k := 0)
theorem at1 {a b : D} {l : List D} : pAt (a :: b :: l) 1 = some b := pAt_nat (k := 1)
theorem modP {i j : Int} (h : 0 < j) : gMod (.int i) (.int j) = some (.int (i % j)) := by
 show (if decide (j ≠ 0) = true then some (PyData.int (i.fmod j)) else none) = _
 rw [if_pos (dTr (by omega)), Int.fmod_eq_emod_of_nonneg i (by omega)]
theorem small_lt {j : Int} (h : j.natAbs < 2 ^ 64) : j.natAbs < 2 ^ 9000 := Nat.lt_of_lt_of_le h (Nat.pow_le_pow_right (by decide) (by decide))
theorem divB {i j : Int} (h : 0 < j) (h2 : j.natAbs < 2 ^ 9000) : gDiv (.int i) (.int j) = some (.int (i / j)) := by
 show (if divG i j = true then some (PyData.int (i.fdiv j)) else none) = _
 have e : divG i j = true := by
  unfold divG
  rw [Bool.and_eq_true]
  exact ⟨dTr (by omega), dTr h2⟩
 rw [if_pos e, Int.fdiv_eq_ediv_of_nonneg i (by omega)]
theorem divP {i j : Int} (h : 0 < j) (h2 : j < 18446744073709551616) : gDiv (.int i) (.int j) = some (.int (i / j)) := divB h (small_lt (by omega))
theorem mulL {i j : Int} (h1 : -18446744073709551616 < i) (h2 : i < 18446744073709551616) : gMul (.int i) (.int j) = some (.int (i * j)) := by
 show (if mulG i j = true then some (PyData.int (i * j)) else none) = _
 have e : mulG i j = true := by
  unfold mulG
  rw [dTr (show i.natAbs < 2 ^ 64 by omega)]
  rfl
 rw [if_pos e]
theorem mulR {i j : Int} (h1 : -18446744073709551616 < j) (h2 : j < 18446744073709551616) : gMul (.int i) (.int j) = some (.int (i * j)) := by
 show (if mulG i j = true then some (PyData.int (i * j)) else none) = _
 have e : mulG i j = true := by
  unfold mulG
  rw [dTr (show j.natAbs < 2 ^ 64 by omega), Bool.or_true]
  rfl
 rw [if_pos e]
theorem pow40 : gPow (.int 10) (.int 40) = some (.int (10 ^ 40)) := rfl
theorem pow6 : gPow (.int 10) (.int 6) = some (.int (10 ^ 6)) := rfl
theorem sz {n : Nat} (h : n ≤ 1000000) : n ≤ sizeLine := Nat.le_trans h (by decide)
theorem shaped_ints (ns : List Int) : SeqAt.shaped (.list (ns.map PyData.int)) = true := by
 have h1 : ∀ ns : List Int, PyData.canLayAll0 (ns.map PyData.int) = true := fun ns => by
  induction ns with
  | nil => rfl
  | cons a r ih => simp [PyData.canLayAll0, PyData.canLay0, ih]
 have h2 : ∀ ns : List Int, PyData.depthAll (ns.map PyData.int) ≤ 1 := fun ns => by
  induction ns with
  | nil => simp [PyData.depthAll]
  | cons a r ih => simp [PyData.depthAll, PyData.depth]; omega
 unfold SeqAt.shaped
 rw [Bool.and_eq_true]
 refine ⟨by simp [PyData.canLay0, h1], dTr ?_⟩
 have := h2 ns
 simp only [PyData.depth]
 omega
theorem eq_empty (ns : List Int) : gEq (.list (ns.map PyData.int)) (.list []) = some (.bool (decide (ns = []))) := by
 unfold gEq
 rw [shaped_ints ns]
 cases ns with
 | nil => rfl
 | cons a r => rfl
theorem cell_spec {ns : List Int} {i : Int} (h0 : 0 ≤ i) : F__law_cell [.list (ns.map .int), .int i] = some (.int (cellF ns i)) := by
 unfold F__law_cell cellF
 by_cases h : i < (ns.length : Int)
 ·rw [if_pos h]
  simp only [EV, reduceIte, reduceAdd, reduceLT, reduceLeDiff, reduceEqDiff, reduceEq, Int.reduceLT, reduceLE, lMp, dTr h, pAt_ints h0 h, modP (show (0 : Int) < 1000000007 by decide)]
 ·rw [if_neg h]
  by_cases hn : ns = []
  ·rw [if_pos hn]
   simp only [EV, reduceIte, reduceAdd, reduceLT, reduceLeDiff, reduceEqDiff, reduceEq, Int.reduceLT, reduceLE, lMp, dFa h, eq_empty, dTr hn, Nat.zero_le, mulL (show (-18446744073709551616 : Int) < 7919 by decide) (show (7919 : Int) < 18446744073709551616 by decide)]
  ·rw [if_neg hn]
   have hl : 0 < ns.length := by
    cases ns with
    | nil => exact absurd rfl hn
    | cons _ _ => simp
   have h7 : 0 ≤ i * 7 % (ns.length : Int) := Int.emod_nonneg _ (by omega)
   have h8 : i * 7 % (ns.length : Int) < (ns.length : Int) := Int.emod_lt_of_pos _ (by omega)
   simp only [EV, reduceIte, reduceAdd, reduceLT, reduceLeDiff, reduceEqDiff, reduceEq, Int.reduceLT, reduceLE, lMp, dFa h, eq_empty, dFa hn, Nat.zero_le, mulL (show (-18446744073709551616 : Int) < 7919 by decide) (show (7919 : Int) < 18446744073709551616 by decide), mulR (show (-18446744073709551616 : Int) < 7 by decide) (show (7 : Int) < 18446744073709551616 by decide), modP (show (0 : Int) < 1000000007 by decide), modP (show (0 : Int) < ns.length by omega), pAt_ints h7 h8]
theorem divs_loop {l : D} {i k m : D} (n : Int) : ∀ (js : List D) (c : Nat) (y : Option U), (∀ j ∈ js, ∃ x, j = .int x) → ∃ y', forD (gNl 5) (sSetl 4 (dOp gDiv (dVar 4) (dC (.int 1000003)))) js [some (.d l), some (.d i), some (.d k), some (.d m), some (.d (.int (divs n c))), y] =
 some (.nx [some (.d l), some (.d i), some (.d k), some (.d m), some (.d (.int (divs n (c + js.length)))), y'])
 | [], c, y, _ => ⟨y, rfl⟩
 | j :: js, c, y, h => by
  obtain ⟨y', e⟩ := divs_loop (l := l) (i := i) (k := k) (m := m) n js (c + 1) (some (.d j)) fun j' hj => h j' (List.mem_cons_of_mem _ hj)
  refine ⟨y', ?_⟩
  rw [forD]
  simp only [EV, reduceIte, reduceAdd, reduceLT, reduceLeDiff, reduceEqDiff, reduceEq, Int.reduceLT, reduceLE, divP (show (0 : Int) < 1000003 by decide) (show (1000003 : Int) < 18446744073709551616 by decide), Option.bind_some]
  rw [show c + (js.length + 1) = c + 1 + js.length by omega, ← e]
  rfl
theorem rngD_ints (lo hi : Int) : ∀ j ∈ rngD lo hi, ∃ x, j = .int x := by
 intro j hj
 unfold rngD at hj
 obtain ⟨k, _, rfl⟩ := List.mem_map.mp hj
 exact ⟨_, rfl⟩
theorem part_spec {ns : List Int} {i k m : Int} (h0 : 0 ≤ i) (hk0 : 0 ≤ k) (hk : k ≤ 1000) (hm : 0 < m) : F__law_part [.list (ns.map .int), .int i, .int k, .int m] = some (.int (partF ns i k m)) := by
 have rest : ∀ x y : Option U, qFn ((sSeq (sSetl 4 (dOp gMod (dOp gMul (dOp gAdd (dOp gAdd (dCall F__law_cell (dCons (dVar 0) (dCons (dVar 1) (dNil)))) (dOp gMul (dC (.int 65537)) (dVar 1))) (dC (.int 3))) (dOp gAdd (dC (.int 1299709)) (dOp gMul (dC (.int 15485863)) (dVar 2)))) (dC (.int 2147483629))))
  (sSeq (sSetl 4 (dOp gAdd (dOp gMod (dOp gMul (dVar 4) (dVar 4)) (dC (.int 1500450271))) (dC (.int 104729))))
  (sRet (dOp gMod (dOp gDiv (dOp gMod (dOp gMul (dVar 4) (dVar 4)) (dC (.int 715827883))) (dC (.int 64))) (dVar 3))))) [some (.d (.list (ns.map .int))), some (.d (.int i)), some (.d (.int k)), some (.d (.int m)), x, y]) = some (.int (drawF (cellF ns i) i k m)) := by
  intro x y
  have b1 : 0 ≤ (cellF ns i + 65537 * i + 3) * (1299709 + 15485863 * k) % 2147483629 := Int.emod_nonneg _ (by decide)
  have b2 : (cellF ns i + 65537 * i + 3) * (1299709 + 15485863 * k) % 2147483629 < 2147483629 := Int.emod_lt_of_pos _ (by decide)
  have b3 : 0 ≤ (cellF ns i + 65537 * i + 3) * (1299709 + 15485863 * k) % 2147483629 * ((cellF ns i + 65537 * i + 3) * (1299709 + 15485863 * k) % 2147483629) % 1500450271 := Int.emod_nonneg _ (by decide)
  have b4 : (cellF ns i + 65537 * i + 3) * (1299709 + 15485863 * k) % 2147483629 * ((cellF ns i + 65537 * i + 3) * (1299709 + 15485863 * k) % 2147483629) % 1500450271 < 1500450271 := Int.emod_lt_of_pos _ (by decide)
  simp only [EV, reduceIte, reduceAdd, reduceLT, reduceLeDiff, reduceEqDiff, reduceEq, Int.reduceLT, reduceLE, cell_spec h0, mulL (show (-18446744073709551616 : Int) < 65537 by decide) (show (65537 : Int) < 18446744073709551616 by decide), mulL (show (-18446744073709551616 : Int) < 15485863 by decide) (show (15485863 : Int) < 18446744073709551616 by decide),
   mulR (i := cellF ns i + 65537 * i + 3) (show (-18446744073709551616 : Int) < 1299709 + 15485863 * k by omega) (show 1299709 + 15485863 * k < (18446744073709551616 : Int) by omega), modP (show (0 : Int) < 2147483629 by decide)]
  simp only [mulL (show (-18446744073709551616 : Int) < (cellF ns i + 65537 * i + 3) * (1299709 + 15485863 * k) % 2147483629 by omega) (show (cellF ns i + 65537 * i + 3) * (1299709 + 15485863 * k) % 2147483629 < (18446744073709551616 : Int) by omega)]
  simp only [EV, reduceIte, reduceAdd, reduceLT, reduceLeDiff, reduceEqDiff, reduceEq, Int.reduceLT, reduceLE, modP (show (0 : Int) < 1500450271 by decide)]
  rw [mulL (by omega) (by omega)]
  simp only [EV, reduceIte, reduceAdd, reduceLT, reduceLeDiff, reduceEqDiff, reduceEq, Int.reduceLT, reduceLE, modP (show (0 : Int) < 715827883 by decide), divP (show (0 : Int) < 64 by decide) (show (64 : Int) < 18446744073709551616 by decide), modP hm]
  rfl
 unfold F__law_part
 rw [v_fn]
 simp only [EV, reduceIte, reduceAdd, reduceLT, reduceLeDiff, reduceEqDiff, reduceEq, Int.reduceLT, reduceLE]
 by_cases h : i < (ns.length : Int)
 ·by_cases h2 : 10 ^ 40 ≤ ns.getD i.toNat 0
  ·simp only [EV, reduceIte, reduceAdd, reduceLT, reduceLeDiff, reduceEqDiff, reduceEq, Int.reduceLT, reduceLE, lMp, dTr h, pAt_ints h0 h, pow40, dTr h2]
   obtain ⟨y', e⟩ := divs_loop (l := .list (ns.map .int)) (i := .int i) (k := .int k) (m := .int m) (ns.getD i.toNat 0) (rngD 0 k) 0 none (rngD_ints 0 k)
   have el : 0 + (rngD 0 k).length = k.toNat := by simp [rngD]
   rw [el] at e
   have e' : forD (gNl 5) (sSetl 4 (dOp gDiv (dVar 4) (dC (.int 1000003)))) (rngD 0 k) [some (.d (.list (ns.map .int))), some (.d (.int i)), some (.d (.int k)), some (.d (.int m)), some (.d (.int (ns.getD i.toNat 0))), none] =
    some (.nx [some (.d (.list (ns.map .int))), some (.d (.int i)), some (.d (.int k)), some (.d (.int m)), some (.d (.int (divs (ns.getD i.toNat 0) k.toNat))), y']) := e
   rw [rng1 (by omega) (by omega)]
   simp only [EV, reduceIte, reduceAdd, reduceLT, reduceLeDiff, reduceEqDiff, reduceEq, Int.reduceLT, reduceLE, e']
   by_cases h3 : 0 < divs (ns.getD i.toNat 0) k.toNat
   ·simp only [EV, reduceIte, reduceAdd, reduceLT, reduceLeDiff, reduceEqDiff, reduceEq, Int.reduceLT, reduceLE, dTr h3, modP (show (0 : Int) < 1000003 by decide), modP hm]
    rw [partF_hit h h2 h3]
   ·simp only [EV, reduceIte, reduceAdd, reduceLT, reduceLeDiff, reduceEqDiff, reduceEq, Int.reduceLT, reduceLE, dFa h3]
    rw [partF_miss (fun z => h3 z.2.2)]
    have := rest (some (.d (.int (divs (ns.getD i.toNat 0) k.toNat)))) y'
    simp only [EV, reduceIte, reduceAdd, reduceLT, reduceLeDiff, reduceEqDiff, reduceEq, Int.reduceLT, reduceLE] at this
    exact this
  ·simp only [EV, reduceIte, reduceAdd, reduceLT, reduceLeDiff, reduceEqDiff, reduceEq, Int.reduceLT, reduceLE, lMp, dTr h, pAt_ints h0 h, pow40, dFa h2]
   rw [partF_miss (fun z => h2 z.2.1)]
   have := rest none none
   simp only [EV, reduceIte, reduceAdd, reduceLT, reduceLeDiff, reduceEqDiff, reduceEq, Int.reduceLT, reduceLE] at this
   exact this
 ·simp only [EV, reduceIte, reduceAdd, reduceLT, reduceLeDiff, reduceEqDiff, reduceEq, Int.reduceLT, reduceLE, lMp, dFa h]
  rw [partF_miss (fun z => h z.1)]
  have := rest none none
  simp only [EV, reduceIte, reduceAdd, reduceLT, reduceLeDiff, reduceEqDiff, reduceEq, Int.reduceLT, reduceLE] at this
  exact this
end Com
namespace Com
open PySem D3 My
def q (t b : Int) : Rat := mkRat t b.toNat
end Com
namespace Com
open PySem D3 My
def sm (k : Nat) (x : Int) : Prop := x.natAbs < 2 ^ k
end Com
namespace Com
open PySem D3 My
structure Tb where
 N : Nat
 w : Nat → Int
 B : Int
def sumTo (f : Nat → Int) : Nat → Int
 | 0 => 0
 | n + 1 => sumTo f n + f n
structure TbOk (t : Tb) (k : Nat) : Prop where
 B0 : 0 < t.B
 Bs : sm (7 * k + 1) t.B
 w0 : ∀ j, 0 ≤ t.w j
 wB : ∀ j, t.w j ≤ t.B
 wz : ∀ j, t.N ≤ j → t.w j = 0
 N1 : 1 ≤ t.N
 N4 : t.N ≤ 1 + 4 * k
 sum : sumTo t.w t.N = t.B
end Com
namespace Com
open PySem D3 My
end Com
namespace Com
open PySem D3 My
structure bd (k : Nat) (a : Rat) : Prop where
 n : sm k a.num
 d : sm k (a.den : Int)
end Com
namespace Com
open PySem D3 My
theorem for_find {g : FG} {b : FS} (Inv : Nat → DS → Prop) {v : D} (n : Nat) : ∀ (l : List D) (δ : DS), Inv 0 δ → n < l.length → (∀ i d δ, i < n → l[i]? = some d → Inv i δ → ∃ δ1 δ', g d δ = some δ1 ∧ b δ1 = some (.nx δ') ∧ Inv (i + 1) δ') →
 (∀ d δ, l[n]? = some d → Inv n δ → ∃ δ1, g d δ = some δ1 ∧ b δ1 = some (.rt v)) → forD g b l δ = some (.rt v) := by
 have key : ∀ (n : Nat) (l : List D) (k : Nat) (δ : DS), Inv k δ → n < l.length → (∀ i d δ, i < n → l[i]? = some d → Inv (k + i) δ → ∃ δ1 δ', g d δ = some δ1 ∧ b δ1 = some (.nx δ') ∧ Inv (k + i + 1) δ') →
  (∀ d δ, l[n]? = some d → Inv (k + n) δ → ∃ δ1, g d δ = some δ1 ∧ b δ1 = some (.rt v)) → forD g b l δ = some (.rt v) := by
  intro n
  induction n with
  | zero =>
   intro l k δ h0 hn _ hr
   cases l with
   | nil => simp at hn
   | cons d r =>
    obtain ⟨δ1, e1, e2⟩ := hr d δ rfl h0
    rw [forD, e1, Option.bind_some, e2]
    rfl
  | succ n ih =>
   intro l k δ h0 hn hs hr
   cases l with
   | nil => simp at hn
   | cons d r =>
    obtain ⟨δ1, δ', e1, e2, e3⟩ := hs 0 d δ (by omega) rfl h0
    rw [forD, e1, Option.bind_some, e2]
    refine ih r (k + 1) δ' e3 (by simpa using hn) (fun i d' δ'' hi hd hI => ?_) (fun d' δ'' hd hI => hr d' δ'' (by simpa using hd) (by rw [show k + (n + 1) = k + 1 + n by omega]; exact hI))
    have := hs (i + 1) d' δ'' (by omega) (by simpa using hd) (by rw [show k + (i + 1) = k + 1 + i by omega]; exact hI)
    rw [show k + (i + 1) + 1 = k + 1 + i + 1 by omega] at this
    exact this
 intro l δ h0 hn hs hr
 refine key n l 0 δ h0 hn (fun i d δ hi hd hI => ?_) (fun d δ hd hI => hr d δ hd (by rw [Nat.zero_add] at hI; exact hI))
 have := hs i d δ hi hd (by rw [Nat.zero_add] at hI; exact hI)
 rw [Nat.zero_add]
 exact this
theorem rng_get {hi : Int} {i : Nat} {d : D} (h : (rngD 0 hi)[i]? = some d) : (i : Int) < hi ∧ d = .int (i : Int) := by
 unfold rngD at h
 rw [List.getElem?_map] at h
 by_cases hi' : i < (hi - 0).toNat
 ·rw [List.getElem?_range hi'] at h
  cases h
  refine ⟨by omega, ?_⟩
  show PyData.int (0 + (i : Int)) = _
  rw [Int.zero_add]
 ·rw [List.getElem?_eq_none (by simpa using hi')] at h
  cases h
end Com
namespace Com
open PySem D3 My
theorem cEx {α : Type} {g : FG} {c : FT} {e : FE} {δ : DS} (f : α → D) (P : α → Prop) : ∀ l : List D, (∀ d ∈ l, ∃ δ1 x, g d δ = some δ1 ∧ c δ1 = some true ∧ P x ∧ e δ1 = some (f x)) → ∃ xs : List α, xs.length = l.length ∧ (∀ x ∈ xs, P x) ∧ compD g c e δ l = some (xs.map f)
 | [], _ => ⟨[], rfl, (fun _ h => by cases h), rfl⟩
 | d :: r, hs => by
  obtain ⟨δ1, x, e1, e2, hp, e3⟩ := hs d List.mem_cons_self
  obtain ⟨xs, l1, h1, e4⟩ := cEx f P r fun x hx => hs x (List.mem_cons_of_mem _ hx)
  refine ⟨x :: xs, by simp [l1], fun y hy => ?_, ?_⟩
  ·rcases List.mem_cons.mp hy with rfl | z
   ·exact hp
   ·exact h1 y z
  ·rw [compD, e1, Option.bind_some, e2, Option.bind_some, if_pos rfl, e3, Option.bind_some, e4]
   rfl
theorem cFil {α : Type} {g : FG} {c : FT} {e : FE} {δ : DS} (f : α → D) (p : α → Bool) (h : α → D) : ∀ l : List α, (∀ s ∈ l, ∃ δ1, g (f s) δ = some δ1 ∧ c δ1 = some (p s) ∧ (p s = true → e δ1 = some (h s))) → compD g c e δ (l.map f) = some ((l.filter p).map h)
 | [], _ => rfl
 | s :: r, hs => by
  obtain ⟨δ1, e1, e2, e3⟩ := hs s List.mem_cons_self
  have ih := cFil f p h r fun x hx => hs x (List.mem_cons_of_mem _ hx)
  rw [List.map_cons, compD, e1, Option.bind_some, e2, Option.bind_some]
  by_cases c : p s = true
  ·rw [if_pos c, e3 c, Option.bind_some, ih, List.filter_cons, if_pos c]
   rfl
  ·rw [if_neg c, ih, List.filter_cons, if_neg c]
theorem cMap {α : Type} {g : FG} {c : FT} {e : FE} {δ : DS} (f : α → D) (h : α → D) : ∀ l : List α, (∀ s ∈ l, ∃ δ1, g (f s) δ = some δ1 ∧ c δ1 = some true ∧ e δ1 = some (h s)) → compD g c e δ (l.map f) = some (l.map h)
 | [], _ => rfl
 | s :: r, hs => by
  obtain ⟨δ1, e1, e2, e3⟩ := hs s List.mem_cons_self
  rw [List.map_cons, compD, e1, Option.bind_some, e2, Option.bind_some, if_pos rfl, e3, Option.bind_some, cMap f h r fun x hx => hs x (List.mem_cons_of_mem _ hx)]
  rfl
theorem flats_all {α : Type} (f : α → D) (h : ∀ a, flat (f a) = true) : ∀ l : List α, flats (l.map f) = true
 | [] => rfl
 | a :: r => by rw [List.map_cons, flats, h, flats_all f h r]; rfl
theorem flats_ints (l : List Int) : flats (l.map PyData.int) = true := flats_all _ (fun _ => rfl) l
theorem at2 {a b c : D} {l : List D} : pAt (a :: b :: c :: l) 2 = some c := pAt_nat (k := 2)
theorem at3 {a b c d : D} {l : List D} : pAt (a :: b :: c :: d :: l) 3 = some d := pAt_nat (k := 3)
theorem at4 {a b c d e : D} {l : List D} : pAt (a :: b :: c :: d :: e :: l) 4 = some e := pAt_nat (k := 4)
theorem at5 {a b c d e f : D} {l : List D} : pAt (a :: b :: c :: d :: e :: f :: l) 5 = some f := pAt_nat (k := 5)
theorem at6 {a b c d e f g : D} {l : List D} : pAt (a :: b :: c :: d :: e :: f :: g :: l) 6 = some g := pAt_nat (k := 6)
theorem pAt_map {α : Type} (f : α → D) {l : List α} {i : Int} (h0 : 0 ≤ i) (h1 : i < l.length) : ∃ a ∈ l, pAt (l.map f) i = some (f a) := by
 have hk : i.toNat < l.length := by omega
 refine ⟨l[i.toNat], List.getElem_mem hk, ?_⟩
 obtain ⟨k, rfl⟩ : ∃ k : Nat, i = (k : Int) := ⟨i.toNat, by omega⟩
 rw [pAt_nat, List.getElem?_map]
 simp only [Int.toNat_natCast] at hk ⊢
 rw [List.getElem?_eq_getElem hk]
 rfl
theorem rng_len {m : Int} : (rngD 0 m).length = m.toNat := by unfold rngD; rw [List.length_map, List.length_range, Int.sub_zero]
theorem rng_mem {m : Int} {d : D} (h : d ∈ rngD 0 m) : ∃ k : Nat, (k : Int) < m ∧ d = .int (k : Int) := by
 unfold rngD at h
 obtain ⟨k, hk, rfl⟩ := List.mem_map.mp h
 have := List.mem_range.mp hk
 exact ⟨k, by omega, by rw [Int.zero_add]⟩
theorem rng_map (m : Int) : rngD 0 m = (List.range m.toNat).map fun k : Nat => PyData.int (k : Int) := by
 unfold rngD
 rw [Int.sub_zero]
 apply List.map_congr_left
 intro k _
 rw [Int.zero_add]
theorem rng_at {m : Int} {i : Nat} {d : D} (h : (rngD 0 m)[i]? = some d) : (i : Int) < m ∧ d = .int (i : Int) := by
 rw [rng_map, List.getElem?_map] at h
 by_cases hi : i < m.toNat
 ·rw [List.getElem?_range hi] at h
  cases h
  exact ⟨by omega, rfl⟩
 ·rw [List.getElem?_eq_none (by simpa using hi)] at h
  cases h
theorem rep_ints {v k : Int} (h : k ≤ 1000000) (h' : -(2 ^ 63) ≤ k) : gRep (.list [.int v]) (.int k) = some (.list ((List.replicate k.toNat v).map PyData.int)) := by
 show (if [PyData.int v].length * k.toNat ≤ 1000000 ∧ -(2 ^ 63) ≤ k ∧ k < 2 ^ 63 then some (PyData.list (List.replicate k.toNat [PyData.int v]).flatten) else none) = _
 rw [if_pos ⟨by simp only [List.length_cons, List.length_nil]; omega, h', by omega⟩]
 congr 2
 generalize k.toNat = n
 induction n with
 | zero => rfl
 | succ n ih => rw [List.replicate_succ, List.flatten_cons, ih, List.replicate_succ, List.map_cons]; rfl
theorem modR {i j : Int} (h : 0 < j) : 0 ≤ i % j ∧ i % j < j := ⟨Int.emod_nonneg _ (by omega), Int.emod_lt_of_pos _ h⟩
theorem pow9 : gPow (.int 10) (.int 9) = some (.int 1000000000) := rfl
theorem pow6' : gPow (.int 10) (.int 6) = some (.int 1000000) := rfl
theorem cutDr {l : List D} {k : Int} (h : 0 ≤ k) : cutD l (some k) none = l.drop k.toNat := by
 unfold cutD
 have e : pSx l.length 0 (some k) = min k.toNat l.length := by
  show (if k < 0 then _ else _) = _
  rw [if_neg (by omega)]
 rw [e, show pSx l.length l.length none = l.length from rfl]
 by_cases c : k.toNat ≤ l.length
 ·rw [show min k.toNat l.length = k.toNat by omega, List.take_of_length_le (by rw [List.length_drop]; omega)]
 ·rw [show min k.toNat l.length = l.length by omega, List.drop_of_length_le (by omega), List.drop_of_length_le (by omega)]
  simp
theorem cutTk {l : List D} {k : Int} (h : 0 ≤ k) : cutD l none (some k) = l.take k.toNat := by
 unfold cutD
 have e : pSx l.length l.length (some k) = min k.toNat l.length := by
  show (if k < 0 then _ else _) = _
  rw [if_neg (by omega)]
 rw [e, show pSx l.length 0 none = 0 from rfl, List.drop_zero, Nat.sub_zero, List.take_eq_take_iff]
 omega
theorem isList : D3.isT "list" "list" = true := rfl
mutual
theorem eqv_refl : ∀ d : D, d.canLay0 = true → PyData.eqv d d = true
 | .none, _ => by simp [PyData.eqv]
 | .bool b, _ => by simp [PyData.eqv]
 | .int i, _ => by simp [PyData.eqv]
 | .str x, _ => by simp [PyData.eqv]
 | .list l, h => by
  have := eqvAll_refl l (by simpa [PyData.canLay0] using h)
  simpa [PyData.eqv] using this
 | .tuple l, h => by
  have := eqvAll_refl l (by simpa [PyData.canLay0] using h)
  simpa [PyData.eqv] using this
 | .dict l, h => by simp [PyData.canLay0] at h
theorem eqvAll_refl : ∀ l : List D, PyData.canLayAll0 l = true → PyData.eqvAll l l = true
 | [], _ => by simp [PyData.eqvAll]
 | d :: r, h => by
  rw [PyData.canLayAll0, Bool.and_eq_true] at h
  rw [PyData.eqvAll, eqv_refl d h.1, eqvAll_refl r h.2]
  rfl
end
def ly (n : Nat) (d : D) : Prop := d.canLay0 = true ∧ d.depth ≤ n
def lys (n : Nat) (l : List D) : Prop := PyData.canLayAll0 l = true ∧ PyData.depthAll l ≤ n
theorem ly_le {n m : Nat} {d : D} (h : ly n d) (l : n ≤ m) : ly m d := ⟨h.1, Nat.le_trans h.2 l⟩
theorem lys_nil {n : Nat} : lys n [] := ⟨by simp [PyData.canLayAll0], by simp [PyData.depthAll]⟩
theorem lys_cons {n : Nat} {d : D} {l : List D} (h : ly n d) (q : lys n l) : lys n (d :: l) :=
 ⟨by rw [PyData.canLayAll0, h.1, q.1]; rfl, by have := h.2; have := q.2; simp only [PyData.depthAll]; omega⟩
theorem lys_map {α : Type} {n : Nat} (f : α → D) (h : ∀ a, ly n (f a)) : ∀ l : List α, lys n (l.map f)
 | [] => lys_nil
 | a :: r => lys_cons (h a) (lys_map f h r)
theorem ly_list {n : Nat} {l : List D} (h : lys n l) : ly (n + 1) (.list l) := ⟨by simp [PyData.canLay0, h.1], by have := h.2; simp only [PyData.depth]; omega⟩
theorem ly_tup {n : Nat} {l : List D} (h : lys n l) : ly (n + 1) (.tuple l) := ⟨by simp [PyData.canLay0, h.1], by have := h.2; simp only [PyData.depth]; omega⟩
theorem ly_int {n : Nat} {i : Int} : ly (n + 1) (.int i) := ⟨rfl, by simp [PyData.depth]⟩
theorem ly_shaped {d : D} (h : ly 60 d) : SeqAt.shaped d = true := by
 unfold SeqAt.shaped
 rw [Bool.and_eq_true]
 exact ⟨h.1, dTr (by have := h.2; omega)⟩
theorem ne_self {d : D} (h : ly 60 d) : gNe d d = some (.bool false) := by
 unfold gNe
 rw [ly_shaped h, eqv_refl d h.1]
 rfl
theorem ne_nil {l : List D} (h : ly 60 (.list l)) : gNe (.list l) (.list []) = some (.bool (!l.isEmpty)) := by
 unfold gNe
 rw [ly_shaped h, show SeqAt.shaped (.list []) = true from rfl]
 cases l <;> simp [PyData.eqv, PyData.eqvAll]
end Com
namespace Com
open PySem D3 My
def r6 (x : Int) : Prop := 0 ≤ x ∧ x < 1000000
theorem row_spec (ns : List Int) {a m : Int} (h0 : 0 ≤ a) (m0 : 0 ≤ m) (m1 : m ≤ 1000) : ∃ xs : List Int, xs.length = m.toNat ∧ (∀ x ∈ xs, r6 x) ∧ F__law_row [.list (ns.map .int), .int a, .int m] = some (.list (xs.map .int)) := by
 have rr : qRng1 (some [.int m]) = some (rngD 0 m) := rng1 (by omega) (by omega)
 obtain ⟨xs, l1, h1, e⟩ := cEx (g := (gNl 0)) (c := (D3.tYes)) (e := (dCall F__law_part (dCons (dVar 1) (dCons (dVar 2) (dCons (dVar 0) (dCons (dOp gPow (dC (.int 10)) (dC (.int 6))) (dNil))))))) (δ := [none, some (.d (.list (ns.map .int))), some (.d (.int a))]) PyData.int r6 (rngD 0 m) fun d hd => by
  obtain ⟨k, hk, rfl⟩ := rng_mem hd
  refine ⟨[some (.d (.int (k : Int))), some (.d (.list (ns.map .int))), some (.d (.int a))], partF ns a (k : Int) (10 ^ 6), rfl, rfl, by have := partF_range ns a (k : Int) (m := 10 ^ 6) (by decide); unfold r6; omega, ?_⟩
  simp only [EV, reduceIte, reduceAdd, reduceLT, reduceLeDiff, reduceEqDiff, reduceEq, Int.reduceLT, reduceLE, pow6, part_spec (ns := ns) (i := a) (k := (k : Int)) (m := 10 ^ 6) h0 (by omega) (by omega) (by decide)]
 have ca : ∀ a b c : U, capD 1 [0, 1] [some a, some b, some c] = [none, some a, some b] := fun _ _ _ => rfl
 unfold F__law_row
 refine ⟨xs, by rw [l1, rng_len], h1, ?_⟩
 simp only [EV, reduceIte, reduceAdd, reduceLT, reduceLeDiff, reduceEqDiff, reduceEq, Int.reduceLT, reduceLE, rr, ca, e, rng_len, show m.toNat ≤ 100000 by omega]
theorem len5 {xs : List Int} (h : xs.length = 5) : ∃ a b c d e, xs = [a, b, c, d, e] := by
 match xs, h with
 | [a, b, c, d, e], _ => exact ⟨a, b, c, d, e, rfl⟩
theorem len7 {xs : List Int} (h : xs.length = 7) : ∃ a b c d e f g, xs = [a, b, c, d, e, f, g] := by
 match xs, h with
 | [a, b, c, d, e, f, g], _ => exact ⟨a, b, c, d, e, f, g, rfl⟩
theorem row5 (ns : List Int) {a : Int} (h0 : 0 ≤ a) : ∃ x0 x1 x2 x3 x4, r6 x0 ∧ r6 x1 ∧ r6 x2 ∧ r6 x3 ∧ r6 x4 ∧ F__law_row [.list (ns.map .int), .int a, .int 5] = some (.list [.int x0, .int x1, .int x2, .int x3, .int x4]) := by
 obtain ⟨xs, hl, hb, e⟩ := row_spec ns h0 (m := 5) (by decide) (by decide)
 obtain ⟨x0, x1, x2, x3, x4, rfl⟩ := len5 hl
 exact ⟨x0, x1, x2, x3, x4, hb _ (by simp), hb _ (by simp), hb _ (by simp), hb _ (by simp), hb _ (by simp), e⟩
theorem row7 (ns : List Int) {a : Int} (h0 : 0 ≤ a) : ∃ x0 x1 x2 x3 x4 x5 x6, r6 x0 ∧ r6 x1 ∧ r6 x2 ∧ r6 x3 ∧ r6 x4 ∧ r6 x5 ∧ r6 x6 ∧ F__law_row [.list (ns.map .int), .int a, .int 7] = some (.list [.int x0, .int x1, .int x2, .int x3, .int x4, .int x5, .int x6]) := by
 obtain ⟨xs, hl, hb, e⟩ := row_spec ns h0 (m := 7) (by decide) (by decide)
 obtain ⟨x0, x1, x2, x3, x4, x5, x6, rfl⟩ := len7 hl
 exact ⟨x0, x1, x2, x3, x4, x5, x6, hb _ (by simp), hb _ (by simp), hb _ (by simp), hb _ (by simp), hb _ (by simp), hb _ (by simp), hb _ (by simp), e⟩
theorem pAt_ints' {xs : List Int} {i : Int} (h0 : 0 ≤ i) (h1 : i < xs.length) : ∃ x ∈ xs, pAt (xs.map PyData.int) i = some (.int x) := pAt_map PyData.int h0 h1
theorem free_spec (ns : List Int) {n : Int} (n0 : 1 ≤ n) (n1 : n ≤ 100) : ∃ fs : List Int, fs.length = n.toNat ∧ (∀ f ∈ fs, 0 ≤ f ∧ f ≤ 12) ∧ F__law_free [.list (ns.map .int), .int n] = some (.list (fs.map .int)) := by
 obtain ⟨x0, x1, x2, x3, x4, b0, b1, b2, b3, b4, ex⟩ := row5 ns (a := 1) (by decide)
 obtain ⟨ys, yl, yb, ey⟩ := row_spec ns (a := 60) (m := n) (by decide) (by omega) (by omega)
 have rr : qRng1 (some [.int n]) = some (rngD 0 n) := rng1 (by omega) (by omega)
 have hw := modR (i := x0) (j := 4) (by decide)
 have cw : x0 % 4 = 0 ∨ x0 % 4 = 1 ∨ x0 % 4 = 2 ∨ x0 % 4 = 3 := by omega
 unfold F__law_free
 rcases cw with c | c | c | c
 ·have m1 := modR (i := x1) (j := 3) (by decide)
  refine ⟨List.replicate n.toNat (1 + x1 % 3), List.length_replicate, fun f hf => ?_, ?_⟩
  ·rw [List.eq_of_mem_replicate hf]; omega
  ·simp only [EV, reduceIte, reduceAdd, reduceLT, reduceLeDiff, reduceEqDiff, reduceEq, Int.reduceLT, reduceLE, ex, ey, modP (show (0 : Int) < 4 by decide), c, modP (show (0 : Int) < 3 by decide), at1, sz (show 1 ≤ 1000000 by decide), rep_ints (v := 1 + x1 % 3) (k := n) (by omega) (by omega), flats_ints]
 ·obtain ⟨fs, fl, fb, ef⟩ := cEx (g := (gNl 0)) (c := (D3.tYes)) (e := (dOp gMod (dOp gIx (dVar 1) (dVar 0)) (dC (.int 3)))) (δ := [none, some (.d (.list (ys.map .int)))]) PyData.int (fun f => 0 ≤ f ∧ f ≤ 12) (rngD 0 n) fun d hd => by
   obtain ⟨k, hk, rfl⟩ := rng_mem hd
   obtain ⟨y, hy, py⟩ := pAt_ints' (xs := ys) (i := (k : Int)) (by omega) (by omega)
   have := modR (i := y) (j := 3) (by decide)
   refine ⟨[some (.d (.int (k : Int))), some (.d (.list (ys.map .int)))], y % 3, rfl, rfl, by omega, ?_⟩
   simp only [EV, reduceIte, reduceAdd, reduceLT, reduceLeDiff, reduceEqDiff, reduceEq, Int.reduceLT, reduceLE, py, modP (show (0 : Int) < 3 by decide)]
  have ca : ∀ a b c d e f : Option U, capD 1 [3] [a, b, c, d, e, f] = [none, d] := fun _ _ _ _ _ _ => rfl
  refine ⟨fs, by rw [fl, rng_len], fb, ?_⟩
  simp only [EV, reduceIte, reduceAdd, reduceLT, reduceLeDiff, reduceEqDiff, reduceEq, Int.reduceLT, reduceLE, ex, ey, modP (show (0 : Int) < 4 by decide), c, rr, ca, ef, rng_len, show n.toNat ≤ 100000 by omega, sz (show 1 ≤ 1000000 by decide)]
 ·obtain ⟨fs, fl, fb, ef⟩ := cEx (g := (gNl 0)) (c := (D3.tYes)) (e := (dFlat (dOp gIx (dLst (dCons (dC (.int 0)) (dCons (dC (.int 1)) (dCons (dC (.int 2)) (dCons (dC (.int 5)) (dCons (dC (.int 11)) (dCons (dC (.int 12)) (dNil)))))))) (dOp gMod (dOp gIx (dVar 1) (dVar 0)) (dC (.int 6)))))) (δ := [none, some (.d (.list (ys.map .int)))]) PyData.int (fun f => 0 ≤ f ∧ f ≤ 12) (rngD 0 n) fun d hd => by
   obtain ⟨k, hk, rfl⟩ := rng_mem hd
   obtain ⟨y, hy, py⟩ := pAt_ints' (xs := ys) (i := (k : Int)) (by omega) (by omega)
   have := modR (i := y) (j := 6) (by decide)
   obtain ⟨v, hv, pv⟩ := pAt_ints' (xs := [0, 1, 2, 5, 11, 12]) (i := y % 6) (by omega) (by simp only [List.length_cons, List.length_nil]; omega)
   refine ⟨[some (.d (.int (k : Int))), some (.d (.list (ys.map .int)))], v, rfl, rfl, by simp at hv; omega, ?_⟩
   simp only [EV, reduceIte, reduceAdd, reduceLT, reduceLeDiff, reduceEqDiff, reduceEq, Int.reduceLT, reduceLE, py, modP (show (0 : Int) < 6 by decide), sz (show 6 ≤ 1000000 by decide)]
   simp only [List.map_cons, List.map_nil] at pv
   rw [pv]
   simp only [EV, reduceIte, reduceAdd, reduceLT, reduceLeDiff, reduceEqDiff, reduceEq, Int.reduceLT, reduceLE]
  have ca : ∀ a b c d e f : Option U, capD 1 [3] [a, b, c, d, e, f] = [none, d] := fun _ _ _ _ _ _ => rfl
  refine ⟨fs, by rw [fl, rng_len], fb, ?_⟩
  simp only [EV, reduceIte, reduceAdd, reduceLT, reduceLeDiff, reduceEqDiff, reduceEq, Int.reduceLT, reduceLE, ex, ey, modP (show (0 : Int) < 4 by decide), c, rr, ca, ef, rng_len, show n.toNat ≤ 100000 by omega, sz (show 1 ≤ 1000000 by decide)]
 ·have m2 := modR (i := x2) (j := n + 1) (by omega)
  have m3 := modR (i := x3) (j := 4) (by decide)
  have m4 := modR (i := x4) (j := 4) (by decide)
  refine ⟨List.replicate (x2 % (n + 1)).toNat (x3 % 4) ++ List.replicate (n - x2 % (n + 1)).toNat (x4 % 4), by simp; omega, fun f hf => ?_, ?_⟩
  ·rcases List.mem_append.mp hf with z | z <;> rw [List.eq_of_mem_replicate z] <;> omega
  ·simp only [EV, reduceIte, reduceAdd, reduceLT, reduceLeDiff, reduceEqDiff, reduceEq, Int.reduceLT, reduceLE, ex, ey, modP (show (0 : Int) < 4 by decide), c, at2, at3, at4, modP (show (0 : Int) < n + 1 by omega), sz (show 1 ≤ 1000000 by decide), rep_ints (v := x3 % 4) (k := x2 % (n + 1)) (by omega) (by omega), rep_ints (v := x4 % 4) (k := n - x2 % (n + 1)) (by omega) (by omega)]
   rw [if_pos (by simp only [List.length_map, List.length_replicate]; omega), ← List.map_append]
   simp only [EV, reduceIte, reduceAdd, reduceLT, reduceLeDiff, reduceEqDiff, reduceEq, Int.reduceLT, reduceLE, flats_ints]
abbrev Wi := Int × Int × Int
def wiD (w : Wi) : D := .tuple [.int w.1, .int w.2.1, .int w.2.2]
def wiOk (n : Int) (w : Wi) : Prop := 0 ≤ w.1 ∧ w.1 < w.2.1 ∧ w.2.1 ≤ n ∧ 0 ≤ w.2.2 ∧ w.2.2 ≤ 1000000000
theorem wi_ly (w : Wi) : ly 3 (wiD w) := ly_tup (lys_cons ly_int (lys_cons ly_int (lys_cons ly_int lys_nil)))
theorem wis_ly (ws : List Wi) : ly 60 (.list (ws.map wiD)) := ly_le (ly_list (lys_map wiD wi_ly ws)) (by decide)
theorem wishes_step (ns : List Int) {n : Int} (n0 : 1 ≤ n) (n1 : n ≤ 100) {m : D} {i : Nat} (ws : List Wi) (hl : ws.length ≤ 1000) (hw : ∀ w ∈ ws, wiOk n w) (y5 y6 y7 y8 : Option U) :
 ∃ w, wiOk n w ∧ ∃ z5 z6 z7 z8, (sSeq (sSetl 5 (dCall F__law_row (dCons (dVar 0) (dCons (dOp gAdd (dC (.int 4)) (dVar 4)) (dCons (dC (.int 7)) (dNil)))))) (sSeq (sSetl 6 (dOp gMod (dOp gIx (dVar 5) (dC (.int 0))) (dVar 1))) (sSeq (sSetl 7 (dCall gMin2 (dCons (dVar 1) (dCons (dOp gAdd (dOp gAdd (dVar 6) (dC (.int 1))) (dOp gMod (dOp gIx (dVar 5) (dC (.int 1))) (dOp gIx (dLst (dCons (dC (.int 3)) (dCons (dVar 1) (dNil)))) (dOp gMod (dOp gIx (dVar 5) (dC (.int 2))) (dC (.int 2)))))) (dNil))))) (sSeq (sSetl 8 (dLst (dCons (dOp gMod (dOp gIx (dVar 5) (dC (.int 3))) (dC (.int 10))) (dCons (dOp gMul (dC (.int 5)) (dOp gSub (dVar 7) (dVar 6))) (dCons (dOp gMod (dOp gAdd (dOp gMul (dOp gIx (dVar 5) (dC (.int 3))) (dOp gPow (dC (.int 10)) (dC (.int 6)))) (dOp gIx (dVar 5) (dC (.int 6)))) (dOp gAdd (dOp gPow (dC (.int 10)) (dC (.int 9))) (dC (.int 1)))) (dNil)))))) (sSeq (sSetl 8 (dOp gCat (dVar 8) (dLst (dCons (dOp gPow (dC (.int 10)) (dC (.int 9))) (dCons (dOp gAdd (dC (.int 1)) (dOp gMod (dOp gIx (dVar 5) (dC (.int 3))) (dC (.int 100)))) (dNil)))))) (sIf (D3.tAnd (tBool (dOp gEq (dOp gMod (dOp gIx (dVar 5) (dC (.int 5))) (dC (.int 5))) (dC (.int 0)))) (tBool (dOp gNe (dVar 3) (dLst (dNil))))) (sApp 3 (dOp gIx (dVar 3) (dOp gMod (dOp gIx (dVar 5) (dC (.int 3))) (dCall gLen (dCons (dVar 3) (dNil)))))) (sApp 3 (dTup (dCons (dVar 6) (dCons (dVar 7) (dCons (dOp gIx (dVar 8) (dOp gMod (dOp gIx (dVar 5) (dC (.int 4))) (dC (.int 5)))) (dNil)))))))))))) [some (.d (.list (ns.map .int))), some (.d (.int n)), some (.d m), some (.d (.list (ws.map wiD))), some (.d (.int (i : Int))), y5, y6, y7, y8] =
  some (.nx [some (.d (.list (ns.map .int))), some (.d (.int n)), some (.d m), some (.d (.list ((ws ++ [w]).map wiD))), some (.d (.int (i : Int))), z5, z6, z7, z8]) := by
 obtain ⟨x0, x1, x2, x3, x4, x5, x6, b0, b1, b2, b3, b4, b5, b6, ex⟩ := row7 ns (a := 4 + (i : Int)) (by omega)
 have m0 := modR (i := x0) (j := n) (by omega)
 have m2 := modR (i := x2) (j := 2) (by decide)
 have m3 := modR (i := x3) (j := 10) (by decide)
 have m3' := modR (i := x3) (j := 100) (by decide)
 have m4 := modR (i := x4) (j := 5) (by decide)
 have m5 := modR (i := x5) (j := 5) (by decide)
 have m6 := modR (i := x3 * 1000000 + x6) (j := 1000000001) (by decide)
 have mg : gMul (.int x3) (.int 1000000) = some (.int (x3 * 1000000)) := mulR (by decide) (by decide)
 obtain ⟨v, hv, ev⟩ : ∃ v, 0 < v ∧ pAt [PyData.int 3, PyData.int n] (x2 % 2) = some (.int v) := by
  have : x2 % 2 = 0 ∨ x2 % 2 = 1 := by omega
  rcases this with e | e
  ·exact ⟨3, by decide, by rw [e]; exact at0⟩
  ·exact ⟨n, by omega, by rw [e]; exact at1⟩
 have m1 := modR (i := x1) (j := v) hv
 obtain ⟨b, hb, hb2, eb⟩ : ∃ b, x0 % n < b ∧ b ≤ n ∧ gMin2 [.int n, .int (x0 % n + 1 + x1 % v)] = some (.int b) := by
  refine ⟨if x0 % n + 1 + x1 % v < n then x0 % n + 1 + x1 % v else n, ?_, ?_, rfl⟩ <;> split <;> omega
 have mb : gMul (.int 5) (.int (b - x0 % n)) = some (.int (5 * (b - x0 % n))) := mulL (by decide) (by decide)
 obtain ⟨s, hs, es⟩ : ∃ s, (0 ≤ s ∧ s ≤ 1000000000) ∧ pAt [PyData.int (x3 % 10), .int (5 * (b - x0 % n)), .int ((x3 * 1000000 + x6) % 1000000001), .int 1000000000, .int (1 + x3 % 100)] (x4 % 5) = some (.int s) := by
  have : x4 % 5 = 0 ∨ x4 % 5 = 1 ∨ x4 % 5 = 2 ∨ x4 % 5 = 3 ∨ x4 % 5 = 4 := by omega
  rcases this with e | e | e | e | e <;> rw [e]
  ·exact ⟨_, by omega, at0⟩
  ·exact ⟨_, by omega, at1⟩
  ·exact ⟨_, by omega, at2⟩
  ·exact ⟨_, by omega, at3⟩
  ·exact ⟨_, by omega, at4⟩
 by_cases c : x5 % 5 = 0 ∧ ws ≠ []
 ·have hp : 0 < (ws.length : Int) := by
   have := List.length_pos_iff.mpr c.2
   omega
  have ml := modR (i := x3) (j := (ws.length : Int)) hp
  obtain ⟨w, hwm, ew⟩ := pAt_map wiD (l := ws) (i := x3 % (ws.length : Int)) (by omega) (by omega)
  refine ⟨w, hw w hwm, some (.d (.list [.int x0, .int x1, .int x2, .int x3, .int x4, .int x5, .int x6])), some (.d (.int (x0 % n))), some (.d (.int b)), some (.d (.list [.int (x3 % 10), .int (5 * (b - x0 % n)), .int ((x3 * 1000000 + x6) % 1000000001), .int 1000000000, .int (1 + x3 % 100)])), ?_⟩
  simp only [EV, reduceIte, reduceAdd, reduceLT, reduceLeDiff, reduceEqDiff, reduceEq, Int.reduceLT, reduceLE, ex, modP (show (0 : Int) < n by omega), at1, at2, at3, at4, at5, at6, modP (show (0 : Int) < 2 by decide), sz (show 2 ≤ 1000000 by decide), ev, modP hv, eb, modP (show (0 : Int) < 10 by decide), mb, pow6', mg, pow9, modP (show (0 : Int) < 1000000001 by decide), sz (show 3 ≤ 1000000 by decide), modP (show (0 : Int) < 100 by decide), modP (show (0 : Int) < 5 by decide), c.1, Nat.zero_le, ne_nil (wis_ly ws), List.isEmpty_map, show ws.isEmpty = false by cases ws with | nil => exact absurd rfl c.2 | cons _ _ => rfl, lMp, modP hp, ew, show ws.length < 1000000 by omega, Int.reduceAdd]
  rw [List.map_append]
  rfl
 ·refine ⟨(x0 % n, b, s), ⟨m0.1, hb, hb2, hs⟩, some (.d (.list [.int x0, .int x1, .int x2, .int x3, .int x4, .int x5, .int x6])), some (.d (.int (x0 % n))), some (.d (.int b)), some (.d (.list [.int (x3 % 10), .int (5 * (b - x0 % n)), .int ((x3 * 1000000 + x6) % 1000000001), .int 1000000000, .int (1 + x3 % 100)])), ?_⟩
  by_cases c5 : x5 % 5 = 0
  ·have cw : ws = [] := Classical.byContradiction fun z => c ⟨c5, z⟩
   subst cw
   simp only [EV, reduceIte, reduceAdd, reduceLT, reduceLeDiff, reduceEqDiff, reduceEq, Int.reduceLT, reduceLE, ex, modP (show (0 : Int) < n by omega), at1, at2, at3, at4, at5, at6, modP (show (0 : Int) < 2 by decide), sz (show 2 ≤ 1000000 by decide), ev, modP hv, eb, modP (show (0 : Int) < 10 by decide), mb, pow6', mg, pow9, modP (show (0 : Int) < 1000000001 by decide), sz (show 3 ≤ 1000000 by decide), modP (show (0 : Int) < 100 by decide), modP (show (0 : Int) < 5 by decide), c5, Nat.zero_le, show gNe (.list []) (.list []) = some (.bool false) from rfl, List.isEmpty_nil, es, Int.reduceAdd]
   rfl
  ·simp only [EV, reduceIte, reduceAdd, reduceLT, reduceLeDiff, reduceEqDiff, reduceEq, Int.reduceLT, reduceLE, ex, modP (show (0 : Int) < n by omega), at1, at2, at3, at4, at5, at6, modP (show (0 : Int) < 2 by decide), sz (show 2 ≤ 1000000 by decide), ev, modP hv, eb, modP (show (0 : Int) < 10 by decide), mb, pow6', mg, pow9, modP (show (0 : Int) < 1000000001 by decide), sz (show 3 ≤ 1000000 by decide), modP (show (0 : Int) < 100 by decide), modP (show (0 : Int) < 5 by decide), dFa c5, es, lMp, show ws.length < 1000000 by omega, Int.reduceAdd]
   rw [List.map_append]
   rfl
theorem wishes_spec (ns : List Int) {n m : Int} (n0 : 1 ≤ n) (n1 : n ≤ 100) (m0 : 0 ≤ m) (m1 : m ≤ 1000) : ∃ ws : List Wi, ws.length = m.toNat ∧ (∀ w ∈ ws, wiOk n w) ∧ F__law_wishes [.list (ns.map .int), .int n, .int m] = some (.list (ws.map wiD)) := by
 unfold F__law_wishes
 simp only [EV, reduceIte, reduceAdd, reduceLT, reduceLeDiff, reduceEqDiff, reduceEq, Int.reduceLT, reduceLE, Nat.zero_le]
 rw [rng1 (by omega) (by omega)]
 simp only [EV, reduceIte, reduceAdd, reduceLT, reduceLeDiff, reduceEqDiff, reduceEq, Int.reduceLT, reduceLE]
 obtain ⟨δ', e, ws, hl, hw, y4, y5, y6, y7, y8, rfl⟩ := for_inv (g := (gNl 4)) (b := (sSeq (sSetl 5 (dCall F__law_row (dCons (dVar 0) (dCons (dOp gAdd (dC (.int 4)) (dVar 4)) (dCons (dC (.int 7)) (dNil)))))) (sSeq (sSetl 6 (dOp gMod (dOp gIx (dVar 5) (dC (.int 0))) (dVar 1))) (sSeq (sSetl 7 (dCall gMin2 (dCons (dVar 1) (dCons (dOp gAdd (dOp gAdd (dVar 6) (dC (.int 1))) (dOp gMod (dOp gIx (dVar 5) (dC (.int 1))) (dOp gIx (dLst (dCons (dC (.int 3)) (dCons (dVar 1) (dNil)))) (dOp gMod (dOp gIx (dVar 5) (dC (.int 2))) (dC (.int 2)))))) (dNil))))) (sSeq (sSetl 8 (dLst (dCons (dOp gMod (dOp gIx (dVar 5) (dC (.int 3))) (dC (.int 10))) (dCons (dOp gMul (dC (.int 5)) (dOp gSub (dVar 7) (dVar 6))) (dCons (dOp gMod (dOp gAdd (dOp gMul (dOp gIx (dVar 5) (dC (.int 3))) (dOp gPow (dC (.int 10)) (dC (.int 6)))) (dOp gIx (dVar 5) (dC (.int 6)))) (dOp gAdd (dOp gPow (dC (.int 10)) (dC (.int 9))) (dC (.int 1)))) (dNil)))))) (sSeq (sSetl 8 (dOp gCat (dVar 8) (dLst (dCons (dOp gPow (dC (.int 10)) (dC (.int 9))) (dCons (dOp gAdd (dC (.int 1)) (dOp gMod (dOp gIx (dVar 5) (dC (.int 3))) (dC (.int 100)))) (dNil)))))) (sIf (D3.tAnd (tBool (dOp gEq (dOp gMod (dOp gIx (dVar 5) (dC (.int 5))) (dC (.int 5))) (dC (.int 0)))) (tBool (dOp gNe (dVar 3) (dLst (dNil))))) (sApp 3 (dOp gIx (dVar 3) (dOp gMod (dOp gIx (dVar 5) (dC (.int 3))) (dCall gLen (dCons (dVar 3) (dNil)))))) (sApp 3 (dTup (dCons (dVar 6) (dCons (dVar 7) (dCons (dOp gIx (dVar 8) (dOp gMod (dOp gIx (dVar 5) (dC (.int 4))) (dC (.int 5)))) (dNil)))))))))))))
  (fun i δ => ∃ ws : List Wi, ws.length = i ∧ (∀ w ∈ ws, wiOk n w) ∧ ∃ y4 y5 y6 y7 y8, δ = [some (.d (.list (ns.map .int))), some (.d (.int n)), some (.d (.int m)), some (.d (.list (ws.map wiD))), y4, y5, y6, y7, y8]) (rngD 0 m)
  [some (.d (.list (ns.map .int))), some (.d (.int n)), some (.d (.int m)), some (.d (.list [])), none, none, none, none, none] ⟨[], rfl, by simp, none, none, none, none, none, rfl⟩ (by
   rintro i d δ hd ⟨ws, hl, hw, y4, y5, y6, y7, y8, rfl⟩
   obtain ⟨hi, rfl⟩ := rng_at hd
   obtain ⟨w, ow, z5, z6, z7, z8, ew⟩ := wishes_step ns n0 n1 (m := .int m) (i := i) ws (by omega) hw y5 y6 y7 y8
   refine ⟨_, _, rfl, .inl ew, ws ++ [w], by simp [hl], fun x hx => ?_, _, _, _, _, _, rfl⟩
   rcases List.mem_append.mp hx with z | z
   ·exact hw x z
   ·rw [List.mem_singleton.mp z]; exact ow)
 rw [e]
 refine ⟨ws, by rw [hl, rng_len], hw, ?_⟩
 simp only [EV, reduceIte, reduceAdd, reduceLT, reduceLeDiff, reduceEqDiff, reduceEq, Int.reduceLT, reduceLE, flats_all wiD (fun _ => rfl)]
abbrev Pr := Int × Int
def prD (p : Pr) : D := .tuple [.int p.1, .int p.2]
def prOk (n : Int) (p : Pr) : Prop := 0 ≤ p.1 ∧ p.1 < n ∧ 1 ≤ p.2 ∧ p.2 ≤ 10 ^ 40
theorem pr_ly (w : Pr) : ly 3 (prD w) := ly_tup (lys_cons ly_int (lys_cons ly_int lys_nil))
theorem prices_spec (ns : List Int) {a : Int} (h0 : 0 ≤ a) {fs : List D} {n : Nat} (hn : fs.length = n) (n1 : n ≤ 100) : ∃ ps : List Pr, ps.length ≤ n ∧ (∀ p ∈ ps, prOk (n : Int) p) ∧ F__law_prices [.list (ns.map .int), .int a, .list fs] = some (.list (ps.map prD)) := by
 obtain ⟨xs, xl, xb, ex⟩ := row_spec ns (a := a) (m := 3 * (n : Int)) h0 (by omega) (by omega)
 have mm : ∀ j : Int, gMul (.int 3) (.int j) = some (.int (3 * j)) := fun j => mulL (by decide) (by decide)
 have rr : qRng1 (some [.int (n : Int)]) = some (rngD 0 (n : Int)) := rng1 (by omega) (by omega)
 have p7 : ∀ x : Int, 0 ≤ x → x < 1000000000000 → gPow (.int x) (.int 7) = some (.int (x ^ 7)) := fun x h1 h2 => by
  show (if powG x 7 = true then some (PyData.int (x ^ (7 : Int).toNat)) else none) = _
  rw [if_pos (by unfold powG; rw [dTr (show x.natAbs < 2 ^ 64 by omega)]; rfl)]
  rfl
 unfold F__law_prices
 simp only [EV, reduceIte, reduceAdd, reduceLT, reduceLeDiff, reduceEqDiff, reduceEq, Int.reduceLT, reduceLE, hn, mm, ex, Nat.zero_le, rr]
 obtain ⟨δ', e, ps, hl, hp, y5, y6, y7, rfl⟩ := for_inv (g := (gNl 5)) (b := (sIf (tBool (dOp gGt (dOp gMod (dOp gIx (dVar 3) (dOp gMul (dC (.int 3)) (dVar 5))) (dC (.int 3))) (dC (.int 0)))) (sSeq (sSetl 6 (dOp gAdd (dOp gMul (dOp gIx (dVar 3) (dOp gAdd (dOp gMul (dC (.int 3)) (dVar 5)) (dC (.int 1)))) (dOp gPow (dC (.int 10)) (dC (.int 6)))) (dOp gIx (dVar 3) (dOp gAdd (dOp gMul (dC (.int 3)) (dVar 5)) (dC (.int 2)))))) (sSeq (sSetl 7 (dLst (dCons (dC (.int 1)) (dCons (dOp gAdd (dC (.int 1)) (dOp gMod (dVar 6) (dC (.int 9)))) (dCons (dOp gPow (dC (.int 10)) (dC (.int 9))) (dCons (dOp gAdd (dC (.int 1)) (dOp gMod (dVar 6) (dOp gPow (dC (.int 10)) (dC (.int 9))))) (dCons (dOp gAdd (dC (.int 1)) (dOp gMod (dOp gPow (dVar 6) (dC (.int 7))) (dOp gPow (dC (.int 10)) (dC (.int 40))))) (dNil)))))))) (sApp 4 (dTup (dCons (dVar 5) (dCons (dOp gIx (dVar 7) (dOp gMod (dOp gDiv (dVar 6) (dC (.int 7))) (dC (.int 5)))) (dNil))))))) (sNil)))
  (fun i δ => ∃ ps : List Pr, ps.length ≤ i ∧ (∀ p ∈ ps, prOk (n : Int) p) ∧ ∃ y5 y6 y7, δ = [some (.d (.list (ns.map .int))), some (.d (.int a)), some (.d (.list fs)), some (.d (.list (xs.map .int))), some (.d (.list (ps.map prD))), y5, y6, y7]) (rngD 0 (n : Int))
  [some (.d (.list (ns.map .int))), some (.d (.int a)), some (.d (.list fs)), some (.d (.list (xs.map .int))), some (.d (.list [])), none, none, none] ⟨[], by simp, by simp, none, none, none, rfl⟩ (by
   rintro i d δ hd ⟨ps, hl, hp, y5, y6, y7, rfl⟩
   obtain ⟨hi, rfl⟩ := rng_at hd
   obtain ⟨u0, hu0, e0⟩ := pAt_ints' (xs := xs) (i := 3 * (i : Int)) (by omega) (by omega)
   obtain ⟨u1, hu1, e1⟩ := pAt_ints' (xs := xs) (i := 3 * (i : Int) + 1) (by omega) (by omega)
   obtain ⟨u2, hu2, e2⟩ := pAt_ints' (xs := xs) (i := 3 * (i : Int) + 2) (by omega) (by omega)
   have b0 := xb _ hu0
   have b1 := xb _ hu1
   have b2 := xb _ hu2
   unfold r6 at b0 b1 b2
   have m0 := modR (i := u0) (j := 3) (by decide)
   by_cases c : 0 < u0 % 3
   ·have mg : gMul (.int u1) (.int 1000000) = some (.int (u1 * 1000000)) := mulR (by decide) (by decide)
    have hx : 0 ≤ u1 * 1000000 + u2 ∧ u1 * 1000000 + u2 < 1000000000000 := by omega
    generalize hX : u1 * 1000000 + u2 = X at hx
    have k1 := modR (i := X) (j := 9) (by decide)
    have k2 := modR (i := X) (j := 1000000000) (by decide)
    have k3 := modR (i := X ^ 7) (j := 10 ^ 40) (by decide)
    have k4 := modR (i := X / 7) (j := 5) (by decide)
    obtain ⟨s, hs, es⟩ : ∃ s, (1 ≤ s ∧ s ≤ 10 ^ 40) ∧ pAt [PyData.int 1, .int (1 + X % 9), .int 1000000000, .int (1 + X % 1000000000), .int (1 + X ^ 7 % 10 ^ 40)] (X / 7 % 5) = some (.int s) := by
     have : X / 7 % 5 = 0 ∨ X / 7 % 5 = 1 ∨ X / 7 % 5 = 2 ∨ X / 7 % 5 = 3 ∨ X / 7 % 5 = 4 := by omega
     rcases this with e | e | e | e | e <;> rw [e]
     ·exact ⟨_, by omega, at0⟩
     ·exact ⟨_, by omega, at1⟩
     ·exact ⟨_, by omega, at2⟩
     ·exact ⟨_, by omega, at3⟩
     ·exact ⟨_, by omega, at4⟩
    refine ⟨_, _, rfl, .inl ?_, ps ++ [((i : Int), s)], by simp; omega, fun x hx => ?_, some (.d (.int (i : Int))), some (.d (.int X)), some (.d (.list [.int 1, .int (1 + X % 9), .int 1000000000, .int (1 + X % 1000000000), .int (1 + X ^ 7 % 10 ^ 40)])), rfl⟩
    ·simp only [EV, reduceIte, reduceAdd, reduceLT, reduceLeDiff, reduceEqDiff, reduceEq, Int.reduceLT, reduceLE, mm, e0, modP (show (0 : Int) < 3 by decide), dTr c, e1, pow6', mg, e2, hX, modP (show (0 : Int) < 9 by decide), pow9, modP (show (0 : Int) < 1000000000 by decide), p7 X hx.1 hx.2, pow40, modP (show (0 : Int) < 10 ^ 40 by decide), sz (show 5 ≤ 1000000 by decide), divP (show (0 : Int) < 7 by decide) (show (7 : Int) < 18446744073709551616 by decide), modP (show (0 : Int) < 5 by decide), es, sz (show 2 ≤ 1000000 by decide), lMp, show ps.length < 1000000 by omega]
     rw [List.map_append]
     rfl
    ·rcases List.mem_append.mp hx with z | z
     ·exact hp x z
     ·rw [List.mem_singleton.mp z]
      exact ⟨by show (0 : Int) ≤ i; omega, hi, hs.1, hs.2⟩
   ·refine ⟨_, _, rfl, .inl ?_, ps, by omega, hp, some (.d (.int (i : Int))), y6, y7, rfl⟩
    simp only [EV, reduceIte, reduceAdd, reduceLT, reduceLeDiff, reduceEqDiff, reduceEq, Int.reduceLT, reduceLE, mm, e0, modP (show (0 : Int) < 3 by decide), dFa c])
 rw [e]
 refine ⟨ps, by rw [rng_len] at hl; omega, hp, ?_⟩
 simp only [EV, reduceIte, reduceAdd, reduceLT, reduceLeDiff, reduceEqDiff, reduceEq, Int.reduceLT, reduceLE, flats_all prD (fun _ => rfl)]
end Com
namespace Com
open PySem D3 My
def costI (ps : List Pr) (a b : Int) : Int := ((ps.filter fun p => decide (a ≤ p.1) && decide (p.1 < b)).map (·.2)).sum
theorem cost_spec {ps : List Pr} (hl : ps.length ≤ 1000) (a b : Int) : F_cost [.list (ps.map prD), .int a, .int b] = some (.int (costI ps a b)) := by
 have C := cFil (g := (gTn 2 (gsCons (gNl 0) (gsCons (gNl 1) (gsNil))))) (c := (tBool (dChain gLe gLt (dVar 2) (dVar 0) (dVar 3)))) (e := (dFlat (dVar 1))) (δ := [none, none, some (.d (.int a)), some (.d (.int b))]) prD (fun p => decide (a ≤ p.1) && decide (p.1 < b)) (fun p => .int p.2) ps (fun s _ => by
  refine ⟨[some (.d (.int s.1)), some (.d (.int s.2)), some (.d (.int a)), some (.d (.int b))], rfl, ?_, fun _ => rfl⟩
  by_cases c : a ≤ s.1
  ·simp only [EV, reduceIte, reduceAdd, reduceLT, reduceLeDiff, reduceEqDiff, reduceEq, Int.reduceLT, reduceLE, dTr c, Bool.true_and]
  ·simp only [EV, reduceIte, reduceAdd, reduceLT, reduceLeDiff, reduceEqDiff, reduceEq, Int.reduceLT, reduceLE, dFa c, Bool.false_and])
 have ca : ∀ a b c : Option U, capD 2 [1, 2] [a, b, c] = [none, none, b, c] := fun _ _ _ => rfl
 unfold F_cost
 simp only [EV, reduceIte, reduceAdd, reduceLT, reduceLeDiff, reduceEqDiff, reduceEq, Int.reduceLT, reduceLE, lMp, show ps.length ≤ 100000 by omega, ca, C]
 unfold costI
 rw [show ((ps.filter fun p => decide (a ≤ p.1) && decide (p.1 < b)).map fun p => PyData.int p.2) = ((ps.filter fun p => decide (a ≤ p.1) && decide (p.1 < b)).map (·.2)).map .int by rw [List.map_map]; rfl, n_sum]
 simp only [EV, reduceIte, reduceAdd, reduceLT, reduceLeDiff, reduceEqDiff, reduceEq, Int.reduceLT, reduceLE]
theorem law_cost_spec {ps : List Pr} (hl : ps.length ≤ 1000) (a b : Int) : F__law_cost [.list (ps.map prD), .int a, .int b] = some (.int (costI ps a b)) := by
 have C := cFil (g := (gTn 2 (gsCons (gNl 0) (gsCons (gNl 1) (gsNil))))) (c := (D3.tAnd (tBool (dOp gLe (dVar 2) (dVar 0))) (tBool (dOp gLt (dVar 0) (dVar 3))))) (e := (dFlat (dVar 1))) (δ := [none, none, some (.d (.int a)), some (.d (.int b))]) prD (fun p => decide (a ≤ p.1) && decide (p.1 < b)) (fun p => .int p.2) ps (fun s _ => by
  refine ⟨[some (.d (.int s.1)), some (.d (.int s.2)), some (.d (.int a)), some (.d (.int b))], rfl, ?_, fun _ => rfl⟩
  by_cases c : a ≤ s.1
  ·simp only [EV, reduceIte, reduceAdd, reduceLT, reduceLeDiff, reduceEqDiff, reduceEq, Int.reduceLT, reduceLE, dTr c, Bool.true_and]
  ·simp only [EV, reduceIte, reduceAdd, reduceLT, reduceLeDiff, reduceEqDiff, reduceEq, Int.reduceLT, reduceLE, dFa c, Bool.false_and])
 have ca : ∀ a b c : Option U, capD 2 [1, 2] [a, b, c] = [none, none, b, c] := fun _ _ _ => rfl
 unfold F__law_cost
 simp only [EV, reduceIte, reduceAdd, reduceLT, reduceLeDiff, reduceEqDiff, reduceEq, Int.reduceLT, reduceLE, lMp, show ps.length ≤ 100000 by omega, ca, C]
 unfold costI
 rw [show ((ps.filter fun p => decide (a ≤ p.1) && decide (p.1 < b)).map fun p => PyData.int p.2) = ((ps.filter fun p => decide (a ≤ p.1) && decide (p.1 < b)).map (·.2)).map .int by rw [List.map_map]; rfl, n_sum]
 simp only [EV, reduceIte, reduceAdd, reduceLT, reduceLeDiff, reduceEqDiff, reduceEq, Int.reduceLT, reduceLE]
def gainI (ps : List Pr) (w : Wi) : Int := w.2.2 - costI ps w.1 w.2.1
theorem gain_spec {ps : List Pr} (hl : ps.length ≤ 1000) (w : Wi) : F_gain [wiD w, .list (ps.map prD)] = some (.int (gainI ps w)) := by
 unfold F_gain wiD
 simp only [EV, reduceIte, reduceAdd, reduceLT, reduceLeDiff, reduceEqDiff, reduceEq, Int.reduceLT, reduceLE, at0, at1, at2, cost_spec hl]
 rfl
def worthI (ws : List Wi) (cs : List Int) : Int := (cs.map fun c => (ws.getD c.toNat (0, 0, 0)).2.2).sum
theorem pAt_getD {α : Type} (f : α → D) {l : List α} (x : α) {i : Int} (h0 : 0 ≤ i) (h1 : i < l.length) : pAt (l.map f) i = some (f (l.getD i.toNat x)) := by
 have hk : i.toNat < l.length := by omega
 obtain ⟨k, rfl⟩ : ∃ k : Nat, i = (k : Int) := ⟨i.toNat, by omega⟩
 rw [pAt_nat, List.getElem?_map, List.getD_eq_getElem?_getD]
 simp only [Int.toNat_natCast] at hk ⊢
 rw [List.getElem?_eq_getElem hk]
 rfl
theorem worth_comp {ws : List Wi} {cs : List Int} (h : ∀ c ∈ cs, 0 ≤ c ∧ c < ws.length) : compD (gNl 0) (D3.tYes) (dFlat (dOp gIx (dOp gIx (dVar 1) (dVar 0)) (dC (.int 2)))) [none, some (.d (.list (ws.map wiD)))] (cs.map .int) = some ((cs.map fun c => (ws.getD c.toNat (0, 0, 0)).2.2).map .int) := by
 have C := cMap (g := (gNl 0)) (c := (D3.tYes)) (e := (dFlat (dOp gIx (dOp gIx (dVar 1) (dVar 0)) (dC (.int 2))))) (δ := [none, some (.d (.list (ws.map wiD)))]) PyData.int (fun c => .int (ws.getD c.toNat (0, 0, 0)).2.2) cs (fun c hc => by
  refine ⟨[some (.d (.int c)), some (.d (.list (ws.map wiD)))], rfl, rfl, ?_⟩
  simp only [EV, reduceIte, reduceAdd, reduceLT, reduceLeDiff, reduceEqDiff, reduceEq, Int.reduceLT, reduceLE, pAt_getD wiD (0, 0, 0) (h c hc).1 (h c hc).2]
  unfold wiD
  simp only [EV, reduceIte, reduceAdd, reduceLT, reduceLeDiff, reduceEqDiff, reduceEq, Int.reduceLT, reduceLE, at2])
 rw [C, List.map_map]
 rfl
theorem worth_spec {ws : List Wi} {cs : List Int} (hl : cs.length ≤ 1000) (h : ∀ c ∈ cs, 0 ≤ c ∧ c < ws.length) : F_worth_of [.list (ws.map wiD), .list (cs.map .int)] = some (.int (worthI ws cs)) := by
 have ca : ∀ a b : Option U, capD 1 [0] [a, b] = [none, a] := fun _ _ => rfl
 unfold F_worth_of
 simp only [EV, reduceIte, reduceAdd, reduceLT, reduceLeDiff, reduceEqDiff, reduceEq, Int.reduceLT, reduceLE, lMp, show cs.length ≤ 100000 by omega, ca, worth_comp h, n_sum]
 rfl
theorem is_wish_spec {w : Wi} {fs : List Int} (h : wiOk fs.length w) : F_is_wish_for [wiD w, .list (fs.map .int)] = some (.bool true) := by
 obtain ⟨h1, h2, h3, h4, h5⟩ := h
 unfold F_is_wish_for wiD
 simp only [EV, reduceIte, reduceAdd, reduceLT, reduceLeDiff, reduceEqDiff, reduceEq, Int.reduceLT, reduceLE, at0, at1, at2, lMp, dTr h1, dTr h2, dTr h3, dTr h4, dTr h5]
theorem check_wishes_spec {ws : List Wi} {fs : List Int} (h : ∀ w ∈ ws, wiOk fs.length w) : F_check_wishes [.list (ws.map wiD), .list (fs.map .int)] = some .none := by
 unfold F_check_wishes
 simp only [EV, reduceIte, reduceAdd, reduceLT, reduceLeDiff, reduceEqDiff, reduceEq, Int.reduceLT, reduceLE]
 obtain ⟨δ', e, x, y, rfl⟩ := for_inv (g := (gTn 2 (gsCons (gNl 2) (gsCons (gNl 3) (gsNil))))) (b := (sIf (D3.tNot (tBool (dCall F_is_wish_for (dCons (dVar 3) (dCons (dVar 1) (dNil)))))) ((fun _ => none)) (sNil))) (fun _ δ => ∃ x y, δ = [some (.d (.list (ws.map wiD))), some (.d (.list (fs.map .int))), x, y]) (enumD (ws.map wiD))
  [some (.d (.list (ws.map wiD))), some (.d (.list (fs.map .int))), none, none] ⟨none, none, rfl⟩ (by
   rintro i d δ hd ⟨x, y, rfl⟩
   unfold enumD at hd
   rw [List.getElem?_mapIdx, List.getElem?_map] at hd
   cases hw : ws[i]? with
   | none => rw [hw] at hd; cases hd
   | some w =>
    rw [hw] at hd
    cases hd
    refine ⟨_, _, rfl, .inl ?_, some (.d (.int (i : Int))), some (.d (wiD w)), rfl⟩
    simp only [EV, reduceIte, reduceAdd, reduceLT, reduceLeDiff, reduceEqDiff, reduceEq, Int.reduceLT, reduceLE, is_wish_spec (h w (List.mem_of_getElem? hw))])
 rw [e]
 simp only [EV, reduceIte, reduceAdd, reduceLT, reduceLeDiff, reduceEqDiff, reduceEq, Int.reduceLT, reduceLE]
end Com
namespace Com
open PySem D3 My
def hbN (n : Int) (s : Int × Int) : Bool := decide (s.1 ≤ n) && decide (n < s.2)
theorem holdsN_spec (s : Pr) (n : Int) : F_holds [prD s, .int n] = some (.bool (hbN n s)) := by
 unfold F_holds prD hbN
 by_cases c : s.1 ≤ n
 ·simp only [EV, reduceIte, reduceAdd, reduceLT, reduceLeDiff, reduceEqDiff, reduceEq, Int.reduceLT, reduceLE, at0, at1, dTr c, Bool.true_and]
 ·simp only [EV, reduceIte, reduceAdd, reduceLT, reduceLeDiff, reduceEqDiff, reduceEq, Int.reduceLT, reduceLE, at0, at1, dFa c, Bool.false_and]
theorem pr_flat (s : Pr) : flat (prD s) = true := rfl
theorem countN_spec {ss : List Pr} (hl : ss.length ≤ 1000) (n : Int) : F_count_at [.list (ss.map prD), .int n] = some (.int ((ss.filter (hbN n)).length : Int)) := by
 have C := cFil (g := (gNl 0)) (c := (tBool (dCall F_holds (dCons (dVar 0) (dCons (dVar 1) (dNil)))))) (e := (dFlat (dVar 0))) (δ := [none, some (.d (.int n))]) prD (hbN n) prD ss (fun s _ => ⟨[some (.d (prD s)), some (.d (.int n))], rfl, by simp only [EV, reduceIte, reduceAdd, reduceLT, reduceLeDiff, reduceEqDiff, reduceEq, Int.reduceLT, reduceLE, holdsN_spec], fun _ => by simp only [EV, reduceIte, reduceAdd, reduceLT, reduceLeDiff, reduceEqDiff, reduceEq, Int.reduceLT, reduceLE, pr_flat]⟩)
 have ca : ∀ a b : Option U, capD 1 [1] [a, b] = [none, b] := fun _ _ => rfl
 unfold F_count_at
 simp only [EV, reduceIte, reduceAdd, reduceLT, reduceLeDiff, reduceEqDiff, reduceEq, Int.reduceLT, reduceLE, lMp, show ss.length ≤ 100000 by omega, ca, C]
theorem nightsW_spec (w : Wi) : F_nights_of [wiD w] = some (prD (w.1, w.2.1)) := by
 unfold F_nights_of wiD
 simp only [EV, reduceIte, reduceAdd, reduceLT, reduceLeDiff, reduceEqDiff, reduceEq, Int.reduceLT, reduceLE, at0, at1, sz (show 2 ≤ 1000000 by decide)]
 rfl
def wat (ws : List Wi) (c : Int) : Wi := ws.getD c.toNat (0, 0, 0)
def wn (w : Wi) : Pr := (w.1, w.2.1)
def heldI (ws : List Wi) (cs : List Int) (n : Int) : Nat := (cs.filter fun c => hbN n (wn (wat ws c))).length
theorem held_spec {ws : List Wi} {cs : List Int} (hl : cs.length ≤ 1000) (h : ∀ c ∈ cs, 0 ≤ c ∧ c < ws.length) (n : Int) : F_held_at [.list (ws.map wiD), .list (cs.map .int), .int n] = some (.int (heldI ws cs n : Int)) := by
 have C := cMap (g := (gNl 0)) (c := (D3.tYes)) (e := (dCall F_nights_of (dCons (dOp gIx (dVar 1) (dVar 0)) (dNil)))) (δ := [none, some (.d (.list (ws.map wiD)))]) PyData.int (fun c => prD (wn (wat ws c))) cs (fun c hc => by
  refine ⟨[some (.d (.int c)), some (.d (.list (ws.map wiD)))], rfl, rfl, ?_⟩
  simp only [EV, reduceIte, reduceAdd, reduceLT, reduceLeDiff, reduceEqDiff, reduceEq, Int.reduceLT, reduceLE, pAt_getD wiD (0, 0, 0) (h c hc).1 (h c hc).2, nightsW_spec]
  rfl)
 have ca : ∀ a b c : Option U, capD 1 [0] [a, b, c] = [none, a] := fun _ _ _ => rfl
 have cn := countN_spec (ss := cs.map fun c => wn (wat ws c)) (by rw [List.length_map]; exact hl) n
 rw [List.map_map] at cn
 unfold F_held_at
 simp only [EV, reduceIte, reduceAdd, reduceLT, reduceLeDiff, reduceEqDiff, reduceEq, Int.reduceLT, reduceLE, lMp, show cs.length ≤ 100000 by omega, ca, C]
 rw [show (cs.map fun c => prD (wn (wat ws c))) = cs.map (prD ∘ fun c => wn (wat ws c)) from rfl, cn]
 simp only [EV, reduceIte, reduceAdd, reduceLT, reduceLeDiff, reduceEqDiff, reduceEq, Int.reduceLT, reduceLE]
 unfold heldI
 rw [List.filter_map, List.length_map]
 rfl
theorem enum_ints (fs : List Int) : enumD (fs.map .int) = (List.range fs.length).map fun k : Nat => PyData.tuple [.int (k : Int), .int (fs.getD k 0)] := by
 unfold enumD
 apply List.ext_getElem?
 intro i
 rw [List.getElem?_mapIdx, List.getElem?_map, List.getElem?_map]
 by_cases h : i < fs.length
 ·have e : fs.getD i 0 = fs[i] := by rw [List.getD_eq_getElem?_getD, List.getElem?_eq_getElem h]; rfl
  rw [List.getElem?_range h, List.getElem?_eq_getElem h, Option.map_some, Option.map_some, Option.map_some, e]
 ·rw [List.getElem?_eq_none (by simpa using h), List.getElem?_eq_none (by simpa using h)]
  rfl
def roomI (ws : List Wi) (fs : List Int) (cs : List Int) (w : Wi) : Bool := (List.range fs.length).all fun n : Nat => !hbN (n : Int) (wn w) || decide ((heldI ws cs (n : Int) : Int) < fs.getD n 0)
theorem room_iff {ws : List Wi} {fs : List Int} {cs : List Int} {w : Wi} : roomI ws fs cs w = true ↔ ∀ n : Nat, n < fs.length → hbN (n : Int) (wn w) = true → (heldI ws cs (n : Int) : Int) < fs.getD n 0 := by
 unfold roomI
 rw [List.all_eq_true]
 constructor
 ·intro h n hn hb
  have := h n (List.mem_range.mpr hn)
  rw [hb] at this
  simpa using this
 ·intro h n hn
  have hn := List.mem_range.mp hn
  cases hb : hbN (n : Int) (wn w) with
  | false => rfl
  | true => simpa using h n hn hb
theorem min_pos {l : List Int} (hl : l ≠ []) : ∃ m, gMinL [.list (l.map .int)] = some (.int m) ∧ ((0 < m) ↔ ∀ x ∈ l, 0 < x) := by
 cases l with
 | nil => exact absurd rfl hl
 | cons i r =>
  have sp := mnI_spec r i
  refine ⟨mnI i r, ?_, ?_, ?_⟩
  ·show (match intsD ((i :: r).map .int) with | some (i :: r) => some (PyData.int (mnI i r)) | _ => none) = _
   rw [intsD_map]
  ·intro h x hx
   have := sp.2 x hx
   omega
  ·intro h
   exact h _ sp.1
theorem has_room_spec {ws : List Wi} {fs : List Int} {cs : List Int} {w : Wi} (fl : fs.length ≤ 1000) (hl : cs.length ≤ 1000) (h : ∀ c ∈ cs, 0 ≤ c ∧ c < ws.length) (hw : wiOk fs.length w) :
 F_has_room [.list (ws.map wiD), .list (fs.map .int), .list (cs.map .int), wiD w] = some (.bool (roomI ws fs cs w)) := by
 have C := cFil (g := (gTn 2 (gsCons (gNl 0) (gsCons (gNl 1) (gsNil))))) (c := (tBool (dCall F_holds (dCons (dCall F_nights_of (dCons (dVar 4) (dNil))) (dCons (dVar 0) (dNil)))))) (e := (dOp gSub (dVar 1) (dCall F_held_at (dCons (dVar 2) (dCons (dVar 3) (dCons (dVar 0) (dNil))))))) (δ := [none, none, some (.d (.list (ws.map wiD))), some (.d (.list (cs.map .int))), some (.d (wiD w))]) (fun k : Nat => PyData.tuple [.int (k : Int), .int (fs.getD k 0)]) (fun k => hbN (k : Int) (wn w)) (fun k => .int (fs.getD k 0 - (heldI ws cs (k : Int) : Int))) (List.range fs.length) (fun k hk => by
  refine ⟨[some (.d (.int (k : Int))), some (.d (.int (fs.getD k 0))), some (.d (.list (ws.map wiD))), some (.d (.list (cs.map .int))), some (.d (wiD w))], rfl, ?_, fun _ => ?_⟩
  ·simp only [EV, reduceIte, reduceAdd, reduceLT, reduceLeDiff, reduceEqDiff, reduceEq, Int.reduceLT, reduceLE, nightsW_spec, holdsN_spec]
   rfl
  ·simp only [EV, reduceIte, reduceAdd, reduceLT, reduceLeDiff, reduceEqDiff, reduceEq, Int.reduceLT, reduceLE, held_spec hl h])
 have ca : ∀ a b c d e : Option U, capD 2 [0, 2, 3] [a, b, c, d, e] = [none, none, a, c, d] := fun _ _ _ _ _ => rfl
 obtain ⟨L, hL⟩ : ∃ L, L = ((List.range fs.length).filter fun k : Nat => hbN (k : Int) (wn w)).map fun k : Nat => fs.getD k 0 - (heldI ws cs (k : Int) : Int) := ⟨_, rfl⟩
 have eL : ((List.range fs.length).filter fun k : Nat => hbN (k : Int) (wn w)).map (fun k : Nat => PyData.int (fs.getD k 0 - (heldI ws cs (k : Int) : Int))) = L.map .int := by rw [hL, List.map_map]; rfl
 rw [eL] at C
 have ne : L ≠ [] := by
  obtain ⟨h1, h2, h3, _⟩ := hw
  have : w.1.toNat ∈ (List.range fs.length).filter fun k : Nat => hbN (k : Int) (wn w) := by
   refine List.mem_filter.mpr ⟨List.mem_range.mpr (by omega), ?_⟩
   unfold hbN wn
   rw [show ((w.1.toNat : Nat) : Int) = w.1 by omega, dTr (Int.le_refl _), dTr h2]
   rfl
  intro z
  rw [hL] at z
  rw [List.map_eq_nil_iff] at z
  rw [z] at this
  cases this
 obtain ⟨m, em, hm⟩ := min_pos ne
 unfold F_has_room
 simp only [EV, reduceIte, reduceAdd, reduceLT, reduceLeDiff, reduceEqDiff, reduceEq, Int.reduceLT, reduceLE, enum_ints, lMp, List.length_range, show fs.length ≤ 100000 by omega, ca, C, em]
 have : decide (0 < m) = roomI ws fs cs w := by
  rw [Bool.eq_iff_iff, decide_eq_true_iff, hm, room_iff, hL]
  constructor
  ·intro h n hn hb
   have := h _ (List.mem_map.mpr ⟨n, List.mem_filter.mpr ⟨List.mem_range.mpr hn, hb⟩, rfl⟩)
   omega
  ·intro h x hx
   obtain ⟨n, hn, rfl⟩ := List.mem_map.mp hx
   obtain ⟨h1, h2⟩ := List.mem_filter.mp hn
   have := h n (List.mem_range.mp h1) h2
   omega
 rw [this]
def chI (ws : List Wi) (fs : List Int) : Nat → List Int
 | 0 => []
 | i + 1 => if roomI ws fs (chI ws fs i) (wat ws (i : Int)) = true then chI ws fs i ++ [(i : Int)] else chI ws fs i
theorem ch_mem (ws : List Wi) (fs : List Int) : ∀ i, ∀ c ∈ chI ws fs i, 0 ≤ c ∧ c < (i : Int)
 | 0, c, h => by cases h
 | i + 1, c, h => by
  rw [chI] at h
  split at h
  ·rcases List.mem_append.mp h with z | z
   ·have := ch_mem ws fs i c z
    omega
   ·rw [List.mem_singleton.mp z]
    omega
  ·have := ch_mem ws fs i c h
   omega
theorem chI_len (ws : List Wi) (fs : List Int) : ∀ i, (chI ws fs i).length ≤ i
 | 0 => Nat.le_refl _
 | i + 1 => by
  have := chI_len ws fs i
  rw [chI]
  split
  ·rw [List.length_append]
   simpa using this
  ·omega
theorem wat_get {ws : List Wi} {i : Nat} {w : Wi} (h : ws[i]? = some w) : wat ws (i : Int) = w := by
 unfold wat
 rw [Int.toNat_natCast, List.getD_eq_getElem?_getD, h]
 rfl
theorem by_turns_spec {ws : List Wi} {fs : List Int} (wl : ws.length ≤ 1000) (fl : fs.length ≤ 1000) (hw : ∀ w ∈ ws, wiOk fs.length w) : F_by_turns [.list (ws.map wiD), .list (fs.map .int)] = some (.list ((chI ws fs ws.length).map .int)) := by
 unfold F_by_turns
 simp only [EV, reduceIte, reduceAdd, reduceLT, reduceLeDiff, reduceEqDiff, reduceEq, Int.reduceLT, reduceLE, check_wishes_spec hw, Nat.zero_le]
 obtain ⟨δ', e, x, y, rfl⟩ := for_inv (g := (gTn 2 (gsCons (gNl 3) (gsCons (gNl 4) (gsNil))))) (b := (sIf (tBool (dCall F_has_room (dCons (dVar 0) (dCons (dVar 1) (dCons (dVar 2) (dCons (dVar 4) (dNil))))))) (sApp 2 (dVar 3)) (sNil)))
  (fun i δ => ∃ x y, δ = [some (.d (.list (ws.map wiD))), some (.d (.list (fs.map .int))), some (.d (.list ((chI ws fs i).map .int))), x, y]) (enumD (ws.map wiD))
  [some (.d (.list (ws.map wiD))), some (.d (.list (fs.map .int))), some (.d (.list [])), none, none] ⟨none, none, rfl⟩ (by
   rintro i d δ hd ⟨x, y, rfl⟩
   unfold enumD at hd
   rw [List.getElem?_mapIdx, List.getElem?_map] at hd
   cases hg : ws[i]? with
   | none => rw [hg] at hd; cases hd
   | some w =>
    rw [hg] at hd
    cases hd
    have hi : i < ws.length := by
     rcases Nat.lt_or_ge i ws.length with z | z
     ·exact z
     ·rw [List.getElem?_eq_none z] at hg; cases hg
    have hr := has_room_spec (ws := ws) (cs := chI ws fs i) (w := w) fl (by have := chI_len ws fs i; omega) (fun c hc => by have := ch_mem ws fs i c hc; omega) (hw w (List.mem_of_getElem? hg))
    refine ⟨_, _, rfl, .inl ?_, some (.d (.int (i : Int))), some (.d (wiD w)), rfl⟩
    rw [chI, wat_get hg]
    cases hb : roomI ws fs (chI ws fs i) w with
    | true =>
     rw [hb] at hr
     simp only [EV, reduceIte, reduceAdd, reduceLT, reduceLeDiff, reduceEqDiff, reduceEq, Int.reduceLT, reduceLE, hr, lMp, show (chI ws fs i).length < 1000000 by have := chI_len ws fs i; omega]
     rw [List.map_append]
     rfl
    | false =>
     rw [hb] at hr
     simp only [EV, reduceIte, reduceAdd, reduceLT, reduceLeDiff, reduceEqDiff, reduceEq, Int.reduceLT, reduceLE, hr, Bool.false_eq_true, if_false])
 rw [e]
 have el : (enumD (ws.map wiD)).length = ws.length := by unfold enumD; rw [List.length_mapIdx, List.length_map]
 rw [el]
 simp only [EV, reduceIte, reduceAdd, reduceLT, reduceLeDiff, reduceEqDiff, reduceEq, Int.reduceLT, reduceLE, flats_ints]
end Com
namespace Com
open PySem D3 My
theorem first_or (P : Nat → Bool) : ∀ n, (∃ m, m < n ∧ P m = true ∧ ∀ i, i < m → P i = false) ∨ ∀ i, i < n → P i = false
 | 0 => .inr fun i h => by omega
 | n + 1 => by
  rcases first_or P n with ⟨m, h1, h2, h3⟩ | h
  ·exact .inl ⟨m, by omega, h2, h3⟩
  ·cases c : P n with
   | true => exact .inl ⟨n, by omega, c, h⟩
   | false =>
    refine .inr fun i hi => ?_
    by_cases e : i = n
    ·rw [e]; exact c
    ·exact h i (by omega)
end Com
namespace Be
structure Way where
 u : Nat
 v : Nat
 c : Int
 p : Option Nat
deriving DecidableEq
abbrev Lb := List (Option Int)
abbrev Cm := List (Option Way)
def lb (l : Lb) (v : Nat) : Option Int := l.getD v none
def cm (l : Cm) (v : Nat) : Option Way := l.getD v none
theorem lb_set {l : Lb} {v z : Nat} {x : Option Int} (h : v < l.length) : lb (l.set v x) z = if z = v then x else lb l z := by
 unfold lb
 rw [List.getD_eq_getElem?_getD, List.getD_eq_getElem?_getD, List.getElem?_set]
 by_cases e : v = z
 ·subst e
  simp [h]
 ·rw [if_neg e, if_neg (fun q => e q.symm)]
theorem cm_set {l : Cm} {v z : Nat} {x : Option Way} (h : v < l.length) : cm (l.set v x) z = if z = v then x else cm l z := by
 unfold cm
 rw [List.getD_eq_getElem?_getD, List.getD_eq_getElem?_getD, List.getElem?_set]
 by_cases e : v = z
 ·subst e
  simp [h]
 ·rw [if_neg e, if_neg (fun q => e q.symm)]
def Good (ws : List Way) (π : Nat → Int) : Prop := ∀ w ∈ ws, π w.v ≤ π w.u + w.c
def better (l : Lb) (w : Way) : Bool := match lb l w.u with
 | none => false
 | some x => match lb l w.v with
  | none => true
  | some y => decide (x + w.c < y)
abbrev Stt := Lb × Cm × Bool
def relax (s : Stt) (w : Way) : Stt :=
 if better s.1 w = true then (s.1.set w.v (some ((lb s.1 w.u).getD 0 + w.c)), s.2.1.set w.v (some w), true) else s
structure Iv (ws : List Way) (π : Nat → Int) (m : Int) (c0 : Lb) (N : Nat) (l : Lb) (c : Cm) (st : Nat → Nat) (T : Nat) : Prop where
 ll : l.length = N
 lc : c.length = N
 lo : ∀ v y, lb l v = some y → π v + m ≤ y
 dn : ∀ v y, lb c0 v = some y → ∃ y', lb l v = some y' ∧ y' ≤ y
 pr : ∀ v y, lb l v = some y → (cm c v = none ∧ lb c0 v = some y) ∨ ∃ w ∈ ws, cm c v = some w ∧ w.v = v ∧ ∃ x, lb l w.u = some x ∧ x + w.c ≤ y ∧ (x + w.c = y → st w.u < st v)
 sr : ∀ v, lb c0 v = some (π v + m) → cm c v = none
 sT : ∀ v, st v ≤ T
theorem better_yes {l : Lb} {w : Way} (h : better l w = true) : ∃ x, lb l w.u = some x ∧ ∀ y, lb l w.v = some y → x + w.c < y := by
 unfold better at h
 cases e : lb l w.u with
 | none => rw [e] at h; cases h
 | some x =>
  rw [e] at h
  refine ⟨x, rfl, fun y ey => ?_⟩
  rw [ey] at h
  exact of_decide_eq_true h
theorem better_no {l : Lb} {w : Way} {x : Int} (h : better l w = false) (e : lb l w.u = some x) : ∃ y, lb l w.v = some y ∧ y ≤ x + w.c := by
 unfold better at h
 rw [e] at h
 cases q : lb l w.v with
 | none => rw [q] at h; cases h
 | some y =>
  rw [q] at h
  refine ⟨y, rfl, ?_⟩
  have := of_decide_eq_false h
  omega
theorem relax_iv {ws : List Way} {π : Nat → Int} {m : Int} {c0 : Lb} {N : Nat} {l : Lb} {c : Cm} {st : Nat → Nat} {T : Nat} {w : Way} {b : Bool} (g : Good ws π) (hw : w ∈ ws) (rv : w.v < N) (I : Iv ws π m c0 N l c st T) :
 ∃ st' T', Iv ws π m c0 N (relax (l, c, b) w).1 (relax (l, c, b) w).2.1 st' T' := by
 unfold relax
 by_cases h : better l w = true
 ·rw [if_pos h]
  obtain ⟨x, ex, hx⟩ := better_yes h
  have gw := g w hw
  have lw := I.lo _ _ ex
  have uv : w.u ≠ w.v := fun e => by
   have := hx x (by rw [← e]; exact ex)
   rw [e] at gw
   omega
  have SL : ∀ z, lb (l.set w.v (some ((lb l w.u).getD 0 + w.c))) z = if z = w.v then some (x + w.c) else lb l z := fun z => by
   rw [lb_set (by rw [I.ll]; exact rv), ex]
   rfl
  have SC : ∀ z, cm (c.set w.v (some w)) z = if z = w.v then some w else cm c z := fun z => cm_set (by rw [I.lc]; exact rv)
  refine ⟨fun z => if z = w.v then T + 1 else st z, T + 1, ?_⟩
  show Iv ws π m c0 N (l.set w.v (some ((lb l w.u).getD 0 + w.c))) (c.set w.v (some w)) _ _
  refine ⟨by rw [List.length_set, I.ll], by rw [List.length_set, I.lc], fun v y h => ?_, fun v y h => ?_, fun v y h => ?_, fun v h => ?_, fun v => ?_⟩
  ·rw [SL v] at h
   split at h
   ·next e => cases h; rw [e]; omega
   ·exact I.lo v y h
  ·obtain ⟨y', e', q⟩ := I.dn v y h
   rw [SL v]
   split
   ·next e =>
    have := hx y' (by rw [← e]; exact e')
    exact ⟨_, rfl, by omega⟩
   ·exact ⟨y', e', q⟩
  ·rw [SL v] at h
   by_cases e : v = w.v
   ·rw [if_pos e] at h
    cases h
    right
    refine ⟨w, hw, by rw [SC v, if_pos e], e.symm, x, by rw [SL, if_neg uv]; exact ex, Int.le_refl _, fun _ => ?_⟩
    simp only [e, if_true, if_neg uv]
    have := I.sT w.u
    omega
   ·rw [if_neg e] at h
    rcases I.pr v y h with ⟨q1, q2⟩ | ⟨w', hw', q1, q2, x', q3, q4, q5⟩
    ·left
     exact ⟨by rw [SC v, if_neg e]; exact q1, q2⟩
    ·right
     refine ⟨w', hw', by rw [SC v, if_neg e]; exact q1, q2, ?_⟩
     by_cases e' : w'.u = w.v
     ·have := hx x' (by rw [← e']; exact q3)
      refine ⟨x + w.c, by rw [SL, if_pos e'], by omega, fun z => by omega⟩
     ·refine ⟨x', by rw [SL, if_neg e']; exact q3, q4, fun z => ?_⟩
      simp only [if_neg e, if_neg e']
      exact q5 z
  ·rw [SC v]
   split
   ·next e =>
    obtain ⟨y', e', q⟩ := I.dn v _ h
    have := hx y' (by rw [← e]; exact e')
    rw [e] at q
    omega
   ·exact I.sr v h
  ·have := I.sT v
   show (if v = w.v then T + 1 else st v) ≤ T + 1
   split <;> omega
 ·rw [if_neg h]
  exact ⟨st, T, I⟩
theorem fold_iv {ws : List Way} {π : Nat → Int} {m : Int} {c0 : Lb} {N : Nat} (g : Good ws π) (rg : ∀ w ∈ ws, w.v < N) : ∀ (vs : List Way), (∀ w ∈ vs, w ∈ ws) → ∀ (s : Stt) (st : Nat → Nat) (T : Nat), Iv ws π m c0 N s.1 s.2.1 st T → ∃ st' T', Iv ws π m c0 N (vs.foldl relax s).1 (vs.foldl relax s).2.1 st' T'
 | [], _, s, st, T, I => ⟨st, T, I⟩
 | w :: r, h, s, st, T, I => by
  rw [List.foldl_cons]
  obtain ⟨l, c, b⟩ := s
  obtain ⟨st', T', I'⟩ := relax_iv (b := b) g (h w (List.mem_cons_self ..)) (rg w (h w (List.mem_cons_self ..))) I
  exact fold_iv g rg r (fun w hw => h w (List.mem_cons_of_mem _ hw)) _ st' T' I'
theorem relax_true {s : Stt} {w : Way} (h : s.2.2 = true) : (relax s w).2.2 = true := by
 unfold relax
 split
 ·rfl
 ·exact h
theorem fold_true : ∀ (vs : List Way) (s : Stt), s.2.2 = true → (vs.foldl relax s).2.2 = true
 | [], _, h => h
 | w :: r, s, h => by rw [List.foldl_cons]; exact fold_true r _ (relax_true h)
theorem fold_false : ∀ (vs : List Way) (s : Stt), (vs.foldl relax s).2.2 = false → vs.foldl relax s = s ∧ ∀ w ∈ vs, better s.1 w = false
 | [], s, _ => ⟨rfl, fun _ h => by cases h⟩
 | w :: r, s, h => by
  rw [List.foldl_cons] at h ⊢
  by_cases b : better s.1 w = true
  ·have : (relax s w).2.2 = true := by unfold relax; rw [if_pos b]
   rw [fold_true r _ this] at h
   cases h
  ·have e : relax s w = s := by unfold relax; rw [if_neg b]
   rw [e] at h ⊢
   obtain ⟨h1, h2⟩ := fold_false r s h
   refine ⟨h1, fun z hz => ?_⟩
   rcases List.mem_cons.mp hz with rfl | hz
   ·simpa using b
   ·exact h2 z hz
def nn : Lb → Nat
 | [] => 0
 | none :: r => nn r + 1
 | some _ :: r => nn r
def sm (f : Nat → Int) : Nat → Lb → Nat
 | _, [] => 0
 | k, none :: r => sm f (k + 1) r
 | k, some y :: r => (y - f k).toNat + sm f (k + 1) r
theorem nn_none : ∀ {l : Lb} {v : Nat} {y : Int}, v < l.length → lb l v = none → nn (l.set v (some y)) < nn l
 | [], _, _, h, _ => by simp at h
 | none :: r, 0, y, _, _ => by simp [nn]
 | some x :: r, 0, y, _, e => by simp [lb] at e
 | none :: r, v + 1, y, h, e => by
  have := nn_none (l := r) (v := v) (y := y) (by simpa using h) (by simpa [lb] using e)
  simp [nn]; omega
 | some x :: r, v + 1, y, h, e => by
  have := nn_none (l := r) (v := v) (y := y) (by simpa using h) (by simpa [lb] using e)
  simp [nn]; omega
theorem nn_some : ∀ {l : Lb} {v : Nat} {x y : Int}, lb l v = some x → nn (l.set v (some y)) = nn l
 | [], _, _, _, e => by simp [lb] at e
 | none :: r, 0, _, y, e => by simp [lb] at e
 | some x :: r, 0, _, y, e => by simp [nn]
 | none :: r, v + 1, x, y, e => by
  have := nn_some (l := r) (v := v) (x := x) (y := y) (by simpa [lb] using e)
  simp [nn]; omega
 | some x :: r, v + 1, _, y, e => by
  have := nn_some (l := r) (v := v) (y := y) (by simpa [lb] using e)
  simp [nn]; omega
theorem sm_less (f : Nat → Int) : ∀ {l : Lb} {k v : Nat} {x y : Int}, lb l v = some x → y < x → f (k + v) ≤ y → sm f k (l.set v (some y)) < sm f k l
 | [], _, _, _, _, e, _, _ => by simp [lb] at e
 | none :: r, _, 0, _, y, e, _, _ => by simp [lb] at e
 | some z :: r, k, 0, x, y, e, h, h2 => by
  have : z = x := by simpa [lb] using e
  subst this
  simp only [List.set_cons_zero, sm]
  rw [Nat.add_zero] at h2
  omega
 | none :: r, k, v + 1, x, y, e, h, h2 => by
  have := sm_less f (l := r) (k := k + 1) (v := v) (x := x) (y := y) (by simpa [lb] using e) h (by rw [show k + 1 + v = k + (v + 1) by omega]; exact h2)
  simp only [List.set_cons_succ, sm]
  omega
 | some z :: r, k, v + 1, x, y, e, h, h2 => by
  have := sm_less f (l := r) (k := k + 1) (v := v) (x := x) (y := y) (by simpa [lb] using e) h (by rw [show k + 1 + v = k + (v + 1) by omega]; exact h2)
  simp only [List.set_cons_succ, sm]
  omega
def lex (a b : Nat × Nat) : Prop := a.1 < b.1 ∨ (a.1 = b.1 ∧ a.2 < b.2)
def lexe (a b : Nat × Nat) : Prop := a = b ∨ lex a b
theorem lex_trans {a b c : Nat × Nat} (h : lex a b) (h' : lexe b c) : lex a c := by
 rcases h' with rfl | h'
 ·exact h
 ·unfold lex at *; omega
theorem lexe_trans {a b c : Nat × Nat} (h : lexe a b) (h' : lexe b c) : lexe a c := by
 rcases h with rfl | h
 ·exact h'
 ·exact .inr (lex_trans h h')
theorem lex_irr {a : Nat × Nat} (h : lex a a) : False := by unfold lex at h; omega
theorem lex_ind {P : Nat × Nat → Prop} (h : ∀ a, (∀ b, lex b a → P b) → P a) : ∀ a, P a := by
 have : ∀ k, ∀ j, P (k, j) := by
  intro k
  induction k using Nat.strongRecOn with
  | ind k ih =>
   intro j
   induction j using Nat.strongRecOn with
   | ind j jh =>
    refine h _ fun b hb => ?_
    obtain ⟨b1, b2⟩ := b
    rcases hb with q | ⟨q1, q2⟩
    ·exact ih b1 q b2
    ·simp only at q1 q2
     subst q1
     exact jh b2 q2
 exact fun a => this a.1 a.2
def mu (π : Nat → Int) (m : Int) (l : Lb) : Nat × Nat := (nn l, sm (fun v => π v + m) 0 l)
theorem relax_mu {ws : List Way} {π : Nat → Int} {m : Int} {c0 : Lb} {N : Nat} {l : Lb} {c : Cm} {st : Nat → Nat} {T : Nat} {w : Way} {b : Bool} (g : Good ws π) (hw : w ∈ ws) (rv : w.v < N) (I : Iv ws π m c0 N l c st T) :
 (better l w = true ∧ lex (mu π m (relax (l, c, b) w).1) (mu π m l)) ∨ relax (l, c, b) w = (l, c, b) := by
 unfold relax
 by_cases h : better l w = true
 ·left
  rw [if_pos h]
  refine ⟨h, ?_⟩
  obtain ⟨x, ex, hx⟩ := better_yes h
  have gw := g w hw
  have lw := I.lo _ _ ex
  show lex (mu π m (l.set w.v (some ((lb l w.u).getD 0 + w.c)))) (mu π m l)
  rw [ex]
  cases q : lb l w.v with
  | none => exact .inl (nn_none (by rw [I.ll]; exact rv) q)
  | some y =>
   right
   refine ⟨nn_some q, ?_⟩
   refine sm_less _ q (hx y q) ?_
   rw [Nat.zero_add]
   show π w.v + m ≤ x + w.c
   omega
 ·right
  rw [if_neg h]
theorem fold_mu {ws : List Way} {π : Nat → Int} {m : Int} {c0 : Lb} {N : Nat} (g : Good ws π) (rg : ∀ w ∈ ws, w.v < N) : ∀ (vs : List Way), (∀ w ∈ vs, w ∈ ws) → ∀ (s : Stt) (st : Nat → Nat) (T : Nat), Iv ws π m c0 N s.1 s.2.1 st T →
 lexe (mu π m (vs.foldl relax s).1) (mu π m s.1) ∧ (s.2.2 = false → (vs.foldl relax s).2.2 = true → lex (mu π m (vs.foldl relax s).1) (mu π m s.1))
 | [], _, s, st, T, I => ⟨.inl rfl, fun a b => by rw [List.foldl_nil, a] at b; cases b⟩
 | w :: r, h, s, st, T, I => by
  obtain ⟨l, c, b⟩ := s
  have hw := h w (List.mem_cons_self ..)
  obtain ⟨st', T', I'⟩ := relax_iv (b := b) g hw (rg w hw) I
  have R := fold_mu g rg r (fun w hw => h w (List.mem_cons_of_mem _ hw)) _ st' T' I'
  rw [List.foldl_cons]
  rcases relax_mu (b := b) g hw (rg w hw) I with ⟨_, q⟩ | q
  ·exact ⟨lexe_trans R.1 (.inr q), fun _ _ => by
    rcases R.1 with e | e
    ·rw [e]; exact q
    ·exact lex_trans e (.inr q)⟩
  ·rw [q] at R ⊢
   exact R
structure Fi (ws : List Way) (c0 : Lb) (N : Nat) (l : Lb) (c : Cm) : Prop where
 tri : ∀ w ∈ ws, ∀ x, lb l w.u = some x → ∃ y, lb l w.v = some y ∧ y ≤ x + w.c
theorem tight {ws : List Way} {π : Nat → Int} {m : Int} {c0 : Lb} {N : Nat} {l : Lb} {c : Cm} {st : Nat → Nat} {T : Nat} (I : Iv ws π m c0 N l c st T) (F : ∀ w ∈ ws, better l w = false) {v : Nat} {y : Int} (h : lb l v = some y) :
 (cm c v = none ∧ lb c0 v = some y) ∨ ∃ w ∈ ws, cm c v = some w ∧ w.v = v ∧ ∃ x, lb l w.u = some x ∧ x + w.c = y ∧ st w.u < st v := by
 rcases I.pr v y h with q | ⟨w, hw, q1, q2, x, q3, q4, q5⟩
 ·exact .inl q
 ·obtain ⟨y', e, le⟩ := better_no (F w hw) q3
  rw [q2, h] at e
  cases e
  exact .inr ⟨w, hw, q1, q2, x, q3, by omega, q5 (by omega)⟩
inductive PathTo (c : Cm) (b : Nat) : Nat → List Way → Prop
 | nil : PathTo c b b []
 | cons {v : Nat} {w : Way} {P : List Way} : v ≠ b → cm c v = some w → w.v = v → PathTo c b w.u P → PathTo c b v (w :: P)
theorem path_ex {ws : List Way} {π : Nat → Int} {m : Int} {c0 : Lb} {N : Nat} {l : Lb} {c : Cm} {st : Nat → Nat} {T : Nat} {b : Nat} (g : Good ws π) (I : Iv ws π m c0 N l c st T) (F : ∀ w ∈ ws, better l w = false) (hb : ∀ v y, lb c0 v = some y → v = b) :
 ∀ (a : Nat × Nat) (v : Nat) (y : Int), lb l v = some y → ((y - π v - m).toNat, st v) = a → ∃ P, PathTo c b v P ∧ (P.map (·.v)).Nodup ∧ ∀ w ∈ P, w ∈ ws ∧ ∃ x z, lb l w.u = some x ∧ lb l w.v = some z ∧ x + w.c = z ∧ lexe ((z - π w.v - m).toNat, st w.v) a := by
 refine lex_ind fun a ih v y h e => ?_
 rcases tight I F h with ⟨q1, q2⟩ | ⟨w, hw, q1, q2, x, q3, q4, q5⟩
 ·have := hb v y q2
  subst this
  exact ⟨[], .nil, .nil, fun w h => by cases h⟩
 ·have gw := g w hw
  have l1 := I.lo _ _ q3
  have l2 := I.lo _ _ h
  rw [q2] at gw
  have L : lex ((x - π w.u - m).toNat, st w.u) a := by
   rw [← e]
   unfold lex
   simp only
   by_cases z : (x - π w.u - m).toNat < (y - π v - m).toNat
   ·exact .inl z
   ·exact .inr ⟨by omega, q5⟩
  by_cases vb : v = b
  ·subst vb
   exact ⟨[], .nil, .nil, fun w h => by cases h⟩
  obtain ⟨P, p1, p2, p3⟩ := ih _ L w.u x q3 rfl
  refine ⟨w :: P, .cons vb q1 q2 p1, ?_, fun w' hw' => ?_⟩
  ·rw [List.map_cons, List.nodup_cons]
   refine ⟨fun z => ?_, p2⟩
   obtain ⟨w', hw', ev⟩ := List.mem_map.mp z
   obtain ⟨_, x', z', e1, e2, e3, le⟩ := p3 w' hw'
   rw [show w'.v = v by rw [ev, q2]] at e2 le
   rw [h] at e2
   cases e2
   rw [e] at le
   exact lex_irr (lex_trans L le)
  ·rcases List.mem_cons.mp hw' with rfl | hw'
   ·exact ⟨hw, x, y, q3, by rw [q2]; exact h, q4, .inl (by rw [q2]; exact e)⟩
   ·obtain ⟨h1, x', z', e1, e2, e3, le⟩ := p3 w' hw'
    exact ⟨h1, x', z', e1, e2, e3, lexe_trans le (.inr L)⟩
def S (f : Nat → Int) : Nat → Int
 | 0 => 0
 | k + 1 => S f k + f k
theorem S_congr {f g : Nat → Int} : ∀ {k : Nat}, (∀ i, i < k → f i = g i) → S f k = S g k
 | 0, _ => rfl
 | k + 1, h => by rw [S, S, S_congr (fun i hi => h i (by omega)), h k (by omega)]
theorem S_add (f g : Nat → Int) : ∀ k, S (fun i => f i + g i) k = S f k + S g k
 | 0 => rfl
 | k + 1 => by rw [S, S, S, S_add f g k]; omega
theorem S_zero : ∀ k, S (fun _ => 0) k = 0
 | 0 => rfl
 | k + 1 => by rw [S, S_zero k]; rfl
theorem S_one {f : Nat → Int} {a : Nat} : ∀ {k : Nat}, a < k → S (fun i => if i = a then f i else 0) k = f a
 | 0, h => by omega
 | k + 1, h => by
  rw [S]
  by_cases e : a = k
  ·subst e
   rw [if_pos rfl, S_congr (g := fun _ => 0) (fun i hi => if_neg (by omega)), S_zero]
   omega
  ·rw [if_neg (by omega), S_one (by omega)]
   omega
theorem S_mem {f : Nat → Int} {k : Nat} : ∀ {l : List Nat}, l.Nodup → (∀ i ∈ l, i < k) → (l.map f).sum = S (fun i => if i ∈ l then f i else 0) k
 | [], _, _ => by
  rw [S_congr (g := fun _ => 0) (fun i _ => by simp), S_zero]
  rfl
 | a :: r, h, q => by
  rw [List.nodup_cons] at h
  rw [List.map_cons, List.sum_cons, S_mem h.2 (fun i hi => q i (List.mem_cons_of_mem _ hi)), ← S_one (f := f) (q a (List.mem_cons_self ..)), ← S_add]
  refine S_congr fun i _ => ?_
  by_cases e : i = a
  ·subst e
   rw [if_pos rfl, if_neg h.1, if_pos (List.mem_cons_self ..)]
   omega
  ·rw [if_neg e]
   by_cases m : i ∈ r
   ·rw [if_pos m, if_pos (List.mem_cons_of_mem _ m)]; omega
   ·rw [if_neg m, if_neg (by rw [List.mem_cons]; exact fun z => z.elim e m)]; omega
abbrev Wi := Int × Int × Int
structure WiOk (N : Nat) (w : Wi) : Prop where
 f : 0 ≤ w.1
 b : w.1 < w.2.1
 n : w.2.1 ≤ N
 w : 0 ≤ w.2.2
def cov (w : Wi) (n : Nat) : Int := if w.1 ≤ (n : Int) ∧ (n : Int) < w.2.1 then 1 else 0
def held (wi : Nat → Wi) (ch : List Nat) (n : Nat) : Int := (ch.map fun i => cov (wi i) n).sum
def wayOf (wi : Nat → Wi) (ch : List Nat) (i : Nat) : Way := if i ∈ ch then ⟨(wi i).2.1.toNat, (wi i).1.toNat, (wi i).2.2, some i⟩ else ⟨(wi i).1.toNat, (wi i).2.1.toNat, -(wi i).2.2, some i⟩
def onw (n : Nat) : Way := ⟨n, n + 1, 0, none⟩
def bck (n : Nat) : Way := ⟨n + 1, n, 0, none⟩
def allW (wi : Nat → Wi) (fr : Nat → Int) (N : Nat) (ch : List Nat) (k : Nat) : List Way :=
 (List.range N).map onw ++ (((List.range N).filter fun n => decide (held wi ch n < fr n)).reverse.map bck) ++ (List.range k).map (wayOf wi ch)
theorem mem_allW {wi : Nat → Wi} {fr : Nat → Int} {N : Nat} {ch : List Nat} {k : Nat} {w : Way} : w ∈ allW wi fr N ch k ↔ (∃ n, n < N ∧ w = onw n) ∨ (∃ n, n < N ∧ held wi ch n < fr n ∧ w = bck n) ∨ ∃ i, i < k ∧ w = wayOf wi ch i := by
 unfold allW
 rw [List.mem_append, List.mem_append, List.mem_map, List.mem_map, List.mem_map, or_assoc]
 constructor
 ·rintro (⟨n, h, rfl⟩ | ⟨n, h, rfl⟩ | ⟨i, h, rfl⟩)
  ·exact .inl ⟨n, List.mem_range.mp h, rfl⟩
  ·rw [List.mem_reverse, List.mem_filter, decide_eq_true_eq] at h
   exact .inr (.inl ⟨n, List.mem_range.mp h.1, h.2, rfl⟩)
  ·exact .inr (.inr ⟨i, List.mem_range.mp h, rfl⟩)
 ·rintro (⟨n, h, rfl⟩ | ⟨n, h, q, rfl⟩ | ⟨i, h, rfl⟩)
  ·exact .inl ⟨n, List.mem_range.mpr h, rfl⟩
  ·exact .inr (.inl ⟨n, by rw [List.mem_reverse, List.mem_filter, decide_eq_true_eq]; exact ⟨List.mem_range.mpr h, q⟩, rfl⟩)
  ·exact .inr (.inr ⟨i, List.mem_range.mpr h, rfl⟩)
theorem allW_rg {wi : Nat → Wi} {fr : Nat → Int} {N : Nat} {ch : List Nat} {k : Nat} (h : ∀ i, i < k → WiOk N (wi i)) {w : Way} (hw : w ∈ allW wi fr N ch k) : w.u < N + 1 ∧ w.v < N + 1 := by
 rcases mem_allW.mp hw with ⟨n, q, rfl⟩ | ⟨n, q, _, rfl⟩ | ⟨i, q, rfl⟩
 ·exact ⟨by show n < N + 1; omega, by show n + 1 < N + 1; omega⟩
 ·exact ⟨by show n + 1 < N + 1; omega, by show n < N + 1; omega⟩
 ·have o := h i q
  have := o.f; have := o.b; have := o.n
  unfold wayOf
  split
  ·exact ⟨by show (wi i).2.1.toNat < N + 1; omega, by show (wi i).1.toNat < N + 1; omega⟩
  ·exact ⟨by show (wi i).1.toNat < N + 1; omega, by show (wi i).2.1.toNat < N + 1; omega⟩
theorem ex_bound (f : Way → Int) : ∀ ws : List Way, ∃ B : Int, ∀ w ∈ ws, f w ≤ B
 | [] => ⟨0, fun _ h => by cases h⟩
 | w :: r => by
  obtain ⟨B, h⟩ := ex_bound f r
  refine ⟨max B (f w), fun z hz => ?_⟩
  rcases List.mem_cons.mp hz with rfl | hz
  ·omega
  ·have := h z hz; omega
def npi (l : Lb) (π : Nat → Int) (B : Int) (v : Nat) : Int := match lb l v with
 | some y => y
 | none => π v + B
theorem npi_some {l : Lb} {π : Nat → Int} {B : Int} {v : Nat} {y : Int} (h : lb l v = some y) : npi l π B v = y := by unfold npi; rw [h]
theorem npi_none {l : Lb} {π : Nat → Int} {B : Int} {v : Nat} (h : lb l v = none) : npi l π B v = π v + B := by unfold npi; rw [h]
theorem good_npi {ws : List Way} {π : Nat → Int} {l : Lb} (g : Good ws π) (F : ∀ w ∈ ws, better l w = false) : ∃ B0, ∀ B, B0 ≤ B → Good ws (npi l π B) := by
 obtain ⟨B0, h⟩ := ex_bound (fun w => (lb l w.v).getD 0 - π w.u - w.c) ws
 refine ⟨B0, fun B hB w hw => ?_⟩
 have gw := g w hw
 cases eu : lb l w.u with
 | some x =>
  obtain ⟨y, ey, le⟩ := better_no (F w hw) eu
  rw [npi_some eu, npi_some ey]
  exact le
 | none =>
  rw [npi_none eu]
  cases ev : lb l w.v with
  | some y =>
   rw [npi_some ev]
   have := h w hw
   simp only [ev, Option.getD_some] at this
   omega
  | none =>
   rw [npi_none ev]
   omega
def sx (n x : Nat) : Int := if n < x then 1 else 0
def chi (n : Nat) (w : Way) : Int := sx n w.v - sx n w.u
theorem path_sum {c : Cm} {b n : Nat} : ∀ {v : Nat} {P : List Way}, PathTo c b v P → (P.map (chi n)).sum = sx n v - sx n b := by
 intro v P h
 induction h with
 | nil => simp
 | cons h1 h2 h3 h4 ih =>
  rw [List.map_cons, List.sum_cons, ih]
  unfold chi
  rw [h3]
  omega
theorem chi_onw (n j : Nat) : chi n (onw j) = if j = n then 1 else 0 := by
 show (if n < j + 1 then (1 : Int) else 0) - (if n < j then 1 else 0) = _
 split <;> split <;> split <;> omega
theorem chi_bck (n j : Nat) : chi n (bck j) = if j = n then -1 else 0 := by
 show (if n < j then (1 : Int) else 0) - (if n < j + 1 then 1 else 0) = _
 split <;> split <;> split <;> omega
theorem chi_way {wi : Nat → Wi} {ch : List Nat} {i n N : Nat} (o : WiOk N (wi i)) : chi n (wayOf wi ch i) = if i ∈ ch then -cov (wi i) n else cov (wi i) n := by
 have := o.f; have := o.b
 unfold wayOf cov
 split
 ·show (if n < (wi i).1.toNat then (1 : Int) else 0) - (if n < (wi i).2.1.toNat then 1 else 0) = _
  split <;> split <;> split <;> omega
 ·show (if n < (wi i).2.1.toNat then (1 : Int) else 0) - (if n < (wi i).1.toNat then 1 else 0) = _
  split <;> split <;> split <;> omega
def noP (P : List Way) : List Way := P.filter fun w => w.p.isNone
def plc (P : List Way) : List Nat := P.filterMap (·.p)
theorem split_sum (n : Nat) (f : Nat → Int) : ∀ P : List Way, (∀ w ∈ P, ∀ i, w.p = some i → chi n w = f i) → (P.map (chi n)).sum = ((plc P).map f).sum + ((noP P).map (chi n)).sum
 | [], _ => rfl
 | w :: r, h => by
  have ih := split_sum n f r (fun z hz => h z (List.mem_cons_of_mem _ hz))
  rw [List.map_cons, List.sum_cons, ih]
  cases e : w.p with
  | none =>
   rw [show plc (w :: r) = plc r by unfold plc; rw [List.filterMap_cons_none e], show noP (w :: r) = w :: noP r by unfold noP; rw [List.filter_cons_of_pos (by rw [e]; rfl)], List.map_cons, List.sum_cons]
   omega
  | some i =>
   rw [show plc (w :: r) = i :: plc r by unfold plc; rw [List.filterMap_cons_some e], show noP (w :: r) = noP r by unfold noP; rw [List.filter_cons_of_neg (by rw [e]; simp)], List.map_cons, List.sum_cons, h w (List.mem_cons_self ..) i e]
   omega
theorem none_a (n : Nat) : ∀ Q : List Way, (∀ w ∈ Q, ∃ j, w = onw j ∨ w = bck j) → bck n ∉ Q → 0 ≤ (Q.map (chi n)).sum
 | [], _, _ => Int.le_refl _
 | w :: r, h, q => by
  have ih := none_a n r (fun z hz => h z (List.mem_cons_of_mem _ hz)) (fun z => q (List.mem_cons_of_mem _ z))
  rw [List.map_cons, List.sum_cons]
  obtain ⟨j, rfl | rfl⟩ := h w (List.mem_cons_self ..)
  ·rw [chi_onw]; split <;> omega
  ·rw [chi_bck, if_neg (fun e => q (by rw [e]; exact List.mem_cons_self ..))]; omega
theorem none_b (n : Nat) : ∀ Q : List Way, (∀ w ∈ Q, ∃ j, w = onw j ∨ w = bck j) → onw n ∉ Q → (Q.map (chi n)).sum ≤ 0
 | [], _, _ => Int.le_refl _
 | w :: r, h, q => by
  have ih := none_b n r (fun z hz => h z (List.mem_cons_of_mem _ hz)) (fun z => q (List.mem_cons_of_mem _ z))
  rw [List.map_cons, List.sum_cons]
  obtain ⟨j, rfl | rfl⟩ := h w (List.mem_cons_self ..)
  ·rw [chi_onw, if_neg (fun e => q (by rw [e]; exact List.mem_cons_self ..))]; omega
  ·rw [chi_bck]; split <;> omega
theorem none_c (n : Nat) : ∀ Q : List Way, (∀ w ∈ Q, ∃ j, w = onw j ∨ w = bck j) → (Q.map (·.v)).Nodup → -1 ≤ (Q.map (chi n)).sum
 | [], _, _ => by show (-1 : Int) ≤ 0; decide
 | w :: r, h, q => by
  rw [List.map_cons, List.nodup_cons] at q
  have ih := none_c n r (fun z hz => h z (List.mem_cons_of_mem _ hz)) q.2
  rw [List.map_cons, List.sum_cons]
  obtain ⟨j, rfl | rfl⟩ := h w (List.mem_cons_self ..)
  ·rw [chi_onw]; split <;> omega
  ·rw [chi_bck]
   split
   ·next e =>
    subst e
    have := none_a j r (fun z hz => h z (List.mem_cons_of_mem _ hz)) (fun z => q.1 (List.mem_map.mpr ⟨_, z, rfl⟩))
    omega
   ·omega
theorem plc_mem {P : List Way} {i : Nat} : i ∈ plc P ↔ ∃ w ∈ P, w.p = some i := by
 unfold plc
 rw [List.mem_filterMap]
theorem plc_nodup {W : Nat → Way} : ∀ {P : List Way}, (P.map (·.v)).Nodup → (∀ w ∈ P, ∀ i, w.p = some i → w = W i) → (plc P).Nodup
 | [], _, _ => List.nodup_nil
 | w :: r, h, q => by
  rw [List.map_cons, List.nodup_cons] at h
  have ih := plc_nodup (W := W) h.2 (fun z hz => q z (List.mem_cons_of_mem _ hz))
  cases e : w.p with
  | none => rw [show plc (w :: r) = plc r by unfold plc; rw [List.filterMap_cons_none e]]; exact ih
  | some i =>
   rw [show plc (w :: r) = i :: plc r by unfold plc; rw [List.filterMap_cons_some e], List.nodup_cons]
   refine ⟨fun z => ?_, ih⟩
   obtain ⟨w', hw', e'⟩ := plc_mem.mp z
   have a1 := q w (List.mem_cons_self ..) i e
   have a2 := q w' (List.mem_cons_of_mem _ hw') i e'
   exact h.1 (List.mem_map.mpr ⟨w', hw', by rw [a2, a1]⟩)
structure ChOk (wi : Nat → Wi) (fr : Nat → Int) (N : Nat) (ch : List Nat) (k : Nat) : Prop where
 nd : ch.Nodup
 lt : ∀ i ∈ ch, i < k
 fit : ∀ n, n < N → held wi ch n ≤ fr n
def nch (ch P : List Nat) (k : Nat) : List Nat := (List.range (k + 1)).filter fun i => (decide (i ∈ ch)) != (decide (i ∈ P ++ [k]))
theorem held_S {wi : Nat → Wi} {ch : List Nat} {k n : Nat} (nd : ch.Nodup) (lt : ∀ i ∈ ch, i < k) : held wi ch n = S (fun i => if i ∈ ch then cov (wi i) n else 0) k := S_mem nd lt
section
variable {wi : Nat → Wi} {fr : Nat → Int} {N k : Nat} {ch : List Nat} {π : Nat → Int} {l : Lb} {c : Cm} {st : Nat → Nat} {T : Nat}
theorem stay_step (ok : ChOk wi fr N ch k) (g : Good (allW wi fr N ch k) π) (F : ∀ w ∈ allW wi fr N ch k, better l w = false) (hb : lb l (wi k).2.1.toNat = some 0) (ha : ∀ y, lb l (wi k).1.toNat = some y → (wi k).2.2 ≤ y) :
 ChOk wi fr N ch (k + 1) ∧ ∃ π', Good (allW wi fr N ch (k + 1)) π' := by
 refine ⟨⟨ok.nd, fun i hi => by have := ok.lt i hi; omega, ok.fit⟩, ?_⟩
 obtain ⟨B0, h⟩ := good_npi g F
 refine ⟨npi l π (max B0 ((wi k).2.2 - π (wi k).1.toNat)), fun w hw => ?_⟩
 have G := h (max B0 ((wi k).2.2 - π (wi k).1.toNat)) (by omega)
 rcases mem_allW.mp hw with ⟨n, q, rfl⟩ | ⟨n, q, q2, rfl⟩ | ⟨i, q, rfl⟩
 ·exact G _ (mem_allW.mpr (.inl ⟨n, q, rfl⟩))
 ·exact G _ (mem_allW.mpr (.inr (.inl ⟨n, q, q2, rfl⟩)))
 ·by_cases e : i = k
  ·subst e
   have ni : i ∉ ch := fun z => by have := ok.lt i z; omega
   unfold wayOf
   rw [if_neg ni]
   show npi l π _ (wi i).2.1.toNat ≤ npi l π _ (wi i).1.toNat + -(wi i).2.2
   rw [npi_some hb]
   cases ea : lb l (wi i).1.toNat with
   | some y => rw [npi_some ea]; have := ha y ea; omega
   | none => rw [npi_none ea]; omega
  ·exact G _ (mem_allW.mpr (.inr (.inr ⟨i, by omega, rfl⟩)))
theorem move_step (ho : ∀ i, i < k + 1 → WiOk N (wi i)) (ok : ChOk wi fr N ch k) (g : Good (allW wi fr N ch k) π) (F : ∀ w ∈ allW wi fr N ch k, better l w = false) (hb : lb l (wi k).2.1.toNat = some 0) {y : Int} (ha : lb l (wi k).1.toNat = some y) (hy : y < (wi k).2.2)
 {P : List Way} (hP : PathTo c (wi k).2.1.toNat (wi k).1.toNat P) (nd : (P.map (·.v)).Nodup) (hw : ∀ w ∈ P, w ∈ allW wi fr N ch k ∧ ∃ x z, lb l w.u = some x ∧ lb l w.v = some z ∧ x + w.c = z) :
 ChOk wi fr N (nch ch (plc P) k) (k + 1) ∧ ∃ π', Good (allW wi fr N (nch ch (plc P) k) (k + 1)) π' := by
 have hp : ∀ w ∈ P, ∀ i, w.p = some i → i < k ∧ w = wayOf wi ch i := fun w hm i e => by
  rcases mem_allW.mp (hw w hm).1 with ⟨n, q, rfl⟩ | ⟨n, q, q2, rfl⟩ | ⟨j, q, rfl⟩
  ·cases e
  ·cases e
  ·have : (wayOf wi ch j).p = some j := by unfold wayOf; split <;> rfl
   rw [this] at e
   cases e
   exact ⟨q, rfl⟩
 have pn : (plc P).Nodup := plc_nodup nd (fun w hm i e => (hp w hm i e).2)
 have pl : ∀ i ∈ plc P, i < k := fun i hi => by
  obtain ⟨w, hm, e⟩ := plc_mem.mp hi
  exact (hp w hm i e).1
 have kc : k ∉ ch := fun z => by have := ok.lt k z; omega
 have nmem : ∀ i, i ∈ nch ch (plc P) k ↔ i < k + 1 ∧ ((i ∈ ch ∧ ¬ (i ∈ plc P ∨ i = k)) ∨ (i ∉ ch ∧ (i ∈ plc P ∨ i = k))) := fun i => by
  unfold nch
  rw [List.mem_filter, List.mem_range, bne_iff_ne]
  refine and_congr_right fun _ => ?_
  have mm : (i ∈ plc P ++ [k]) ↔ (i ∈ plc P ∨ i = k) := by rw [List.mem_append, List.mem_singleton]
  rw [← mm]
  by_cases a : i ∈ ch <;> by_cases b : i ∈ plc P ++ [k]
  ·rw [dTr a, dTr b]
   exact ⟨fun h => absurd rfl h, fun h => by rcases h with q | q; exact absurd b q.2; exact absurd a q.1⟩
  ·rw [dTr a, dFa b]
   exact ⟨fun _ => .inl ⟨a, b⟩, fun _ => by decide⟩
  ·rw [dFa a, dTr b]
   exact ⟨fun _ => .inr ⟨a, b⟩, fun _ => by decide⟩
  ·rw [dFa a, dFa b]
   exact ⟨fun h => absurd rfl h, fun h => by rcases h with q | q; exact absurd q.1 a; exact absurd q.2 b⟩
 have nnd : (nch ch (plc P) k).Nodup := List.Pairwise.filter _ List.nodup_range
 have ok' := ho k (by omega)
 have nq : ∀ w ∈ noP P, w ∈ P ∧ ∃ j, w = onw j ∨ w = bck j := fun w hm => by
  unfold noP at hm
  rw [List.mem_filter] at hm
  refine ⟨hm.1, ?_⟩
  rcases mem_allW.mp (hw w hm.1).1 with ⟨n, q, rfl⟩ | ⟨n, q, q2, rfl⟩ | ⟨j, q, rfl⟩
  ·exact ⟨n, .inl rfl⟩
  ·exact ⟨n, .inr rfl⟩
  ·have : (wayOf wi ch j).p = some j := by unfold wayOf; split <;> rfl
   rw [this] at hm
   cases hm.2
 have ndn : ((noP P).map (·.v)).Nodup := List.Nodup.sublist (List.Sublist.map _ (List.filter_sublist)) nd
 have cross : ∀ n, held wi (nch ch (plc P) k) n - held wi ch n = -((noP P).map (chi n)).sum := fun n => by
  have s1 := path_sum (n := n) hP
  rw [split_sum n (fun i => if i ∈ ch then -cov (wi i) n else cov (wi i) n) P (fun w hm i e => by rw [(hp w hm i e).2]; exact chi_way (ho i (by have := (hp w hm i e).1; omega)))] at s1
  have s2 : sx n (wi k).1.toNat - sx n (wi k).2.1.toNat = -cov (wi k) n := by
   have := ok'.f; have := ok'.b
   unfold sx cov
   split <;> split <;> split <;> omega
  rw [s2] at s1
  rw [S_mem (k := k) pn pl] at s1
  rw [held_S (k := k + 1) nnd (fun i hi => ((nmem i).mp hi).1), held_S (k := k + 1) ok.nd (fun i hi => by have := ok.lt i hi; omega)]
  have d : ∀ A B C : Int, A = B + C → A - B = C := fun A B C h => by omega
  have e : S (fun i => if i ∈ nch ch (plc P) k then cov (wi i) n else 0) (k + 1) = S (fun i => if i ∈ ch then cov (wi i) n else 0) (k + 1) + S (fun i => if i ∈ plc P ∨ i = k then (if i ∈ ch then -cov (wi i) n else cov (wi i) n) else 0) (k + 1) := by
   rw [← S_add]
   refine S_congr fun i hi => ?_
   by_cases a : i ∈ ch <;> by_cases b : (i ∈ plc P ∨ i = k)
   ·rw [if_neg (fun z => by rcases ((nmem i).mp z).2 with q | q; exact q.2 b; exact q.1 a), if_pos a, if_pos b, if_pos a]; omega
   ·rw [if_pos ((nmem i).mpr ⟨hi, .inl ⟨a, b⟩⟩), if_pos a, if_neg b]; omega
   ·rw [if_pos ((nmem i).mpr ⟨hi, .inr ⟨a, b⟩⟩), if_neg a, if_pos b, if_neg a]; omega
   ·rw [if_neg (fun z => by rcases ((nmem i).mp z).2 with q | q; exact a q.1; exact b q.2), if_neg a, if_neg b]; omega
  rw [d _ _ _ e, S, if_pos (.inr rfl), if_neg kc, S_congr (g := fun i => if i ∈ plc P then (if i ∈ ch then -cov (wi i) n else cov (wi i) n) else 0) (fun i hi => by
   by_cases b : i ∈ plc P
   ·rw [if_pos b, if_pos (.inl b)]
   ·rw [if_neg b, if_neg (fun z => z.elim b (by omega))])]
  omega
 have fits : ∀ n, n < N → held wi (nch ch (plc P) k) n ≤ fr n := fun n hn => by
  have cr := cross n
  have f0 := ok.fit n hn
  by_cases b : bck n ∈ noP P
  ·have c3 := none_c n (noP P) (fun w hm => (nq w hm).2) ndn
   have : held wi ch n < fr n := by
    rcases mem_allW.mp (hw _ (nq _ b).1).1 with ⟨j, q, e⟩ | ⟨j, q, q2, e⟩ | ⟨j, q, e⟩
    ·have e1 := congrArg Way.u e; have e2 := congrArg Way.v e
     simp only [bck, onw] at e1 e2
     omega
    ·have e2 := congrArg Way.v e
     simp only [bck] at e2
     rw [e2]; exact q2
    ·have : (wayOf wi ch j).p = some j := by unfold wayOf; split <;> rfl
     rw [← e] at this
     cases this
   omega
  ·have := none_a n (noP P) (fun w hm => (nq w hm).2) b
   omega
 refine ⟨⟨nnd, fun i hi => ((nmem i).mp hi).1, fits⟩, ?_⟩
 obtain ⟨B0, h⟩ := good_npi g F
 have G := h B0 (Int.le_refl _)
 refine ⟨npi l π B0, fun w hm => ?_⟩
 rcases mem_allW.mp hm with ⟨n, q, rfl⟩ | ⟨n, q, q2, rfl⟩ | ⟨i, q, rfl⟩
 ·exact G _ (mem_allW.mpr (.inl ⟨n, q, rfl⟩))
 ·by_cases z : held wi ch n < fr n
  ·exact G _ (mem_allW.mpr (.inr (.inl ⟨n, q, z, rfl⟩)))
  ·have cr := cross n
   have on : onw n ∈ noP P := by
    refine Classical.byContradiction fun t => ?_
    have := none_b n (noP P) (fun w hm => (nq w hm).2) t
    omega
   obtain ⟨_, x, z', e1, e2, e3⟩ := hw _ (nq _ on).1
   have e1 : lb l n = some x := e1
   have e2 : lb l (n + 1) = some z' := e2
   have e3 : x + 0 = z' := e3
   show npi l π B0 n ≤ npi l π B0 (n + 1) + 0
   rw [npi_some e1, npi_some e2]
   omega
 ·by_cases e : i = k
  ·subst e
   have ni : i ∈ nch ch (plc P) i := (nmem i).mpr ⟨by omega, .inr ⟨kc, .inr rfl⟩⟩
   unfold wayOf
   rw [if_pos ni]
   show npi l π B0 (wi i).1.toNat ≤ npi l π B0 (wi i).2.1.toNat + (wi i).2.2
   rw [npi_some hb, npi_some ha]
   omega
  ·by_cases b : i ∈ plc P
   ·obtain ⟨w, hm', ep⟩ := plc_mem.mp b
    obtain ⟨_, x, z, e1, e2, e3⟩ := hw w hm'
    rw [(hp w hm' i ep).2] at e1 e2 e3
    by_cases a : i ∈ ch
    ·have ni : i ∉ nch ch (plc P) k := fun t => by rcases ((nmem i).mp t).2 with q | q; exact q.2 (.inl b); exact q.1 a
     unfold wayOf at e1 e2 e3 ⊢
     rw [if_pos a] at e1 e2 e3
     rw [if_neg ni]
     show npi l π B0 (wi i).2.1.toNat ≤ npi l π B0 (wi i).1.toNat + -(wi i).2.2
     have e1 : lb l (wi i).2.1.toNat = some x := e1
     have e2 : lb l (wi i).1.toNat = some z := e2
     have e3 : x + (wi i).2.2 = z := e3
     rw [npi_some e1, npi_some e2]
     omega
    ·have ni : i ∈ nch ch (plc P) k := (nmem i).mpr ⟨q, .inr ⟨a, .inl b⟩⟩
     unfold wayOf at e1 e2 e3 ⊢
     rw [if_neg a] at e1 e2 e3
     rw [if_pos ni]
     show npi l π B0 (wi i).1.toNat ≤ npi l π B0 (wi i).2.1.toNat + (wi i).2.2
     have e1 : lb l (wi i).1.toNat = some x := e1
     have e2 : lb l (wi i).2.1.toNat = some z := e2
     have e3 : x + -(wi i).2.2 = z := e3
     rw [npi_some e1, npi_some e2]
     omega
   ·have same : wayOf wi (nch ch (plc P) k) i = wayOf wi ch i := by
     unfold wayOf
     by_cases a : i ∈ ch
     ·rw [if_pos a, if_pos ((nmem i).mpr ⟨q, .inl ⟨a, fun t => t.elim b e⟩⟩)]
     ·rw [if_neg a, if_neg (fun t => by rcases ((nmem i).mp t).2 with q | q; exact a q.1; exact q.2.elim b e)]
    rw [same]
    exact G _ (mem_allW.mpr (.inr (.inr ⟨i, by omega, rfl⟩)))
end
def pass (ws : List Way) (l : Lb) (c : Cm) : Stt := ws.foldl relax (l, c, false)
inductive Runs (ws : List Way) : Lb → Cm → Lb → Cm → Prop
 | done {l : Lb} {c : Cm} : (pass ws l c).2.2 = false → Runs ws l c l c
 | step {l l' : Lb} {c c' : Cm} : (pass ws l c).2.2 = true → Runs ws (pass ws l c).1 (pass ws l c).2.1 l' c' → Runs ws l c l' c'
theorem runs_ex {ws : List Way} {π : Nat → Int} {m : Int} {c0 : Lb} {N : Nat} (g : Good ws π) (rg : ∀ w ∈ ws, w.v < N) : ∀ (a : Nat × Nat) (l : Lb) (c : Cm) (st : Nat → Nat) (T : Nat), mu π m l = a → Iv ws π m c0 N l c st T →
 ∃ l' c' st' T', Runs ws l c l' c' ∧ Iv ws π m c0 N l' c' st' T' ∧ ∀ w ∈ ws, better l' w = false := by
 refine lex_ind fun a ih l c st T e I => ?_
 cases q : (pass ws l c).2.2 with
 | false => exact ⟨l, c, st, T, .done q, I, (fold_false ws (l, c, false) q).2⟩
 | true =>
  obtain ⟨st', T', I'⟩ := fold_iv g rg ws (fun _ h => h) (l, c, false) st T I
  have lt := (fold_mu g rg ws (fun _ h => h) (l, c, false) st T I).2 rfl q
  rw [show mu π m (l, c, false).1 = a from e] at lt
  obtain ⟨l', c', st2, T2, h1, h2, h3⟩ := ih _ lt (pass ws l c).1 (pass ws l c).2.1 st' T' rfl I'
  exact ⟨l', c', st2, T2, .step q h1, h2, h3⟩
theorem lb_rep {M v : Nat} {x : Option Int} (h : v < M) : lb (List.replicate M x) v = x := by
 unfold lb
 rw [List.getD_eq_getElem?_getD, List.getElem?_replicate, if_pos h]
 rfl
theorem lb_out {l : Lb} {v : Nat} (h : l.length ≤ v) : lb l v = none := by
 unfold lb
 rw [List.getD_eq_getElem?_getD, List.getElem?_eq_none h]
 rfl
theorem cm_rep {M v : Nat} : cm (List.replicate M none) v = none := by
 unfold cm
 rw [List.getD_eq_getElem?_getD, List.getElem?_replicate]
 split <;> rfl
theorem iv_start {ws : List Way} {π : Nat → Int} {m : Int} {c0 : Lb} (h : ∀ v y, lb c0 v = some y → π v + m ≤ y) : Iv ws π m c0 c0.length c0 (List.replicate c0.length none) (fun _ => 0) 0 :=
 ⟨rfl, List.length_replicate, h, fun v y e => ⟨y, e, Int.le_refl _⟩, fun v y e => .inl ⟨cm_rep, e⟩, fun _ _ => cm_rep, fun _ => Nat.le_refl _⟩
def src (M b : Nat) : Lb := (List.replicate M none).set b (some 0)
theorem src_lb {M b v : Nat} (h : b < M) : lb (src M b) v = if v = b then some 0 else none := by
 unfold src
 rw [lb_set (by rw [List.length_replicate]; exact h)]
 split
 ·rfl
 ·by_cases q : v < M
  ·exact lb_rep q
  ·exact lb_out (by rw [List.length_replicate]; omega)
section
variable {wi : Nat → Wi} {fr : Nat → Int} {N k : Nat} {ch : List Nat} {π : Nat → Int}
def More (wi : Nat → Wi) (fr : Nat → Int) (N k : Nat) (ch ch' : List Nat) : Prop :=
 ∃ l c, Runs (allW wi fr N ch k) (src (N + 1) (wi k).2.1.toNat) (List.replicate (N + 1) none) l c ∧ l.length = N + 1 ∧ c.length = N + 1 ∧
  (((∀ y, lb l (wi k).1.toNat = some y → (wi k).2.2 ≤ y) ∧ ch' = ch) ∨
   ∃ y P, lb l (wi k).1.toNat = some y ∧ y < (wi k).2.2 ∧ PathTo c (wi k).2.1.toNat (wi k).1.toNat P ∧ (∀ w ∈ P, w.u < N + 1 ∧ w.v < N + 1) ∧ P.length ≤ N + 1 ∧ ch' = nch ch (plc P) k)
theorem pigeon : ∀ {l : List Nat} {M : Nat}, l.Nodup → (∀ x ∈ l, x < M) → l.length ≤ M := by
 intro l M
 induction M generalizing l with
 | zero =>
  intro _ h
  cases l with
  | nil => exact Nat.le_refl _
  | cons a r => exact absurd (h a (List.mem_cons_self ..)) (by omega)
 | succ M ih =>
  intro nd h
  have : (l.erase M).length ≤ M := ih (nd.erase M) (fun x hx => by
   have h1 := (List.Nodup.mem_erase_iff nd).mp hx
   have := h x h1.2
   omega)
  rw [List.length_erase] at this
  split at this <;> omega
theorem one_more (ho : ∀ i, i < k + 1 → WiOk N (wi i)) (ok : ChOk wi fr N ch k) (g : Good (allW wi fr N ch k) π) : ∃ ch' π', More wi fr N k ch ch' ∧ ChOk wi fr N ch' (k + 1) ∧ Good (allW wi fr N ch' (k + 1)) π' := by
 have o := ho k (by omega)
 have o1 := o.f; have o2 := o.b; have o3 := o.n
 have rg : ∀ w ∈ allW wi fr N ch k, w.u < N + 1 ∧ w.v < N + 1 := fun w hw => allW_rg (fun i hi => ho i (by omega)) hw
 have hb : (wi k).2.1.toNat < N + 1 := by omega
 have len : (src (N + 1) (wi k).2.1.toNat).length = N + 1 := by unfold src; rw [List.length_set, List.length_replicate]
 have I0 := iv_start (ws := allW wi fr N ch k) (π := π) (m := -π (wi k).2.1.toNat) (c0 := src (N + 1) (wi k).2.1.toNat) (fun v y e => by
  rw [src_lb hb] at e
  split at e
  ·next z => cases e; rw [z]; omega
  ·cases e)
 rw [len] at I0
 obtain ⟨l, c, st, T, R, I, F⟩ := runs_ex g (fun w hw => (rg w hw).2) _ _ _ _ _ rfl I0
 have lb0 : lb l (wi k).2.1.toNat = some 0 := by
  obtain ⟨y, e, le⟩ := I.dn (wi k).2.1.toNat 0 (by rw [src_lb hb, if_pos rfl])
  have := I.lo _ _ e
  rw [e, show y = 0 by omega]
 by_cases q : ∀ y, lb l (wi k).1.toNat = some y → (wi k).2.2 ≤ y
 ·obtain ⟨h1, π', h2⟩ := stay_step ok g F lb0 q
  exact ⟨ch, π', ⟨l, c, R, I.ll, I.lc, .inl ⟨q, rfl⟩⟩, h1, h2⟩
 ·obtain ⟨y, ey, hy⟩ : ∃ y, lb l (wi k).1.toNat = some y ∧ y < (wi k).2.2 := by
   refine Classical.byContradiction fun z => q fun y e => ?_
   refine Classical.byContradiction fun t => z ⟨y, e, by omega⟩
  obtain ⟨P, p1, p2, p3⟩ := path_ex g I F (b := (wi k).2.1.toNat) (fun v y e => by
   rw [src_lb hb] at e
   split at e
   ·next z => exact z
   ·cases e) _ _ _ ey rfl
  have p3' : ∀ w ∈ P, w ∈ allW wi fr N ch k ∧ ∃ x z, lb l w.u = some x ∧ lb l w.v = some z ∧ x + w.c = z := fun w hw => by
   obtain ⟨h1, x, z, e1, e2, e3, _⟩ := p3 w hw
   exact ⟨h1, x, z, e1, e2, e3⟩
  obtain ⟨h1, π', h2⟩ := move_step ho ok g F lb0 ey hy p1 p2 p3'
  refine ⟨nch ch (plc P) k, π', ⟨l, c, R, I.ll, I.lc, .inr ⟨y, P, ey, hy, p1, fun w hw => rg w (p3 w hw).1, ?_, rfl⟩⟩, h1, h2⟩
  have := pigeon (M := N + 1) p2 (fun x hx => by
   obtain ⟨w, hw, rfl⟩ := List.mem_map.mp hx
   exact (rg w (p3 w hw).1).2)
  rwa [List.length_map] at this
theorem prices_ex (ho : ∀ i, i < k → WiOk N (wi i)) (g : Good (allW wi fr N ch k) π) : ∃ l c, Runs (allW wi fr N ch k) (List.replicate (N + 1) (some 0)) (List.replicate (N + 1) none) l c ∧ l.length = N + 1 ∧ (∀ v, v < N + 1 → ∃ y, lb l v = some y) ∧ Good (allW wi fr N ch k) (fun v => (lb l v).getD 0) := by
 have rg : ∀ w ∈ allW wi fr N ch k, w.u < N + 1 ∧ w.v < N + 1 := fun w hw => allW_rg ho hw
 obtain ⟨B, hB⟩ := ex_bound (fun w => π w.u) ((List.range (N + 1)).map fun v => (⟨v, v, 0, none⟩ : Way))
 have hB : ∀ v, v < N + 1 → π v ≤ B := fun v hv => hB ⟨v, v, 0, none⟩ (List.mem_map.mpr ⟨v, List.mem_range.mpr hv, rfl⟩)
 have I0 := iv_start (ws := allW wi fr N ch k) (π := π) (m := -B) (c0 := List.replicate (N + 1) (some 0)) (fun v y e => by
  by_cases q : v < N + 1
  ·rw [lb_rep q] at e
   cases e
   have := hB v q
   omega
  ·rw [lb_out (by rw [List.length_replicate]; omega)] at e
   cases e)
 rw [List.length_replicate] at I0
 obtain ⟨l, c, st, T, R, I, F⟩ := runs_ex g (fun w hw => (rg w hw).2) _ _ _ _ _ rfl I0
 have all : ∀ v, v < N + 1 → ∃ y, lb l v = some y := fun v hv => by
  obtain ⟨y, e, _⟩ := I.dn v 0 (lb_rep hv)
  exact ⟨y, e⟩
 refine ⟨l, c, R, I.ll, all, fun w hw => ?_⟩
 obtain ⟨x, ex⟩ := all w.u (rg w hw).1
 obtain ⟨y, ey, le⟩ := better_no (F w hw) ex
 show (lb l w.v).getD 0 ≤ (lb l w.u).getD 0 + w.c
 rw [ex, ey]
 exact le
end
theorem S_tel (d : Nat → Int) (a b : Nat) (h : a ≤ b) : ∀ N, b ≤ N → S (fun n => if a ≤ n ∧ n < b then d n - d (n + 1) else 0) N = d a - d b := by
 have step : ∀ N, S (fun n => if a ≤ n ∧ n < b then d n - d (n + 1) else 0) N = if N ≤ a then 0 else if N ≤ b then d a - d N else d a - d b := by
  intro N
  induction N with
  | zero => rw [S, if_pos (by omega)]
  | succ N ih =>
   rw [S, ih]
   by_cases c1 : N + 1 ≤ a
   ·rw [if_pos (by omega), if_neg (by omega), if_pos c1]; omega
   ·rw [if_neg c1]
    by_cases c2 : N + 1 ≤ b
    ·rw [if_pos c2, if_pos (show a ≤ N ∧ N < b by omega)]
     by_cases c3 : N ≤ a
     ·rw [if_pos c3, show N = a by omega]; omega
     ·rw [if_neg c3, if_pos (by omega)]; omega
    ·rw [if_neg c2, if_neg (show ¬ (a ≤ N ∧ N < b) by omega)]
     by_cases c3 : N ≤ a
     ·rw [if_pos c3, show a = b by omega]; omega
     ·rw [if_neg c3]
      by_cases c4 : N ≤ b
      ·rw [if_pos c4, show N = b by omega]; omega
      ·rw [if_neg c4]; omega
 intro N hN
 rw [step N]
 by_cases c1 : N ≤ a
 ·rw [if_pos c1, show a = b by omega]; omega
 ·rw [if_neg c1]
  by_cases c2 : N ≤ b
  ·rw [if_pos c2, show N = b by omega]
  ·rw [if_neg c2]
section
variable {wi : Nat → Wi} {fr : Nat → Int} {N k : Nat} {ch ch2 : List Nat} {d : Nat → Int}
def worth (wi : Nat → Wi) (ch : List Nat) : Int := (ch.map fun i => (wi i).2.2).sum
def prc (d : Nat → Int) (n : Nat) : Int := d n - d (n + 1)
def gain (wi : Nat → Wi) (d : Nat → Int) (i : Nat) : Int := (wi i).2.2 - (d (wi i).1.toNat - d (wi i).2.1.toNat)
end
end Be
namespace Com
open PySem D3 My
open Be (Way Lb Cm lb cm wayOf onw bck allW relax better pass Runs PathTo plc nch src More)
def oD : Option Int → D
 | none => .none
 | some x => .int x
def plD : Option Nat → D
 | none => .none
 | some i => .int (i : Int)
def wyD (w : Way) : D := .tuple [.int (w.u : Int), .int (w.v : Int), .int w.c, plD w.p]
def cD : Option Way → D
 | none => .none
 | some w => wyD w
def cZ (ch : List Nat) : List Int := ch.map fun i : Nat => (i : Int)
def wif (ws : List Wi) (i : Nat) : Wi := ws.getD i (0, 0, 0)
def frf (fs : List Int) (n : Nat) : Int := fs.getD n 0
theorem pl_flat (p : Option Nat) : flat (plD p) = true := by cases p <;> rfl
theorem wy_flat (w : Way) : flat (wyD w) = true := by
 show (flat (.int (w.u : Int)) && (flat (.int (w.v : Int)) && (flat (.int w.c) && (flat (plD w.p) && true)))) = true
 rw [pl_flat]
 rfl
theorem o_flat (x : Option Int) : flat (oD x) = true := by cases x <;> rfl
theorem c_flat' (x : Option Way) : flat (cD x) = true := by
 cases x with
 | none => rfl
 | some w => exact wy_flat w
theorem lyI (cs : List Int) : SeqAt.shaped (.list (cs.map .int)) = true := shaped_ints cs
theorem in_ints (cs : List Int) (x : Int) : gIn (.int x) (.list (cs.map .int)) = some (.bool (decide (x ∈ cs))) := by
 show (if (SeqAt.shaped (.int x) && SeqAt.shaped (.list (cs.map .int))) = true then some (PyData.bool ((cs.map PyData.int).any fun z => PyData.eqv z (.int x))) else none) = _
 rw [lyI, if_pos (by rfl), List.any_map]
 congr 2
 rw [Bool.eq_iff_iff, List.any_eq_true, decide_eq_true_eq]
 constructor
 ·rintro ⟨z, hz, e⟩
  have e : decide (z = x) = true := e
  rw [← of_decide_eq_true e]
  exact hz
 ·intro h
  exact ⟨x, h, show decide (x = x) = true from dTr rfl⟩
theorem mem_cZ {ch : List Nat} {i : Nat} : ((i : Int) ∈ cZ ch) ↔ i ∈ ch := by
 unfold cZ
 rw [List.mem_map]
 constructor
 ·rintro ⟨j, hj, e⟩
  have : j = i := by omega
  rw [← this]; exact hj
 ·intro h
  exact ⟨i, h, rfl⟩
theorem in_ch (ch : List Nat) (i : Nat) : gIn (.int (i : Int)) (.list ((cZ ch).map .int)) = some (.bool (decide (i ∈ ch))) := by
 rw [in_ints]
 congr 2
 rw [Bool.eq_iff_iff, decide_eq_true_eq, decide_eq_true_eq]
 exact mem_cZ
theorem way_spec {ws : List Wi} {ch : List Nat} {i : Nat} (h0 : 0 ≤ (wif ws i).1) (h1 : 0 ≤ (wif ws i).2.1) : F_ways_of_wish [wiD (wif ws i), .int (i : Int), .list ((cZ ch).map .int)] = some (wyD (wayOf (wif ws) ch i)) := by
 have i0 : gIx (wiD (wif ws i)) (.int 0) = some (.int (wif ws i).1) := rfl
 have i1 : gIx (wiD (wif ws i)) (.int 1) = some (.int (wif ws i).2.1) := rfl
 have i2 : gIx (wiD (wif ws i)) (.int 2) = some (.int (wif ws i).2.2) := rfl
 unfold F_ways_of_wish
 by_cases c : i ∈ ch
 ·have e : wyD (wayOf (wif ws) ch i) = .tuple [.int (wif ws i).2.1, .int (wif ws i).1, .int (wif ws i).2.2, .int (i : Int)] := by
   unfold wayOf
   rw [if_pos c]
   unfold wyD plD
   simp only
   rw [Int.toNat_of_nonneg h0, Int.toNat_of_nonneg h1]
  rw [e]
  simp only [EV, reduceIte, reduceAdd, reduceLT, reduceLeDiff, reduceEqDiff, reduceEq, Int.reduceLT, reduceLE, in_ch, dTr c, i0, i1, i2, sz (show 4 ≤ 1000000 by decide)]
 ·have e : wyD (wayOf (wif ws) ch i) = .tuple [.int (wif ws i).1, .int (wif ws i).2.1, .int (-(wif ws i).2.2), .int (i : Int)] := by
   unfold wayOf
   rw [if_neg c]
   unfold wyD plD
   simp only
   rw [Int.toNat_of_nonneg h0, Int.toNat_of_nonneg h1]
  rw [e]
  simp only [EV, reduceIte, reduceAdd, reduceLT, reduceLeDiff, reduceEqDiff, reduceEq, Int.reduceLT, reduceLE, in_ch, dFa c, i0, i1, i2, sz (show 4 ≤ 1000000 by decide)]
theorem enum_map {α : Type} (f : α → D) (l : List α) (x : α) : enumD (l.map f) = (List.range l.length).map fun k : Nat => PyData.tuple [.int (k : Int), f (l.getD k x)] := by
 unfold enumD
 apply List.ext_getElem?
 intro i
 rw [List.getElem?_mapIdx, List.getElem?_map, List.getElem?_map]
 by_cases h : i < l.length
 ·have e : l.getD i x = l[i] := by rw [List.getD_eq_getElem?_getD, List.getElem?_eq_getElem h]; rfl
  rw [List.getElem?_range h, List.getElem?_eq_getElem h, Option.map_some, Option.map_some, Option.map_some, e]
 ·rw [List.getElem?_eq_none (by simpa using h), List.getElem?_eq_none (by simpa using h)]
  rfl
theorem held_eq (ws : List Wi) (n : Nat) : ∀ ch : List Nat, ((heldI ws (cZ ch) (n : Int) : Nat) : Int) = Be.held (wif ws) ch n
 | [] => rfl
 | i :: r => by
  have ih := held_eq ws n r
  unfold heldI cZ Be.held at *
  rw [List.map_cons, List.filter_cons, List.map_cons, List.sum_cons, ← ih]
  have e : wat ws (i : Int) = wif ws i := by unfold wat wif; rw [Int.toNat_natCast]
  unfold Be.cov
  by_cases c : (wif ws i).1 ≤ (n : Int) ∧ (n : Int) < (wif ws i).2.1
  ·rw [if_pos c, if_pos (by rw [e]; unfold hbN wn; simp only; rw [dTr c.1, dTr c.2]; rfl), List.length_cons]
   omega
  ·rw [if_neg c, if_neg (by
    rw [e]
    unfold hbN wn
    simp only [Bool.and_eq_true, decide_eq_true_eq]
    exact c)]
   omega
theorem n_listcat {l m : List D} (h : l.length + m.length ≤ 1000000) : gCat (.list l) (.list m) = some (.list (l ++ m)) := by rw [n_cat, if_pos h]
theorem ways_spec {ws : List Wi} {fs : List Int} {ch : List Nat} (hw : ∀ w ∈ ws, wiOk fs.length w) (hc : ∀ i ∈ ch, i < ws.length) (hl : ch.length ≤ 1000) (wl : ws.length ≤ 1000) (fl : fs.length ≤ 1000) :
 F_all_ways [.list (ws.map wiD), .list (fs.map .int), .list ((cZ ch).map .int)] = some (.list ((allW (wif ws) (frf fs) fs.length ch ws.length).map wyD)) := by
 have hcI : ∀ c ∈ cZ ch, 0 ≤ c ∧ c < ws.length := fun c h => by
  unfold cZ at h
  obtain ⟨i, hi, rfl⟩ := List.mem_map.mp h
  have := hc i hi
  omega
 have rr : qRng1 (some [.int (fs.length : Int)]) = some (rngD 0 (fs.length : Int)) := rng1 (by omega) (by omega)
 have C1 := cMap (g := (gNl 0)) (c := (D3.tYes)) (e := (dFlat (dTup (dCons (dVar 0) (dCons (dOp gAdd (dVar 0) (dC (.int 1))) (dCons (dC (.int 0)) (dCons (dC (.none)) (dNil)))))))) (δ := [none]) (fun k : Nat => PyData.int (k : Int)) (fun k : Nat => wyD (onw k)) (List.range fs.length) (fun k _ => by
  refine ⟨[some (.d (.int (k : Int)))], rfl, rfl, ?_⟩
  simp only [EV, reduceIte, reduceAdd, reduceLT, reduceLeDiff, reduceEqDiff, reduceEq, Int.reduceLT, reduceLE, sz (show 4 ≤ 1000000 by decide)]
  rfl)
 have C2 := cFil (g := (gTn 2 (gsCons (gNl 0) (gsCons (gNl 1) (gsNil))))) (c := (tBool (dOp gLt (dCall F_held_at (dCons (dVar 2) (dCons (dVar 3) (dCons (dVar 0) (dNil))))) (dVar 1)))) (e := (dFlat (dVar 0))) (δ := [none, none, some (.d (.list (ws.map wiD))), some (.d (.list ((cZ ch).map .int)))]) (fun k : Nat => PyData.tuple [.int (k : Int), .int (fs.getD k 0)]) (fun k : Nat => decide (Be.held (wif ws) ch k < frf fs k)) (fun k : Nat => PyData.int (k : Int)) (List.range fs.length) (fun k _ => by
  refine ⟨[some (.d (.int (k : Int))), some (.d (.int (fs.getD k 0))), some (.d (.list (ws.map wiD))), some (.d (.list ((cZ ch).map .int)))], by simp only [EV, reduceIte, reduceAdd, reduceLT, reduceLeDiff, reduceEqDiff, reduceEq, Int.reduceLT, reduceLE], ?_, fun _ => by simp only [EV, reduceIte, reduceAdd, reduceLT, reduceLeDiff, reduceEqDiff, reduceEq, Int.reduceLT, reduceLE]⟩
  have hs := held_spec (ws := ws) (cs := cZ ch) (by unfold cZ; rw [List.length_map]; exact hl) hcI (k : Int)
  rw [held_eq] at hs
  simp only [EV, reduceIte, reduceAdd, reduceLT, reduceLeDiff, reduceEqDiff, reduceEq, Int.reduceLT, reduceLE, hs]
  rfl)
 have C3 := cMap (g := (gNl 0)) (c := (D3.tYes)) (e := (dFlat (dTup (dCons (dOp gAdd (dVar 0) (dC (.int 1))) (dCons (dVar 0) (dCons (dC (.int 0)) (dCons (dC (.none)) (dNil)))))))) (δ := [none]) (fun k : Nat => PyData.int (k : Int)) (fun k : Nat => wyD (bck k)) ((List.range fs.length).filter fun k : Nat => decide (Be.held (wif ws) ch k < frf fs k)).reverse (fun k _ => by
  refine ⟨[some (.d (.int (k : Int)))], rfl, rfl, ?_⟩
  simp only [EV, reduceIte, reduceAdd, reduceLT, reduceLeDiff, reduceEqDiff, reduceEq, Int.reduceLT, reduceLE, sz (show 4 ≤ 1000000 by decide)]
  rfl)
 have C4 := cMap (g := (gTn 2 (gsCons (gNl 0) (gsCons (gNl 1) (gsNil))))) (c := (D3.tYes)) (e := (dCall F_ways_of_wish (dCons (dVar 1) (dCons (dVar 0) (dCons (dVar 2) (dNil)))))) (δ := [none, none, some (.d (.list ((cZ ch).map .int)))]) (fun k : Nat => PyData.tuple [.int (k : Int), wiD (wif ws k)]) (fun k : Nat => wyD (wayOf (wif ws) ch k)) (List.range ws.length) (fun k hk => by
  have hk := List.mem_range.mp hk
  have ok : wiOk fs.length (wif ws k) := by
   unfold wif
   rw [List.getD_eq_getElem?_getD, List.getElem?_eq_getElem hk]
   exact hw _ (List.getElem_mem hk)
  refine ⟨[some (.d (.int (k : Int))), some (.d (wiD (wif ws k))), some (.d (.list ((cZ ch).map .int)))], by simp only [EV, reduceIte, reduceAdd, reduceLT, reduceLeDiff, reduceEqDiff, reduceEq, Int.reduceLT, reduceLE], rfl, ?_⟩
  simp only [EV, reduceIte, reduceAdd, reduceLT, reduceLeDiff, reduceEqDiff, reduceEq, Int.reduceLT, reduceLE, way_spec (ch := ch) ok.1 (show 0 ≤ (wif ws k).2.1 by have := ok.1; have := ok.2.1; omega)])
 have ca1 : ∀ x0 x1 x2 x3 x4 x5 : Option U, capD 1 [] [x0, x1, x2, x3, x4, x5] = [none] := fun _ _ _ _ _ _ => rfl
 have ca2 : ∀ x0 x1 x2 x3 x4 x5 : Option U, capD 2 [0, 2] [x0, x1, x2, x3, x4, x5] = [none, none, x0, x2] := fun _ _ _ _ _ _ => rfl
 have ca3 : ∀ x0 x1 x2 x3 x4 x5 : Option U, capD 2 [2] [x0, x1, x2, x3, x4, x5] = [none, none, x2] := fun _ _ _ _ _ _ => rfl
 have e1 : enumD (fs.map .int) = (List.range fs.length).map fun k : Nat => PyData.tuple [.int (k : Int), .int (fs.getD k 0)] := enum_map PyData.int fs 0
 have e2 : enumD (ws.map wiD) = (List.range ws.length).map fun k : Nat => PyData.tuple [.int (k : Int), wiD (wif ws k)] := enum_map wiD ws (0, 0, 0)
 have fll : ((List.range fs.length).filter fun k : Nat => decide (Be.held (wif ws) ch k < frf fs k)).length ≤ fs.length := by
  have := List.length_filter_le (fun k : Nat => decide (Be.held (wif ws) ch k < frf fs k)) (List.range fs.length)
  rwa [List.length_range] at this
 have g1 : gCat (.list ((List.range fs.length).map fun k : Nat => wyD (onw k))) (.list (((List.range fs.length).filter fun k : Nat => decide (Be.held (wif ws) ch k < frf fs k)).reverse.map fun k : Nat => wyD (bck k))) = some (.list (((List.range fs.length).map fun k : Nat => wyD (onw k)) ++ (((List.range fs.length).filter fun k : Nat => decide (Be.held (wif ws) ch k < frf fs k)).reverse.map fun k : Nat => wyD (bck k)))) :=
  n_listcat (by rw [List.length_map, List.length_map, List.length_range, List.length_reverse]; omega)
 have eq : (allW (wif ws) (frf fs) fs.length ch ws.length).map wyD = ((List.range fs.length).map fun k : Nat => wyD (onw k)) ++ (((List.range fs.length).filter fun k : Nat => decide (Be.held (wif ws) ch k < frf fs k)).reverse.map fun k : Nat => wyD (bck k)) ++ (List.range ws.length).map fun k : Nat => wyD (wayOf (wif ws) ch k) := by
  unfold allW
  rw [List.map_append, List.map_append, List.map_map, List.map_map, List.map_map]
  rfl
 have g2 : gCat (.list (((List.range fs.length).map fun k : Nat => wyD (onw k)) ++ (((List.range fs.length).filter fun k : Nat => decide (Be.held (wif ws) ch k < frf fs k)).reverse.map fun k : Nat => wyD (bck k)))) (.list ((List.range ws.length).map fun k : Nat => wyD (wayOf (wif ws) ch k))) = some (.list ((allW (wif ws) (frf fs) fs.length ch ws.length).map wyD)) := by
  rw [eq]
  exact n_listcat (by rw [List.length_append, List.length_map, List.length_map, List.length_map, List.length_range, List.length_range, List.length_reverse]; omega)
 unfold F_all_ways
 simp only [EV, reduceIte, reduceAdd, reduceLT, reduceLeDiff, reduceEqDiff, reduceEq, Int.reduceLT, reduceLE, lMp, rr, rng_map, Int.toNat_natCast, List.length_range, show fs.length ≤ 100000 by omega, ca1, ca2, ca3, C1, e1, C2, v_rv, v_rv_s, ← List.map_reverse, List.length_reverse, show ((List.range fs.length).filter fun k : Nat => decide (Be.held (wif ws) ch k < frf fs k)).length ≤ 100000 by omega, C3, e2, show ws.length ≤ 100000 by omega, C4, g1, g2, flats_all wyD wy_flat]
theorem pIxn {n k : Nat} (h : k < n) : pIx n (k : Int) = some k := by
 unfold pIx
 rw [if_pos (by omega), if_pos (by omega), Int.toNat_natCast]
theorem o_at {l : Lb} {v : Nat} (h : v < l.length) : pAt (l.map oD) (v : Int) = some (oD (lb l v)) := by
 have := pAt_getD oD (l := l) none (i := (v : Int)) (by omega) (by omega)
 rw [Int.toNat_natCast] at this
 exact this
theorem c_at {l : Cm} {v : Nat} (h : v < l.length) : pAt (l.map cD) (v : Int) = some (cD (cm l v)) := by
 have := pAt_getD cD (l := l) none (i := (v : Int)) (by omega) (by omega)
 rw [Int.toNat_natCast] at this
 exact this
theorem relax_spec {l : Lb} {c : Cm} {b : Bool} {w : Way} (hc : c.length = l.length) (hu : w.u < l.length) (hv : w.v < l.length) (a0 a1 : D) (y6 y7 : Option U) : ∃ z6 z7, ((sSeq (sSetl 6 (dOp gIx (dVar 2) (dOp gIx (dVar 5) (dC (.int 0))))) (sSeq (sSetl 7 (dOp gIx (dVar 2) (dOp gIx (dVar 5) (dC (.int 1))))) (sIf (D3.tAnd (tBool (dUn gNotN (dVar 6))) (D3.tOr (tBool (dUn gIsN (dVar 7))) (tBool (dOp gLt (dOp gAdd (dVar 6) (dOp gIx (dVar 5) (dC (.int 2)))) (dVar 7))))) (sSeq (sPut 2 (dOp gIx (dVar 5) (dC (.int 1))) (dOp gAdd (dVar 6) (dOp gIx (dVar 5) (dC (.int 2))))) (sSeq (sPut 3 (dOp gIx (dVar 5) (dC (.int 1))) (dVar 5)) (sSetl 4 (dC (.bool true))))) (sNil))))) [some (.d a0), some (.d a1), some (.d (.list (l.map oD))), some (.d (.list (c.map cD))), some (.d (.bool b)), some (.d (wyD w)), y6, y7] =
 some (.nx [some (.d a0), some (.d a1), some (.d (.list ((relax (l, c, b) w).1.map oD))), some (.d (.list ((relax (l, c, b) w).2.1.map cD))), some (.d (.bool (relax (l, c, b) w).2.2)), some (.d (wyD w)), z6, z7]) := by
 have i0 : gIx (wyD w) (.int 0) = some (.int (w.u : Int)) := rfl
 have i1 : gIx (wyD w) (.int 1) = some (.int (w.v : Int)) := rfl
 have i2 : gIx (wyD w) (.int 2) = some (.int w.c) := rfl
 have au := o_at hu
 have av := o_at hv
 refine ⟨some (.d (oD (lb l w.u))), some (.d (oD (lb l w.v))), ?_⟩
 have p1 : pIx l.length (w.v : Int) = some w.v := pIxn hv
 have p2 : pIx c.length (w.v : Int) = some w.v := pIxn (by rw [hc]; exact hv)
 cases eu : lb l w.u with
 | none =>
  rw [eu] at au
  have bt : better l w = false := by unfold better; rw [eu]
  unfold relax
  rw [if_neg (by rw [bt]; decide)]
  have au : pAt (l.map oD) (w.u : Int) = some .none := au
  simp only [EV, reduceIte, reduceAdd, reduceLT, reduceLeDiff, reduceEqDiff, reduceEq, Int.reduceLT, reduceLE, i0, i1, i2, au, av, Bool.not_true]
  rfl
 | some x =>
  rw [eu] at au
  have au : pAt (l.map oD) (w.u : Int) = some (.int x) := au
  have ms : (l.map oD).set w.v (.int (x + w.c)) = (l.set w.v (some (x + w.c))).map oD := by rw [List.map_set]; rfl
  have mc : (c.map cD).set w.v (wyD w) = (c.set w.v (some w)).map cD := by rw [List.map_set]; rfl
  have rx : better l w = true → relax (l, c, b) w = (l.set w.v (some (x + w.c)), c.set w.v (some w), true) := fun h => by
   unfold relax
   rw [if_pos h]
   simp only
   rw [eu]
   rfl
  cases ev : lb l w.v with
  | none =>
   rw [ev] at av
   have av : pAt (l.map oD) (w.v : Int) = some .none := av
   rw [rx (by unfold better; rw [eu, ev])]
   simp only [EV, reduceIte, reduceAdd, reduceLT, reduceLeDiff, reduceEqDiff, reduceEq, Int.reduceLT, reduceLE, i0, i1, i2, au, av, Bool.not_false, lMp, p1, p2, Option.bind_some, ms, mc]
   rfl
  | some y =>
   rw [ev] at av
   have av : pAt (l.map oD) (w.v : Int) = some (.int y) := av
   by_cases q : x + w.c < y
   ·rw [rx (by unfold better; rw [eu, ev]; exact dTr q)]
    simp only [EV, reduceIte, reduceAdd, reduceLT, reduceLeDiff, reduceEqDiff, reduceEq, Int.reduceLT, reduceLE, i0, i1, i2, au, av, Bool.not_false, dTr q, lMp, p1, p2, Option.bind_some, ms, mc]
    rfl
   ·have bt : better l w = false := by unfold better; rw [eu, ev]; exact dFa q
    unfold relax
    rw [if_neg (by rw [bt]; decide)]
    simp only [EV, reduceIte, reduceAdd, reduceLT, reduceLeDiff, reduceEqDiff, reduceEq, Int.reduceLT, reduceLE, i0, i1, i2, au, av, Bool.not_false, dFa q]
    rfl
theorem relax_len (s : Be.Stt) (w : Way) : (relax s w).1.length = s.1.length ∧ (relax s w).2.1.length = s.2.1.length := by
 unfold relax
 split
 ·exact ⟨by simp, by simp⟩
 ·exact ⟨rfl, rfl⟩
theorem fold_len : ∀ (ws : List Way) (s : Be.Stt), (ws.foldl relax s).1.length = s.1.length ∧ (ws.foldl relax s).2.1.length = s.2.1.length
 | [], s => ⟨rfl, rfl⟩
 | w :: r, s => by
  rw [List.foldl_cons]
  have h1 := fold_len r (relax s w)
  have h2 := relax_len s w
  omega
theorem pass_spec {ws : List Way} {l : Lb} {c : Cm} (hc : c.length = l.length) (rg : ∀ w ∈ ws, w.u < l.length ∧ w.v < l.length) (a0 b : D) (y5 y6 y7 : Option U) : ∃ z5 z6 z7, ((sSeq (sSetl 4 (dC (.bool false))) (sFor (fLst (dVar 1)) (gNl 5) (sSeq (sSetl 6 (dOp gIx (dVar 2) (dOp gIx (dVar 5) (dC (.int 0))))) (sSeq (sSetl 7 (dOp gIx (dVar 2) (dOp gIx (dVar 5) (dC (.int 1))))) (sIf (D3.tAnd (tBool (dUn gNotN (dVar 6))) (D3.tOr (tBool (dUn gIsN (dVar 7))) (tBool (dOp gLt (dOp gAdd (dVar 6) (dOp gIx (dVar 5) (dC (.int 2)))) (dVar 7))))) (sSeq (sPut 2 (dOp gIx (dVar 5) (dC (.int 1))) (dOp gAdd (dVar 6) (dOp gIx (dVar 5) (dC (.int 2))))) (sSeq (sPut 3 (dOp gIx (dVar 5) (dC (.int 1))) (dVar 5)) (sSetl 4 (dC (.bool true))))) (sNil))))))) [some (.d a0), some (.d (.list (ws.map wyD))), some (.d (.list (l.map oD))), some (.d (.list (c.map cD))), some (.d b), y5, y6, y7] =
 some (.nx [some (.d a0), some (.d (.list (ws.map wyD))), some (.d (.list ((pass ws l c).1.map oD))), some (.d (.list ((pass ws l c).2.1.map cD))), some (.d (.bool (pass ws l c).2.2)), z5, z6, z7]) := by
 obtain ⟨δ', e, z5, z6, z7, rfl⟩ := for_inv (g := (gNl 5)) (b := (sSeq (sSetl 6 (dOp gIx (dVar 2) (dOp gIx (dVar 5) (dC (.int 0))))) (sSeq (sSetl 7 (dOp gIx (dVar 2) (dOp gIx (dVar 5) (dC (.int 1))))) (sIf (D3.tAnd (tBool (dUn gNotN (dVar 6))) (D3.tOr (tBool (dUn gIsN (dVar 7))) (tBool (dOp gLt (dOp gAdd (dVar 6) (dOp gIx (dVar 5) (dC (.int 2)))) (dVar 7))))) (sSeq (sPut 2 (dOp gIx (dVar 5) (dC (.int 1))) (dOp gAdd (dVar 6) (dOp gIx (dVar 5) (dC (.int 2))))) (sSeq (sPut 3 (dOp gIx (dVar 5) (dC (.int 1))) (dVar 5)) (sSetl 4 (dC (.bool true))))) (sNil))))) (fun i δ => ∃ y5 y6 y7 : Option U, δ = [some (.d a0), some (.d (.list (ws.map wyD))), some (.d (.list (((ws.take i).foldl relax (l, c, false)).1.map oD))), some (.d (.list (((ws.take i).foldl relax (l, c, false)).2.1.map cD))), some (.d (.bool ((ws.take i).foldl relax (l, c, false)).2.2)), y5, y6, y7]) (ws.map wyD)
  [some (.d a0), some (.d (.list (ws.map wyD))), some (.d (.list (l.map oD))), some (.d (.list (c.map cD))), some (.d (.bool false)), y5, y6, y7] ⟨y5, y6, y7, rfl⟩
  (by
   rintro i d δ hd ⟨y5, y6, y7, rfl⟩
   rw [List.getElem?_map] at hd
   cases hw : ws[i]? with
   | none => rw [hw] at hd; cases hd
   | some w =>
    rw [hw] at hd
    cases hd
    have hm := List.mem_of_getElem? hw
    have L := fold_len (ws.take i) (l, c, false)
    have L1 : ((ws.take i).foldl relax (l, c, false)).1.length = l.length := L.1
    have L2 : ((ws.take i).foldl relax (l, c, false)).2.1.length = l.length := by rw [L.2]; exact hc
    obtain ⟨z6, z7, ez⟩ := relax_spec (l := ((ws.take i).foldl relax (l, c, false)).1) (c := ((ws.take i).foldl relax (l, c, false)).2.1) (b := ((ws.take i).foldl relax (l, c, false)).2.2) (w := w) (by rw [L1, L2]) (by rw [L1]; exact (rg w hm).1) (by rw [L1]; exact (rg w hm).2) a0 (.list (ws.map wyD)) y6 y7
    refine ⟨_, _, rfl, .inl ez, some (.d (wyD w)), z6, z7, ?_⟩
    have tk : ws.take (i + 1) = ws.take i ++ [w] := by rw [List.take_add_one, hw]; rfl
    rw [tk, List.foldl_append]
    rfl)
 refine ⟨z5, z6, z7, ?_⟩
 rw [List.length_map, List.take_length] at e
 unfold pass
 simp only [EV, reduceIte, reduceAdd, reduceLT, reduceLeDiff, reduceEqDiff, reduceEq, Int.reduceLT, reduceLE, e]
theorem run_spec {ws : List Way} {a0 : D} {l l' : Lb} {c c' : Cm} (R : Runs ws l c l' c') : c.length = l.length → (∀ w ∈ ws, w.u < l.length ∧ w.v < l.length) → ∀ y5 y6 y7 : Option U, ∃ n z5 z6 z7, whileD ((tBool (dVar 4))) ((sSeq (sSetl 4 (dC (.bool false))) (sFor (fLst (dVar 1)) (gNl 5) (sSeq (sSetl 6 (dOp gIx (dVar 2) (dOp gIx (dVar 5) (dC (.int 0))))) (sSeq (sSetl 7 (dOp gIx (dVar 2) (dOp gIx (dVar 5) (dC (.int 1))))) (sIf (D3.tAnd (tBool (dUn gNotN (dVar 6))) (D3.tOr (tBool (dUn gIsN (dVar 7))) (tBool (dOp gLt (dOp gAdd (dVar 6) (dOp gIx (dVar 5) (dC (.int 2)))) (dVar 7))))) (sSeq (sPut 2 (dOp gIx (dVar 5) (dC (.int 1))) (dOp gAdd (dVar 6) (dOp gIx (dVar 5) (dC (.int 2))))) (sSeq (sPut 3 (dOp gIx (dVar 5) (dC (.int 1))) (dVar 5)) (sSetl 4 (dC (.bool true))))) (sNil))))))) n [some (.d a0), some (.d (.list (ws.map wyD))), some (.d (.list (l.map oD))), some (.d (.list (c.map cD))), some (.d (.bool true)), y5, y6, y7] =
 some (.nx [some (.d a0), some (.d (.list (ws.map wyD))), some (.d (.list (l'.map oD))), some (.d (.list (c'.map cD))), some (.d (.bool false)), z5, z6, z7]) := by
 induction R with
 | @done l c q =>
  intro hc rg y5 y6 y7
  obtain ⟨z5, z6, z7, ez⟩ := pass_spec hc rg a0 (.bool true) y5 y6 y7
  have F := (Be.fold_false ws (l, c, false) q).1
  have F : pass ws l c = (l, c, false) := F
  rw [F] at ez
  have e2 : whileD ((tBool (dVar 4))) ((sSeq (sSetl 4 (dC (.bool false))) (sFor (fLst (dVar 1)) (gNl 5) (sSeq (sSetl 6 (dOp gIx (dVar 2) (dOp gIx (dVar 5) (dC (.int 0))))) (sSeq (sSetl 7 (dOp gIx (dVar 2) (dOp gIx (dVar 5) (dC (.int 1))))) (sIf (D3.tAnd (tBool (dUn gNotN (dVar 6))) (D3.tOr (tBool (dUn gIsN (dVar 7))) (tBool (dOp gLt (dOp gAdd (dVar 6) (dOp gIx (dVar 5) (dC (.int 2)))) (dVar 7))))) (sSeq (sPut 2 (dOp gIx (dVar 5) (dC (.int 1))) (dOp gAdd (dVar 6) (dOp gIx (dVar 5) (dC (.int 2))))) (sSeq (sPut 3 (dOp gIx (dVar 5) (dC (.int 1))) (dVar 5)) (sSetl 4 (dC (.bool true))))) (sNil))))))) 1 [some (.d a0), some (.d (.list (ws.map wyD))), some (.d (.list (l.map oD))), some (.d (.list (c.map cD))), some (.d (.bool false)), z5, z6, z7] = some (.nx [some (.d a0), some (.d (.list (ws.map wyD))), some (.d (.list (l.map oD))), some (.d (.list (c.map cD))), some (.d (.bool false)), z5, z6, z7]) := by
   rw [whileD, show ((tBool (dVar 4))) [some (.d a0), some (.d (.list (ws.map wyD))), some (.d (.list (l.map oD))), some (.d (.list (c.map cD))), some (.d (.bool false)), z5, z6, z7] = some false from rfl, Option.bind_some, if_neg (by decide)]
  refine ⟨2, z5, z6, z7, ?_⟩
  rw [whileD, show ((tBool (dVar 4))) [some (.d a0), some (.d (.list (ws.map wyD))), some (.d (.list (l.map oD))), some (.d (.list (c.map cD))), some (.d (.bool true)), y5, y6, y7] = some true from rfl, Option.bind_some, if_pos rfl, ez]
  exact e2
 | @step l l' c c' q R ih =>
  intro hc rg y5 y6 y7
  obtain ⟨z5, z6, z7, ez⟩ := pass_spec hc rg a0 (.bool true) y5 y6 y7
  rw [q] at ez
  have L := fold_len ws (l, c, false)
  have L1 : (pass ws l c).1.length = l.length := L.1
  have L2 : (pass ws l c).2.1.length = l.length := by unfold pass; rw [L.2]; exact hc
  obtain ⟨n, w5, w6, w7, en⟩ := ih (by rw [L1, L2]) (fun w hw => by rw [L1]; exact rg w hw) z5 z6 z7
  refine ⟨n + 1, w5, w6, w7, ?_⟩
  rw [whileD, show ((tBool (dVar 4))) [some (.d a0), some (.d (.list (ws.map wyD))), some (.d (.list (l.map oD))), some (.d (.list (c.map cD))), some (.d (.bool true)), y5, y6, y7] = some true from rfl, Option.bind_some, if_pos rfl, ez]
  exact en
theorem rep_d {d : D} {k : Int} (h : k ≤ 1000000) (h' : -(2 ^ 63) ≤ k) : gRep (.list [d]) (.int k) = some (.list (List.replicate k.toNat d)) := by
 show (if [d].length * k.toNat ≤ 1000000 ∧ -(2 ^ 63) ≤ k ∧ k < 2 ^ 63 then some (PyData.list (List.replicate k.toNat [d]).flatten) else none) = _
 rw [if_pos ⟨by simp only [List.length_cons, List.length_nil]; omega, h', by omega⟩]
 congr 2
 generalize k.toNat = n
 induction n with
 | zero => rfl
 | succ n ih => rw [List.replicate_succ, List.flatten_cons, ih, List.replicate_succ]; rfl
theorem cheapest_spec {ws : List Way} {c0 l : Lb} {c : Cm} (hl : c0.length ≤ 1000) (rg : ∀ w ∈ ws, w.u < c0.length ∧ w.v < c0.length) (R : Runs ws c0 (List.replicate c0.length none) l c) :
 F_cheapest [.list (c0.map oD), .list (ws.map wyD)] = some (.tuple [.list (l.map oD), .list (c.map cD)]) := by
 obtain ⟨n, z5, z6, z7, e⟩ := run_spec (a0 := .list (c0.map oD)) R List.length_replicate rg none none none
 have e' := sWhile_of e
 have rp : gRep (.list [.none]) (.int (c0.length : Int)) = some (.list ((List.replicate c0.length (none : Option Way)).map cD)) := by
  rw [rep_d (by omega) (by omega), Int.toNat_natCast, List.map_replicate]
  rfl
 unfold F_cheapest
 simp only [EV, reduceIte, reduceAdd, reduceLT, reduceLeDiff, reduceEqDiff, reduceEq, Int.reduceLT, reduceLE, lMp, rp, e', flats_all oD o_flat, flats_all cD c_flat', sz (show 1 ≤ 1000000 by decide), sz (show 2 ≤ 1000000 by decide)]
theorem plc_cons (w : Way) (P : List Way) : (plc (w :: P)).map (fun i : Nat => PyData.int (i : Int)) = (match w.p with | none => [] | some i => [PyData.int (i : Int)]) ++ (plc P).map fun i : Nat => PyData.int (i : Int) := by
 unfold plc
 cases e : w.p with
 | none => rw [List.filterMap_cons_none e]; rfl
 | some i => rw [List.filterMap_cons_some e]; rfl
theorem back_loop {c : Cm} {b v : Nat} {P : List Way} (h : PathTo c b v P) : (∀ w ∈ P, w.u < c.length ∧ w.v < c.length) → ∀ (acc : List D) (a2 : D) (y5 : Option U), acc.length + P.length ≤ 100000 → ∃ n z5, whileD ((tBool (dOp gNe (dVar 4) (dVar 1)))) ((sSeq (sSetl 5 (dOp gIx (dVar 0) (dVar 4))) (sSeq (sIf (tBool (dUn gNotN (dOp gIx (dVar 5) (dC (.int 3))))) (sApp 3 (dOp gIx (dVar 5) (dC (.int 3)))) (sNil)) (sSetl 4 (dOp gIx (dVar 5) (dC (.int 0))))))) n [some (.d (.list (c.map cD))), some (.d (.int (b : Int))), some (.d a2), some (.d (.list acc)), some (.d (.int (v : Int))), y5] =
 some (.nx [some (.d (.list (c.map cD))), some (.d (.int (b : Int))), some (.d a2), some (.d (.list (acc ++ (plc P).map fun i : Nat => PyData.int (i : Int)))), some (.d (.int (b : Int))), z5]) := by
 induction h with
 | nil =>
  intro _ acc a2 y5 _
  refine ⟨1, y5, ?_⟩
  rw [whileD]
  simp only [EV, reduceIte, reduceAdd, reduceLT, reduceLeDiff, reduceEqDiff, reduceEq, Int.reduceLT, reduceLE, dTr (show (b : Int) = (b : Int) from rfl), Bool.not_true]
  show some _ = _
  rw [show (plc []).map (fun i : Nat => PyData.int (i : Int)) = [] from rfl, List.append_nil]
 | @cons v w P h1 h2 h3 h4 ih =>
  intro rg acc a2 y5 hl
  have r := rg w (List.mem_cons_self ..)
  have ca := c_at (l := c) (v := v) (by rw [← h3]; exact r.2)
  rw [h2] at ca
  have ca : pAt (c.map cD) (v : Int) = some (wyD w) := ca
  have i0 : gIx (wyD w) (.int 0) = some (.int (w.u : Int)) := rfl
  have i3 : gIx (wyD w) (.int 3) = some (plD w.p) := rfl
  rw [List.length_cons] at hl
  cases ep : w.p with
  | none =>
   obtain ⟨n, z5, en⟩ := ih (fun w hw => rg w (List.mem_cons_of_mem _ hw)) acc a2 (some (.d (wyD w))) (by omega)
   refine ⟨n + 1, z5, ?_⟩
   rw [plc_cons, ep]
   rw [ep] at i3
   have i3 : gIx (wyD w) (.int 3) = some .none := i3
   rw [whileD]
   simp only [EV, reduceIte, reduceAdd, reduceLT, reduceLeDiff, reduceEqDiff, reduceEq, Int.reduceLT, reduceLE, dFa (show ¬ (v : Int) = (b : Int) by omega), Bool.not_false, Option.bind_some, ca, i0, i3, Bool.not_true]
   exact en
  | some i =>
   obtain ⟨n, z5, en⟩ := ih (fun w hw => rg w (List.mem_cons_of_mem _ hw)) (acc ++ [.int (i : Int)]) a2 (some (.d (wyD w))) (by rw [List.length_append]; simp; omega)
   refine ⟨n + 1, z5, ?_⟩
   rw [plc_cons, ep]
   rw [ep] at i3
   have i3 : gIx (wyD w) (.int 3) = some (.int (i : Int)) := i3
   rw [whileD]
   simp only [EV, reduceIte, reduceAdd, reduceLT, reduceLeDiff, reduceEqDiff, reduceEq, Int.reduceLT, reduceLE, dFa (show ¬ (v : Int) = (b : Int) by omega), Bool.not_false, Option.bind_some, ca, i0, i3, show acc.length < 1000000 by omega]
   rw [List.append_assoc] at en
   exact en
theorem back_spec {c : Cm} {b v : Nat} {P : List Way} (h : PathTo c b v P) (rg : ∀ w ∈ P, w.u < c.length ∧ w.v < c.length) (hl : P.length ≤ 10000) : F_places_on_the_way [.list (c.map cD), .int (b : Int), .int (v : Int)] = some (.list ((cZ (plc P)).map .int)) := by
 obtain ⟨n, z5, e⟩ := back_loop h rg [] (.int (v : Int)) none (by simp; omega)
 have e' := sWhile_of e
 have m : (plc P).map (fun i : Nat => PyData.int (i : Int)) = (cZ (plc P)).map .int := by unfold cZ; rw [List.map_map]; rfl
 rw [List.nil_append, m] at e'
 unfold F_places_on_the_way
 simp only [EV, reduceIte, reduceAdd, reduceLT, reduceLeDiff, reduceEqDiff, reduceEq, Int.reduceLT, reduceLE, e', flats_ints, sz (show 0 ≤ 1000000 by decide)]
end Com
namespace Com
open PySem D3 My
open Be (Way Lb Cm lb cm wayOf onw bck allW relax better pass Runs PathTo plc nch src More ChOk Good)
theorem seq_ex {c f : Str} {d : D} {b : FS} : qS (some (.ex c f d)) b = some (.ex c f d) := rfl
theorem allW_congr {wi wi' : Nat → Wi} {fr : Nat → Int} {N : Nat} {ch : List Nat} {k : Nat} (h : ∀ i, i < k → wi i = wi' i) (hc : ∀ i ∈ ch, i < k) : allW wi fr N ch k = allW wi' fr N ch k := by
 have hh : ∀ n, Be.held wi ch n = Be.held wi' ch n := fun n => by
  unfold Be.held
  rw [List.map_congr_left (fun i hi => by rw [h i (hc i hi)])]
 unfold allW
 rw [show (fun n => decide (Be.held wi ch n < fr n)) = fun n => decide (Be.held wi' ch n < fr n) from funext fun n => by rw [hh n], List.map_congr_left (l := List.range k) (g := wayOf wi' ch) (fun i hi => by unfold wayOf; rw [h i (List.mem_range.mp hi)])]
theorem wif_ok {ws : List Wi} {n : Int} (hw : ∀ w ∈ ws, wiOk n w) {i : Nat} (hi : i < ws.length) : wiOk n (wif ws i) := by
 unfold wif
 rw [List.getD_eq_getElem?_getD, List.getElem?_eq_getElem hi]
 exact hw _ (List.getElem_mem hi)
theorem wif_be {ws : List Wi} {N : Nat} (hw : ∀ w ∈ ws, wiOk (N : Int) w) {i : Nat} (hi : i < ws.length) : Be.WiOk N (wif ws i) := by
 obtain ⟨a, b, c, d, _⟩ := wif_ok hw hi
 exact ⟨a, b, c, d⟩
theorem ne_bool (a b : Bool) : gNe (.bool a) (.bool b) = some (.bool (a != b)) := by cases a <;> cases b <;> rfl
theorem cZ_map (l : List Nat) : (cZ l).map PyData.int = l.map fun i : Nat => PyData.int (i : Int) := by unfold cZ; rw [List.map_map]; rfl
theorem one_spec {ws : List Wi} {fs : List Int} {ch ch' : List Nat} {k : Nat} (hw : ∀ w ∈ ws, wiOk fs.length w) (hk : k < ws.length) (hc : ∀ i ∈ ch, i < k) (hl : ch.length ≤ 1000) (wl : ws.length ≤ 1000) (fl : fs.length ≤ 900) (M : More (wif ws) (frf fs) fs.length k ch ch') :
 F_with_one_more [.list (ws.map wiD), .list (fs.map .int), .list ((cZ ch).map .int), .int (k : Int)] = some (.list ((cZ ch').map .int)) := by
 obtain ⟨l, c, R, ll, lc, q⟩ := M
 have ok := wif_ok hw hk
 have o1 := ok.1; have o2 := ok.2.1; have o3 := ok.2.2.1
 have e1 : pAt (ws.map wiD) (k : Int) = some (wiD (wif ws k)) := by
  have := pAt_getD wiD (l := ws) (0, 0, 0) (i := (k : Int)) (by omega) (by omega)
  rw [Int.toNat_natCast] at this
  exact this
 have i0 : gIx (wiD (wif ws k)) (.int 0) = some (.int (wif ws k).1) := rfl
 have i1 : gIx (wiD (wif ws k)) (.int 1) = some (.int (wif ws k).2.1) := rfl
 have i2 : gIx (wiD (wif ws k)) (.int 2) = some (.int (wif ws k).2.2) := rfl
 have cut : cutD (ws.map wiD) none (some (k : Int)) = (ws.take k).map wiD := by rw [cutTk (by omega), Int.toNat_natCast, List.map_take]
 have tl : (ws.take k).length = k := by rw [List.length_take]; omega
 have W := ways_spec (ws := ws.take k) (fs := fs) (ch := ch) (fun w hw' => hw w (List.mem_of_mem_take hw')) (fun i hi => by rw [tl]; exact hc i hi) hl (by omega) (by omega)
 rw [tl, allW_congr (wi' := wif ws) (fun i hi => by unfold wif; rw [List.getD_eq_getElem?_getD, List.getD_eq_getElem?_getD, List.getElem?_take_of_lt hi]) hc] at W
 have rp : gRep (.list [.none]) (.int ((fs.length : Int) + 1)) = some (.list (List.replicate (fs.length + 1) .none)) := by
  rw [rep_d (by omega) (by omega), show ((fs.length : Int) + 1).toNat = fs.length + 1 by omega]
 have px : pIx (fs.length + 1) (wif ws k).2.1 = some (wif ws k).2.1.toNat := by
  have := pIxn (n := fs.length + 1) (k := (wif ws k).2.1.toNat) (by omega)
  rwa [Int.toNat_of_nonneg (by omega)] at this
 have sr : (List.replicate (fs.length + 1) PyData.none).set (wif ws k).2.1.toNat (.int 0) = (src (fs.length + 1) (wif ws k).2.1.toNat).map oD := by
  unfold src
  rw [List.map_set, List.map_replicate]
  rfl
 have sl : (src (fs.length + 1) (wif ws k).2.1.toNat).length = fs.length + 1 := by unfold src; rw [List.length_set, List.length_replicate]
 have rg : ∀ w ∈ allW (wif ws) (frf fs) fs.length ch k, w.u < fs.length + 1 ∧ w.v < fs.length + 1 := fun w h => Be.allW_rg (fun i hi => wif_be hw (by omega)) h
 have Ch := cheapest_spec (ws := allW (wif ws) (frf fs) fs.length ch k) (c0 := src (fs.length + 1) (wif ws k).2.1.toNat) (l := l) (c := c) (by rw [sl]; omega) (fun w h => by rw [sl]; exact rg w h) (by rw [sl]; exact R)
 have la := o_at (l := l) (v := (wif ws k).1.toNat) (by rw [ll]; omega)
 rw [Int.toNat_of_nonneg o1] at la
 obtain ⟨m, hm⟩ : ∃ m, fs.length + 1 = m := ⟨_, rfl⟩
 rw [hm] at rp px sr Ch
 unfold F_with_one_more
 rcases q with ⟨h, rfl⟩ | ⟨y, P, ey, hy, hP, pr, plen, rfl⟩
 ·cases ea : lb l (wif ws k).1.toNat with
  | none =>
   rw [ea] at la
   have la : pAt (l.map oD) (wif ws k).1 = some .none := la
   simp only [EV, reduceIte, reduceAdd, reduceLT, reduceLeDiff, reduceEqDiff, reduceEq, Int.reduceLT, reduceLE, v_fnL, v_fnL_ex, seq_ex, v_retL, v_retL_s, e1, i0, i1, i2, cut, W, lMp, rp, List.length_replicate, px, Option.bind_some, sr, Ch, la, at0, sz (show 1 ≤ 1000000 by decide)]
  | some y =>
   rw [ea] at la
   have la : pAt (l.map oD) (wif ws k).1 = some (.int y) := la
   simp only [EV, reduceIte, reduceAdd, reduceLT, reduceLeDiff, reduceEqDiff, reduceEq, Int.reduceLT, reduceLE, v_fnL, v_fnL_ex, seq_ex, v_retL, v_retL_s, e1, i0, i1, i2, cut, W, lMp, rp, List.length_replicate, px, Option.bind_some, sr, Ch, la, at0, dTr (h y ea), sz (show 1 ≤ 1000000 by decide)]
 ·rw [ey] at la
  have la : pAt (l.map oD) (wif ws k).1 = some (.int y) := la
  have Bk := back_spec hP (fun w h => by rw [lc]; exact pr w h) (by omega)
  rw [Int.toNat_of_nonneg o1, Int.toNat_of_nonneg (show 0 ≤ (wif ws k).2.1 by omega)] at Bk
  have pll : (plc P).length ≤ P.length := by unfold plc; exact List.length_filterMap_le _ _
  have gc : gCat (.list ((cZ (plc P)).map .int)) (.list [.int (k : Int)]) = some (.list ((cZ (plc P ++ [k])).map .int)) := by
   rw [n_listcat (by rw [List.length_map]; unfold cZ; rw [List.length_map]; simp only [List.length_cons, List.length_nil]; omega)]
   unfold cZ
   rw [List.map_append, List.map_append]
   rfl
  have rr : qRng1 (some [.int ((k : Int) + 1)]) = some (rngD 0 ((k : Int) + 1)) := rng1 (by omega) (by omega)
  have C := cFil (g := (gNl 0)) (c := (tBool (dOp gNe (dOp gIn (dVar 0) (dVar 1)) (dOp gIn (dVar 0) (dVar 2))))) (e := (dFlat (dVar 0))) (δ := [none, some (.d (.list ((cZ ch).map .int))), some (.d (.list ((cZ (plc P ++ [k])).map .int)))]) (fun i : Nat => PyData.int (i : Int)) (fun i : Nat => (decide (i ∈ ch)) != (decide (i ∈ plc P ++ [k]))) (fun i : Nat => PyData.int (i : Int)) (List.range (k + 1)) (fun i _ => by
   refine ⟨[some (.d (.int (i : Int))), some (.d (.list ((cZ ch).map .int))), some (.d (.list ((cZ (plc P ++ [k])).map .int)))], rfl, ?_, fun _ => by simp only [EV, reduceIte, reduceAdd, reduceLT, reduceLeDiff, reduceEqDiff, reduceEq, Int.reduceLT, reduceLE]⟩
   have g1 := in_ch ch i
   have g2 := in_ch (plc P ++ [k]) i
   generalize decide (i ∈ ch) = b1 at g1 ⊢
   generalize decide (i ∈ plc P ++ [k]) = b2 at g2 ⊢
   simp only [EV, reduceIte, reduceAdd, reduceLT, reduceLeDiff, reduceEqDiff, reduceEq, Int.reduceLT, reduceLE, g1, g2, ne_bool])
  have ca : ∀ x0 x1 x2 x3 x4 x5 x6 x7 x8 : Option U, capD 1 [2, 8] [x0, x1, x2, x3, x4, x5, x6, x7, x8] = [none, x2, x8] := fun _ _ _ _ _ _ _ _ _ => rfl
  have rm : rngD 0 ((k : Int) + 1) = (List.range (k + 1)).map fun i : Nat => PyData.int (i : Int) := by rw [rng_map, show ((k : Int) + 1).toNat = k + 1 by omega]
  have fin : ((List.range (k + 1)).filter fun i : Nat => (decide (i ∈ ch)) != (decide (i ∈ plc P ++ [k]))).map (fun i : Nat => PyData.int (i : Int)) = (cZ (nch ch (plc P) k)).map .int := by rw [cZ_map]; rfl
  rw [fin] at C
  simp only [EV, reduceIte, reduceAdd, reduceLT, reduceLeDiff, reduceEqDiff, reduceEq, Int.reduceLT, reduceLE, v_fnL, v_fnL_ex, seq_ex, v_retL, v_retL_s, e1, i0, i1, i2, cut, W, lMp, rp, List.length_replicate, px, Option.bind_some, sr, Ch, la, at0, at1, dFa (show ¬ (wif ws k).2.2 ≤ y by omega), Bk, gc, rr, rm, List.length_range, show k + 1 ≤ 100000 by omega, ca, C, sz (show 1 ≤ 1000000 by decide)]
def plist (d : Nat → Int) (N : Nat) : List Pr := ((List.range N).filter fun n => decide (0 < Be.prc d n)).map fun n : Nat => ((n : Int), Be.prc d n)
theorem pricesof_spec {ws : List Wi} {fs : List Int} {ch : List Nat} {l : Lb} {c : Cm} (hw : ∀ w ∈ ws, wiOk fs.length w) (hc : ∀ i ∈ ch, i < ws.length) (hl : ch.length ≤ 1000) (wl : ws.length ≤ 1000) (fl : fs.length ≤ 900)
 (R : Runs (allW (wif ws) (frf fs) fs.length ch ws.length) (List.replicate (fs.length + 1) (some 0)) (List.replicate (fs.length + 1) none) l c) (ll : l.length = fs.length + 1) (al : ∀ v, v < fs.length + 1 → ∃ y, lb l v = some y) :
 F_prices_of [.list (ws.map wiD), .list (fs.map .int), .list ((cZ ch).map .int)] = some (.list ((plist (fun v => (lb l v).getD 0) fs.length).map prD)) := by
 have W := ways_spec (ws := ws) (fs := fs) (ch := ch) hw hc hl wl (by omega)
 have rp : gRep (.list [.int 0]) (.int ((fs.length : Int) + 1)) = some (.list ((List.replicate (fs.length + 1) (some (0 : Int))).map oD)) := by
  rw [rep_d (by omega) (by omega), show ((fs.length : Int) + 1).toNat = fs.length + 1 by omega, List.map_replicate]
  rfl
 have Ch := cheapest_spec (ws := allW (wif ws) (frf fs) fs.length ch ws.length) (c0 := List.replicate (fs.length + 1) (some 0)) (l := l) (c := c) (by rw [List.length_replicate]; omega) (fun w h => by rw [List.length_replicate]; exact Be.allW_rg (fun i hi => wif_be hw hi) h) (by rw [List.length_replicate]; exact R)
 have rr : qRng1 (some [.int (fs.length : Int)]) = some (rngD 0 (fs.length : Int)) := rng1 (by omega) (by omega)
 have at' : ∀ v : Nat, v < fs.length + 1 → pAt (l.map oD) (v : Int) = some (.int ((lb l v).getD 0)) := fun v hv => by
  obtain ⟨y, e⟩ := al v hv
  rw [o_at (by rw [ll]; exact hv), e]
  rfl
 have C1 := cMap (g := (gNl 0)) (c := (D3.tYes)) (e := (dFlat (dTup (dCons (dVar 0) (dCons (dOp gSub (dOp gIx (dVar 1) (dVar 0)) (dOp gIx (dVar 1) (dOp gAdd (dVar 0) (dC (.int 1))))) (dNil)))))) (δ := [none, some (.d (.list (l.map oD)))]) (fun k : Nat => PyData.int (k : Int)) (fun k : Nat => prD ((k : Int), Be.prc (fun v => (lb l v).getD 0) k)) (List.range fs.length) (fun k hk => by
  have hk := List.mem_range.mp hk
  have a1 := at' k (by omega)
  have a2 := at' (k + 1) (by omega)
  rw [show ((k + 1 : Nat) : Int) = (k : Int) + 1 by omega] at a2
  refine ⟨[some (.d (.int (k : Int))), some (.d (.list (l.map oD)))], rfl, rfl, ?_⟩
  simp only [EV, reduceIte, reduceAdd, reduceLT, reduceLeDiff, reduceEqDiff, reduceEq, Int.reduceLT, reduceLE, a1, a2, sz (show 2 ≤ 1000000 by decide)]
  rfl)
 have C2 := cFil (g := (gTn 2 (gsCons (gNl 0) (gsCons (gNl 1) (gsNil))))) (c := (tBool (dOp gGt (dVar 1) (dC (.int 0))))) (e := (dFlat (dTup (dCons (dVar 0) (dCons (dVar 1) (dNil)))))) (δ := [none, none]) (fun k : Nat => prD ((k : Int), Be.prc (fun v => (lb l v).getD 0) k)) (fun k : Nat => decide (0 < Be.prc (fun v => (lb l v).getD 0) k)) (fun k : Nat => prD ((k : Int), Be.prc (fun v => (lb l v).getD 0) k)) (List.range fs.length) (fun k _ => by
  refine ⟨[some (.d (.int (k : Int))), some (.d (.int (Be.prc (fun v => (lb l v).getD 0) k)))], by unfold prD; simp only [EV, reduceIte, reduceAdd, reduceLT, reduceLeDiff, reduceEqDiff, reduceEq, Int.reduceLT, reduceLE], ?_, fun _ => ?_⟩
  ·simp only [EV, reduceIte, reduceAdd, reduceLT, reduceLeDiff, reduceEqDiff, reduceEq, Int.reduceLT, reduceLE]
  ·simp only [EV, reduceIte, reduceAdd, reduceLT, reduceLeDiff, reduceEqDiff, reduceEq, Int.reduceLT, reduceLE, sz (show 2 ≤ 1000000 by decide)]
   rfl)
 have ca1 : ∀ x0 x1 x2 x3 x4 : Option U, capD 1 [3] [x0, x1, x2, x3, x4] = [none, x3] := fun _ _ _ _ _ => rfl
 have ca2 : ∀ x0 x1 x2 x3 x4 : Option U, capD 2 [] [x0, x1, x2, x3, x4] = [none, none] := fun _ _ _ _ _ => rfl
 have fin : ((List.range fs.length).filter fun k : Nat => decide (0 < Be.prc (fun v => (lb l v).getD 0) k)).map (fun k : Nat => prD ((k : Int), Be.prc (fun v => (lb l v).getD 0) k)) = (plist (fun v => (lb l v).getD 0) fs.length).map prD := by
  unfold plist
  rw [List.map_map]
  rfl
 rw [fin] at C2
 obtain ⟨m, hm⟩ : ∃ m, fs.length + 1 = m := ⟨_, rfl⟩
 rw [hm] at rp Ch
 unfold F_prices_of
 simp only [EV, reduceIte, reduceAdd, reduceLT, reduceLeDiff, reduceEqDiff, reduceEq, Int.reduceLT, reduceLE, lMp, rp, W, Ch, at0, rr, rng_map, Int.toNat_natCast, List.length_range, show fs.length ≤ 100000 by omega, ca1, ca2, C1, C2, sz (show 1 ≤ 1000000 by decide)]
theorem worth_eq (ws : List Wi) (ch : List Nat) : worthI ws (cZ ch) = Be.worth (wif ws) ch := by
 unfold worthI Be.worth cZ
 rw [List.map_map]
 rfl
end Com
namespace Be
abbrev Mk := List (Wi × Bool)
def mheld (zs : Mk) (n : Nat) : Int := (zs.map fun z => if z.2 = true then cov z.1 n else 0).sum
def mworth (zs : Mk) : Int := (zs.map fun z => if z.2 = true then z.1.2.2 else 0).sum
def Fits (fr : Nat → Int) (N : Nat) (zs : Mk) : Prop := ∀ n, n < N → mheld zs n ≤ fr n
structure IsMax (ws : List Wi) (fr : Nat → Int) (N : Nat) (v : Int) : Prop where
 has : ∃ zs : Mk, zs.map (·.1) = ws ∧ Fits fr N zs ∧ mworth zs = v
 top : ∀ zs : Mk, zs.map (·.1) = ws → Fits fr N zs → mworth zs ≤ v
def gainW (d : Nat → Int) (w : Wi) : Int := w.2.2 - (d w.1.toNat - d w.2.1.toNat)
def bnd (ws : List Wi) (fr : Nat → Int) (N : Nat) (d : Nat → Int) : Int := (ws.map fun w => max 0 (gainW d w)).sum + S (fun n => prc d n * fr n) N
theorem sum_range (f : Nat → Int) : ∀ k, ((List.range k).map f).sum = S f k
 | 0 => rfl
 | k + 1 => by rw [List.range_succ, List.map_append, List.sum_append, sum_range f k]; simp [S]
structure Bst (ws : List Wi) (fr : Nat → Int) (N : Nat) (d : Nat → Int) (v : Int) : Prop where
 mx : IsMax ws fr N v
 pp : ∀ n, n < N → 0 ≤ prc d n
 eq : v = bnd ws fr N d
section
variable {ws : List Wi} {fr fr' : Nat → Int} {N : Nat} {d : Nat → Int} {v v' : Int}
end
end Be
namespace Com
open PySem D3 My
open Be (ChOk Good allW IsMax Bst)
theorem fsum {α : Type} (P : Nat → Bool) (f : Nat → α) (Q : α → Bool) (g : α → Int) : ∀ l : List Nat, ((((l.filter P).map f).filter Q).map g).sum = (l.map fun n => if P n = true ∧ Q (f n) = true then g (f n) else 0).sum
 | [] => rfl
 | a :: r => by
  have ih := fsum P f Q g r
  rw [List.map_cons, List.sum_cons, ← ih]
  by_cases p : P a = true
  ·rw [List.filter_cons_of_pos p, List.map_cons]
   by_cases q : Q (f a) = true
   ·rw [List.filter_cons_of_pos q, List.map_cons, List.sum_cons, if_pos ⟨p, q⟩]
   ·rw [List.filter_cons_of_neg q, if_neg (fun z => q z.2), Int.zero_add]
  ·rw [List.filter_cons_of_neg p, if_neg (fun z => p z.1), Int.zero_add]
theorem cost_plist {d : Nat → Int} {N : Nat} (hp : ∀ n, n < N → 0 ≤ Be.prc d n) {a b : Int} (h0 : 0 ≤ a) (h1 : a ≤ b) (h2 : b ≤ N) : costI (plist d N) a b = d a.toNat - d b.toNat := by
 unfold costI plist
 rw [fsum, Be.sum_range, ← Be.S_tel d a.toNat b.toNat (by omega) N (by omega)]
 refine Be.S_congr fun n hn => ?_
 have p := hp n hn
 simp only [decide_eq_true_eq, Bool.and_eq_true]
 by_cases c : a.toNat ≤ n ∧ n < b.toNat
 ·rw [if_pos c]
  by_cases q : 0 < Be.prc d n
  ·rw [if_pos ⟨q, by omega, by omega⟩]; rfl
  ·rw [if_neg (fun z => q z.1)]
   have : Be.prc d n = 0 := by omega
   exact this.symm
 ·rw [if_neg c, if_neg (by omega)]
theorem plist_len (d : Nat → Int) (N : Nat) : (plist d N).length ≤ N := by
 unfold plist
 rw [List.length_map]
 have := List.length_filter_le (fun n => decide (0 < Be.prc d n)) (List.range N)
 rwa [List.length_range] at this
end Com
namespace Com
open PySem D3 My
theorem all_bools {α : Type} (f : α → Bool) (l : List α) : gAll [.list (l.map fun a => PyData.bool (f a))] = some (.bool (l.all f)) := by
 have : boolsD (l.map fun a => PyData.bool (f a)) = some (l.map f) := by
  induction l with
  | nil => rfl
  | cons a r ih => rw [List.map_cons, boolsD, ih]; rfl
 show (boolsD _).map _ = _
 rw [this]
 simp [List.all_map]
def inB (ws : List Wi) (cs : List Int) : Bool := cs.all fun c => decide (0 ≤ c) && decide (c < (ws.length : Int))
def riB (cs : List Int) : Bool := (cs.zip (cs.drop 1)).all fun p => decide (p.1 < p.2)
def fiB (ws : List Wi) (fs cs : List Int) : Bool := (List.range fs.length).all fun n : Nat => decide ((heldI ws cs (n : Int) : Int) ≤ fs.getD n 0)
def chB (ws : List Wi) (fs cs : List Int) : Bool := (riB cs && inB ws cs) && fiB ws fs cs
theorem zip_prs : ∀ a b : List Int, zipD (a.map .int) (b.map .int) = (a.zip b).map prD
 | [], _ => by simp [zipD]
 | _ :: _, [] => by simp [zipD]
 | x :: r, y :: s => by
  show PyData.tuple [.int x, .int y] :: zipD (r.map .int) (s.map .int) = _
  rw [zip_prs r s]
  rfl
theorem rising_gen {l : List Int} (hl : l.length ≤ 1000) : Com.F_is_rising [.list (l.map .int)] = some (.bool (riB l)) := by
 have C := cMap (g := (gTn 2 (gsCons (gNl 0) (gsCons (gNl 1) (gsNil))))) (c := (D3.tYes)) (e := (dOp gLt (dVar 0) (dVar 1))) (δ := [none, none]) prD (fun p => .bool (decide (p.1 < p.2))) (l.zip (l.drop 1)) (fun p h => ⟨[some (.d (.int p.1)), some (.d (.int p.2))], rfl, rfl, by simp only [EV, reduceIte, reduceAdd, reduceLT, reduceLeDiff, reduceEqDiff, reduceEq, Int.reduceLT, reduceLE]⟩)
 have ca : ∀ a : Option U, capD 2 [] [a] = [none, none] := fun _ => rfl
 have ct : cutD (l.map .int) (some 1) none = (l.drop 1).map .int := by
  rw [cutDr (by decide), List.map_drop]
  rfl
 have pl : (l.zip (l.drop 1)).length ≤ 1000 := by rw [List.length_zip]; omega
 unfold Com.F_is_rising
 simp only [EV, reduceIte, reduceAdd, reduceLT, reduceLeDiff, reduceEqDiff, reduceEq, Int.reduceLT, reduceLE, ct, zip_prs, lMp, show (l.zip (l.drop 1)).length ≤ 100000 by omega, ca, C, all_bools]
 rfl
theorem fits_gen {ws : List Wi} {fs cs : List Int} (hl : cs.length ≤ 1000) (fl : fs.length ≤ 1000) (hin : ∀ c ∈ cs, 0 ≤ c ∧ c < ws.length) : Com.F_fits [.list (ws.map wiD), .list (fs.map .int), .list (cs.map .int)] = some (.bool (fiB ws fs cs)) := by
 have C3 := cMap (g := (gTn 2 (gsCons (gNl 0) (gsCons (gNl 1) (gsNil))))) (c := (D3.tYes)) (e := (dOp gLe (dCall F_held_at (dCons (dVar 2) (dCons (dVar 3) (dCons (dVar 0) (dNil))))) (dVar 1))) (δ := [none, none, some (.d (.list (ws.map wiD))), some (.d (.list (cs.map .int)))]) (fun k : Nat => PyData.tuple [.int (k : Int), .int (fs.getD k 0)]) (fun n : Nat => .bool (decide ((heldI ws cs (n : Int) : Int) ≤ fs.getD n 0))) (List.range fs.length) (fun k hk => by
  refine ⟨[some (.d (.int (k : Int))), some (.d (.int (fs.getD k 0))), some (.d (.list (ws.map wiD))), some (.d (.list (cs.map .int)))], rfl, rfl, ?_⟩
  simp only [EV, reduceIte, reduceAdd, reduceLT, reduceLeDiff, reduceEqDiff, reduceEq, Int.reduceLT, reduceLE, held_spec hl hin])
 have cc : ∀ a b c : Option U, capD 2 [0, 2] [a, b, c] = [none, none, a, c] := fun _ _ _ => rfl
 unfold Com.F_fits
 simp only [EV, reduceIte, reduceAdd, reduceLT, reduceLeDiff, reduceEqDiff, reduceEq, Int.reduceLT, reduceLE, enum_ints, lMp, List.length_range, show fs.length ≤ 100000 by omega, cc, C3, all_bools]
 rfl
theorem in_iff {ws : List Wi} {cs : List Int} : inB ws cs = true ↔ ∀ c ∈ cs, 0 ≤ c ∧ c < ws.length := by
 unfold inB
 simp [List.all_eq_true]
theorem holds_gen {ws : List Wi} {cs : List Int} (hl : cs.length ≤ 1000) (h : ∀ c ∈ cs, 0 ≤ c ∧ c < ws.length) (n : Int) : Com.F__law_holds [.list (ws.map wiD), .list (cs.map .int), .int n] = some (.int (heldI ws cs n : Int)) := by
 have C := cFil (g := (gNl 0)) (c := (D3.tAnd (tBool (dOp gLe (dOp gIx (dOp gIx (dVar 2) (dVar 0)) (dC (.int 0))) (dVar 1))) (tBool (dOp gLt (dVar 1) (dOp gIx (dOp gIx (dVar 2) (dVar 0)) (dC (.int 1))))))) (e := (dFlat (dVar 0))) (δ := [none, some (.d (.int n)), some (.d (.list (ws.map wiD)))]) PyData.int (fun c => hbN n (wn (wat ws c))) PyData.int cs (fun c hc => by
  have e := pAt_getD wiD (0, 0, 0) (h c hc).1 (h c hc).2
  have w0 : gIx (wiD (ws.getD c.toNat (0, 0, 0))) (.int 0) = some (.int (ws.getD c.toNat (0, 0, 0)).1) := rfl
  have w1 : gIx (wiD (ws.getD c.toNat (0, 0, 0))) (.int 1) = some (.int (ws.getD c.toNat (0, 0, 0)).2.1) := rfl
  refine ⟨[some (.d (.int c)), some (.d (.int n)), some (.d (.list (ws.map wiD)))], rfl, ?_, fun _ => rfl⟩
  unfold hbN wn wat
  by_cases q : (ws.getD c.toNat (0, 0, 0)).1 ≤ n
  ·simp only [EV, reduceIte, reduceAdd, reduceLT, reduceLeDiff, reduceEqDiff, reduceEq, Int.reduceLT, reduceLE, e, w0, w1, dTr q]
   rfl
  ·simp only [EV, reduceIte, reduceAdd, reduceLT, reduceLeDiff, reduceEqDiff, reduceEq, Int.reduceLT, reduceLE, e, w0, w1, dFa q]
   rfl)
 have ca : ∀ a b c : Option U, capD 1 [2, 0] [a, b, c] = [none, c, a] := fun _ _ _ => rfl
 unfold Com.F__law_holds
 simp only [EV, reduceIte, reduceAdd, reduceLT, reduceLeDiff, reduceEqDiff, reduceEq, Int.reduceLT, reduceLE, lMp, show cs.length ≤ 100000 by omega, ca, C]
 rfl
def okAt (ws : List Wi) (cs : List Int) (k : Nat) : Bool := (decide (0 ≤ cs.getD k 0) && decide (cs.getD k 0 < (ws.length : Int))) && (decide (k = 0) || decide (cs.getD (k - 1) 0 < cs.getD k 0))
theorem ri_iff {cs : List Int} : riB cs = true ↔ ∀ k, k + 1 < cs.length → cs.getD k 0 < cs.getD (k + 1) 0 := by
 unfold riB
 rw [List.all_eq_true]
 constructor
 ·intro h k hk
  have hz : (cs.zip (cs.drop 1))[k]? = some (cs.getD k 0, cs.getD (k + 1) 0) := by
   rw [List.getElem?_zip_eq_some]
   constructor
   ·show cs[k]? = some (cs.getD k 0)
    rw [List.getD_eq_getElem?_getD, List.getElem?_eq_getElem (by omega)]; rfl
   ·show (cs.drop 1)[k]? = some (cs.getD (k + 1) 0)
    rw [List.getElem?_drop, List.getD_eq_getElem?_getD, show 1 + k = k + 1 by omega, List.getElem?_eq_getElem hk]; rfl
  exact of_decide_eq_true (h _ (List.mem_of_getElem? hz))
 ·intro h p hp
  obtain ⟨k, hk⟩ := List.mem_iff_getElem?.mp hp
  obtain ⟨h1, h2⟩ := List.getElem?_zip_eq_some.mp hk
  rw [List.getElem?_drop, show 1 + k = k + 1 by omega] at h2
  obtain ⟨l2, _⟩ := List.getElem?_eq_some_iff.mp h2
  have := h k l2
  rw [List.getD_eq_getElem?_getD, List.getD_eq_getElem?_getD, h1, h2] at this
  exact dTr this
theorem ok_iff {ws : List Wi} {cs : List Int} : (riB cs && inB ws cs) = true ↔ ∀ k, k < cs.length → okAt ws cs k = true := by
 rw [Bool.and_eq_true, ri_iff, in_iff]
 constructor
 ·rintro ⟨h1, h2⟩ k hk
  unfold okAt
  have m := h2 (cs.getD k 0) (by rw [List.getD_eq_getElem?_getD, List.getElem?_eq_getElem hk]; exact List.getElem_mem hk)
  rw [dTr m.1, dTr m.2]
  by_cases z : k = 0
  ·rw [dTr z]; rfl
  ·have := h1 (k - 1) (by omega)
   rw [show k - 1 + 1 = k by omega] at this
   rw [dTr this, dFa z]
   rfl
 ·intro h
  constructor
  ·intro k hk
   have := h (k + 1) hk
   unfold okAt at this
   simp only [Bool.and_eq_true, Bool.or_eq_true, decide_eq_true_eq, Nat.add_sub_cancel] at this
   rcases this.2 with z | z
   ·omega
   ·exact z
  ·intro c hc
   obtain ⟨k, hk, rfl⟩ := List.mem_iff_getElem.mp hc
   have := h k hk
   unfold okAt at this
   simp only [Bool.and_eq_true, Bool.or_eq_true, decide_eq_true_eq] at this
   have e : cs.getD k 0 = cs[k] := by rw [List.getD_eq_getElem?_getD, List.getElem?_eq_getElem hk]; rfl
   rw [e] at this
   exact this.1
section
variable {ws : List Wi} {fs cs : List Int}
theorem lic_step (y3 y4 : Option U) {k : Nat} (hk : k < cs.length) : ((sIf (D3.tOr (D3.tNot (tBool (dChain gLe gLt (dC (.int 0)) (dOp gIx (dVar 2) (dVar 3)) (dCall gLen (dCons (dVar 0) (dNil)))))) (D3.tAnd (tBool (dOp gGt (dVar 3) (dC (.int 0)))) (tBool (dOp gLe (dOp gIx (dVar 2) (dVar 3)) (dOp gIx (dVar 2) (dOp gSub (dVar 3) (dC (.int 1)))))))) (sRet (dC (.bool false))) (sNil))) [some (.d (.list (ws.map wiD))), some (.d (.list (fs.map .int))), some (.d (.list (cs.map .int))), some (.d (.int (k : Int))), y4] = if okAt ws cs k = true then some (.nx [some (.d (.list (ws.map wiD))), some (.d (.list (fs.map .int))), some (.d (.list (cs.map .int))), some (.d (.int (k : Int))), y4]) else some (.rt (.bool false)) := by
 have e := pAt_getD PyData.int (l := cs) 0 (i := (k : Int)) (by omega) (by omega)
 rw [Int.toNat_natCast] at e
 have okT : ∀ b, okAt ws cs k = b → ((decide (0 ≤ cs.getD k 0) && decide (cs.getD k 0 < (ws.length : Int))) && (decide (k = 0) || decide (cs.getD (k - 1) 0 < cs.getD k 0))) = b := fun b h => h
 by_cases c1 : 0 ≤ cs.getD k 0
 ·by_cases c2 : cs.getD k 0 < (ws.length : Int)
  ·by_cases z : k = 0
   ·have ok : okAt ws cs k = true := by unfold okAt; rw [dTr c1, dTr c2, dTr z]; rfl
    rw [ok, if_pos rfl]
    simp only [EV, reduceIte, reduceAdd, reduceLT, reduceLeDiff, reduceEqDiff, reduceEq, Int.reduceLT, reduceLE, e, lMp, dTr c1, dTr c2, dFa (show ¬ (k : Int) > 0 by omega)]
   ·have e1 := pAt_getD PyData.int (l := cs) 0 (i := (k : Int) - 1) (by omega) (by omega)
    rw [show ((k : Int) - 1).toNat = k - 1 by omega] at e1
    have zp : (k : Int) > 0 := by omega
    by_cases c3 : cs.getD (k - 1) 0 < cs.getD k 0
    ·have ok : okAt ws cs k = true := by unfold okAt; rw [dTr c1, dTr c2, dTr c3, dFa z]; rfl
     rw [ok, if_pos rfl]
     simp only [EV, reduceIte, reduceAdd, reduceLT, reduceLeDiff, reduceEqDiff, reduceEq, Int.reduceLT, reduceLE, e, e1, lMp, dTr c1, dTr c2, dTr zp, dFa (show ¬ cs.getD k 0 ≤ cs.getD (k - 1) 0 by omega)]
    ·have ok : okAt ws cs k = false := by unfold okAt; rw [dTr c1, dTr c2, dFa c3, dFa z]; rfl
     rw [ok, if_neg (by decide)]
     simp only [EV, reduceIte, reduceAdd, reduceLT, reduceLeDiff, reduceEqDiff, reduceEq, Int.reduceLT, reduceLE, e, e1, lMp, dTr c1, dTr c2, dTr zp, dTr (show cs.getD k 0 ≤ cs.getD (k - 1) 0 by omega)]
  ·have ok : okAt ws cs k = false := by unfold okAt; rw [dTr c1, dFa c2]; rfl
   rw [ok, if_neg (by decide)]
   simp only [EV, reduceIte, reduceAdd, reduceLT, reduceLeDiff, reduceEqDiff, reduceEq, Int.reduceLT, reduceLE, e, lMp, dTr c1, dFa c2]
 ·have ok : okAt ws cs k = false := by unfold okAt; rw [dFa c1]; rfl
  rw [ok, if_neg (by decide)]
  simp only [EV, reduceIte, reduceAdd, reduceLT, reduceLeDiff, reduceEqDiff, reduceEq, Int.reduceLT, reduceLE, e, lMp, dFa c1]
theorem lic_gen (hl : cs.length ≤ 1000) (fl : fs.length ≤ 1000) : Com.F__law_is_choice [.list (ws.map wiD), .list (fs.map .int), .list (cs.map .int)] = some (.bool (chB ws fs cs)) := by
 have rr : qRng1 (some [.int (cs.length : Int)]) = some (rngD 0 (cs.length : Int)) := rng1 (by omega) (by omega)
 have r2 : qRng1 (some [.int (fs.length : Int)]) = some (rngD 0 (fs.length : Int)) := rng1 (by omega) (by omega)
 have rl : ∀ n : Nat, (rngD 0 (n : Int)).length = n := fun n => by unfold rngD; rw [List.length_map, List.length_range]; omega
 unfold Com.F__law_is_choice
 rcases first_or (fun k => !okAt ws cs k) cs.length with ⟨m, hm, hp, hn⟩ | hn
 ·have bad : chB ws fs cs = false := by
   unfold chB
   cases q : riB cs && inB ws cs with
   | false => rfl
   | true =>
    have := ok_iff.mp q m hm
    rw [this] at hp
    cases hp
  have e := for_find (g := (gNl 3)) (b := (sIf (D3.tOr (D3.tNot (tBool (dChain gLe gLt (dC (.int 0)) (dOp gIx (dVar 2) (dVar 3)) (dCall gLen (dCons (dVar 0) (dNil)))))) (D3.tAnd (tBool (dOp gGt (dVar 3) (dC (.int 0)))) (tBool (dOp gLe (dOp gIx (dVar 2) (dVar 3)) (dOp gIx (dVar 2) (dOp gSub (dVar 3) (dC (.int 1)))))))) (sRet (dC (.bool false))) (sNil))) (fun _ δ => ∃ y3, δ = [some (.d (.list (ws.map wiD))), some (.d (.list (fs.map .int))), some (.d (.list (cs.map .int))), y3, none]) (v := .bool false) m (rngD 0 (cs.length : Int))
   [some (.d (.list (ws.map wiD))), some (.d (.list (fs.map .int))), some (.d (.list (cs.map .int))), none, none] ⟨none, rfl⟩ (by rw [rl]; exact hm)
   (by
    rintro i d δ hi hd ⟨y3, rfl⟩
    obtain ⟨hk, rfl⟩ := rng_get hd
    refine ⟨_, _, rfl, ?_, some (.d (.int (i : Int))), rfl⟩
    refine (lic_step (ws := ws) (fs := fs) none none (show i < cs.length by omega)).trans ?_
    have := hn i hi
    rw [if_pos (by simpa using this)])
   (by
    rintro d δ hd ⟨y3, rfl⟩
    obtain ⟨hk, rfl⟩ := rng_get hd
    refine ⟨_, rfl, ?_⟩
    refine (lic_step (ws := ws) (fs := fs) none none hm).trans ?_
    rw [if_neg (by simpa using hp)])
  simp only [EV, reduceIte, reduceAdd, reduceLT, reduceLeDiff, reduceEqDiff, reduceEq, Int.reduceLT, reduceLE, lMp, rr, e]
  rw [bad]
 ·have good : (riB cs && inB ws cs) = true := ok_iff.mpr fun k hk => by simpa using hn k hk
  have hin := in_iff.mp (Bool.and_eq_true_iff.mp good).2
  obtain ⟨δ', e, y3, rfl⟩ := for_inv (g := (gNl 3)) (b := (sIf (D3.tOr (D3.tNot (tBool (dChain gLe gLt (dC (.int 0)) (dOp gIx (dVar 2) (dVar 3)) (dCall gLen (dCons (dVar 0) (dNil)))))) (D3.tAnd (tBool (dOp gGt (dVar 3) (dC (.int 0)))) (tBool (dOp gLe (dOp gIx (dVar 2) (dVar 3)) (dOp gIx (dVar 2) (dOp gSub (dVar 3) (dC (.int 1)))))))) (sRet (dC (.bool false))) (sNil))) (fun _ δ => ∃ y3, δ = [some (.d (.list (ws.map wiD))), some (.d (.list (fs.map .int))), some (.d (.list (cs.map .int))), y3, none]) (rngD 0 (cs.length : Int))
   [some (.d (.list (ws.map wiD))), some (.d (.list (fs.map .int))), some (.d (.list (cs.map .int))), none, none] ⟨none, rfl⟩
   (by
    rintro i d δ hd ⟨y3, rfl⟩
    obtain ⟨hk, rfl⟩ := rng_get hd
    refine ⟨_, _, rfl, .inl ?_, some (.d (.int (i : Int))), rfl⟩
    refine (lic_step (ws := ws) (fs := fs) none none (show i < cs.length by omega)).trans ?_
    have := hn i (by omega)
    rw [if_pos (by simpa using this)])
  have B2 : ∀ (n : Nat), n < fs.length → ((sIf (tBool (dOp gGt (dCall F__law_holds (dCons (dVar 0) (dCons (dVar 2) (dCons (dVar 4) (dNil))))) (dOp gIx (dVar 1) (dVar 4)))) (sRet (dC (.bool false))) (sNil))) [some (.d (.list (ws.map wiD))), some (.d (.list (fs.map .int))), some (.d (.list (cs.map .int))), y3, some (.d (.int (n : Int)))] = if (decide ((heldI ws cs (n : Int) : Int) ≤ fs.getD n 0)) = true then some (.nx [some (.d (.list (ws.map wiD))), some (.d (.list (fs.map .int))), some (.d (.list (cs.map .int))), y3, some (.d (.int (n : Int)))]) else some (.rt (.bool false)) := fun n hn => by
   have en := pAt_getD PyData.int (l := fs) 0 (i := (n : Int)) (by omega) (by omega)
   rw [Int.toNat_natCast] at en
   by_cases c : (heldI ws cs (n : Int) : Int) ≤ fs.getD n 0
   ·rw [dTr c, if_pos rfl]
    simp only [EV, reduceIte, reduceAdd, reduceLT, reduceLeDiff, reduceEqDiff, reduceEq, Int.reduceLT, reduceLE, holds_gen hl hin, en, dFa (show ¬ (heldI ws cs (n : Int) : Int) > fs.getD n 0 by omega)]
   ·rw [dFa c, if_neg (by decide)]
    simp only [EV, reduceIte, reduceAdd, reduceLT, reduceLeDiff, reduceEqDiff, reduceEq, Int.reduceLT, reduceLE, holds_gen hl hin, en, dTr (show (heldI ws cs (n : Int) : Int) > fs.getD n 0 by omega)]
  rcases first_or (fun n => !decide ((heldI ws cs (n : Int) : Int) ≤ fs.getD n 0)) fs.length with ⟨m, hm, hp, hn2⟩ | hn2
  ·have bad : chB ws fs cs = false := by
    unfold chB
    rw [good]
    show fiB ws fs cs = false
    cases q : fiB ws fs cs with
    | false => rfl
    | true =>
     unfold fiB at q
     have := List.all_eq_true.mp q m (List.mem_range.mpr hm)
     rw [this] at hp
     cases hp
   have e2 := for_find (g := (gNl 4)) (b := (sIf (tBool (dOp gGt (dCall F__law_holds (dCons (dVar 0) (dCons (dVar 2) (dCons (dVar 4) (dNil))))) (dOp gIx (dVar 1) (dVar 4)))) (sRet (dC (.bool false))) (sNil))) (fun _ δ => ∃ y4, δ = [some (.d (.list (ws.map wiD))), some (.d (.list (fs.map .int))), some (.d (.list (cs.map .int))), y3, y4]) (v := .bool false) m (rngD 0 (fs.length : Int))
    [some (.d (.list (ws.map wiD))), some (.d (.list (fs.map .int))), some (.d (.list (cs.map .int))), y3, none] ⟨none, rfl⟩ (by rw [rl]; exact hm)
    (by
     rintro i d δ hi hd ⟨y4, rfl⟩
     obtain ⟨hk, rfl⟩ := rng_get hd
     refine ⟨_, _, rfl, ?_, some (.d (.int (i : Int))), rfl⟩
     refine (B2 i (by omega)).trans ?_
     have := hn2 i hi
     rw [if_pos (by simpa using this)])
    (by
     rintro d δ hd ⟨y4, rfl⟩
     obtain ⟨hk, rfl⟩ := rng_get hd
     refine ⟨_, rfl, ?_⟩
     refine (B2 m hm).trans ?_
     rw [if_neg (by simpa using hp)])
   simp only [EV, reduceIte, reduceAdd, reduceLT, reduceLeDiff, reduceEqDiff, reduceEq, Int.reduceLT, reduceLE, lMp, rr, e, r2, e2]
   rw [bad]
  ·have gd : chB ws fs cs = true := by
    unfold chB
    rw [good]
    show fiB ws fs cs = true
    unfold fiB
    rw [List.all_eq_true]
    intro n hn'
    simpa using hn2 n (List.mem_range.mp hn')
   obtain ⟨δ2, e2, y4, rfl⟩ := for_inv (g := (gNl 4)) (b := (sIf (tBool (dOp gGt (dCall F__law_holds (dCons (dVar 0) (dCons (dVar 2) (dCons (dVar 4) (dNil))))) (dOp gIx (dVar 1) (dVar 4)))) (sRet (dC (.bool false))) (sNil))) (fun _ δ => ∃ y4, δ = [some (.d (.list (ws.map wiD))), some (.d (.list (fs.map .int))), some (.d (.list (cs.map .int))), y3, y4]) (rngD 0 (fs.length : Int))
    [some (.d (.list (ws.map wiD))), some (.d (.list (fs.map .int))), some (.d (.list (cs.map .int))), y3, none] ⟨none, rfl⟩
    (by
     rintro i d δ hd ⟨y4, rfl⟩
     obtain ⟨hk, rfl⟩ := rng_get hd
     refine ⟨_, _, rfl, .inl ?_, some (.d (.int (i : Int))), rfl⟩
     refine (B2 i (by omega)).trans ?_
     have := hn2 i (by omega)
     rw [if_pos (by simpa using this)])
   simp only [EV, reduceIte, reduceAdd, reduceLT, reduceLeDiff, reduceEqDiff, reduceEq, Int.reduceLT, reduceLE, lMp, rr, e, r2, e2]
   rw [gd]
end
end Com
namespace K55
open PySem D3
noncomputable abbrev F_is_whole : List D → Option D := Com.F_is_whole
noncomputable def F_all_whole : List D → Option D := fnD 1 0 (sRet (dCall gAll (dCons (dComp (fSeq (dVar 0)) (gNl 0) (tYes) (dCall F_is_whole (dCons (dVar 0) (dNil))) 1 []) (dNil))))
noncomputable def F_is_tuple_of : List D → Option D := fnD 2 0 (sRet (dAnd (dUn (gIs "tuple") (dVar 0)) (dAnd (dOp gEq (dCall gLen (dCons (dVar 0) (dNil))) (dVar 1)) (dCall F_all_whole (dCons (dVar 0) (dNil))))))
noncomputable def F_is_pair : List D → Option D := fnD 1 0 (sRet (dCall F_is_tuple_of (dCons (dVar 0) (dCons (dC (.int 2)) (dNil)))))
noncomputable def F_is_whole_list : List D → Option D := fnD 1 0 (sRet (dAnd (dUn (gIs "list") (dVar 0)) (dCall F_all_whole (dCons (dVar 0) (dNil)))))
noncomputable abbrev F_is_rising : List D → Option D := Com.F_is_rising
noncomputable abbrev F_nights_of : List D → Option D := Com.F_nights_of
noncomputable abbrev F_holds : List D → Option D := Com.F_holds
noncomputable abbrev F_count_at : List D → Option D := Com.F_count_at
noncomputable abbrev F_is_wish_for : List D → Option D := Com.F_is_wish_for
noncomputable abbrev F_check_wishes : List D → Option D := Com.F_check_wishes
noncomputable abbrev F_cost : List D → Option D := Com.F_cost
noncomputable abbrev F_worth_of : List D → Option D := Com.F_worth_of
noncomputable abbrev F_held_at : List D → Option D := Com.F_held_at
noncomputable abbrev F_fits : List D → Option D := Com.F_fits
noncomputable def F_is_place_list : List D → Option D := fnD 2 0 (sRet (dAnd (dCall F_is_whole_list (dCons (dVar 1) (dNil))) (dAnd (dCall F_is_rising (dCons (dVar 1) (dNil))) (dCall gAll (dCons (dComp (fLst (dVar 1)) (gNl 0) (tYes) (dChain gLe gLt (dC (.int 0)) (dVar 0) (dCall gLen (dCons (dVar 1) (dNil)))) 1 [0]) (dNil))))))
noncomputable def F_is_choice : List D → Option D := fnD 3 0 (sSeq (sExpr (dCall F_check_wishes (dCons (dVar 0) (dCons (dVar 1) (dNil)))))
 (sRet (dAnd (dCall F_is_place_list (dCons (dVar 0) (dCons (dVar 2) (dNil)))) (dCall F_fits (dCons (dVar 0) (dCons (dVar 1) (dCons (dVar 2) (dNil))))))))
noncomputable def F_is_price : List D → Option D := fnD 2 0 (sRet (dAnd (dCall F_is_pair (dCons (dVar 1) (dNil))) (dAnd (dChain gLe gLt (dC (.int 0)) (dOp gIx (dVar 1) (dC (.int 0))) (dCall gLen (dCons (dVar 0) (dNil)))) (dOp gGe (dOp gIx (dVar 1) (dC (.int 1))) (dC (.int 1))))))
noncomputable def F_is_price_list : List D → Option D := fnD 2 0 (sSeq (sIf (D3.tOr (D3.tNot (tBool (dUn (gIs "list") (dVar 1)))) (D3.tNot (tBool (dCall gAll (dCons (dComp (fLst (dVar 1)) (gNl 0) (tYes) (dCall F_is_price (dCons (dVar 1) (dCons (dVar 0) (dNil)))) 1 [0]) (dNil)))))) (sRet (dC (.bool false))) (sNil))
 (sRet (dCall F_is_rising (dCons (dComp (fLst (dVar 1)) (gTn 2 (gsCons (gNl 0) (gsCons (gNl 1) (gsNil)))) (tYes) (dFlat (dVar 0)) 2 []) (dNil)))))
noncomputable abbrev F_gain : List D → Option D := Com.F_gain
noncomputable abbrev F_sold_out : List D → Option D := Com.F_sold_out
noncomputable def F_is_best : List D → Option D := fnD 4 2 (sSeq (sIf (D3.tOr (D3.tNot (tBool (dCall F_is_choice (dCons (dVar 0) (dCons (dVar 1) (dCons (dVar 2) (dNil))))))) (D3.tNot (tBool (dCall F_is_price_list (dCons (dVar 1) (dCons (dVar 3) (dNil))))))) (sRet (dC (.bool false))) (sNil))
 (sSeq (sFor (fEnum (dVar 0)) (gTn 2 (gsCons (gNl 4) (gsCons (gNl 5) (gsNil)))) (sSeq (sIf (D3.tAnd (tBool (dOp gIn (dVar 4) (dVar 2))) (tBool (dOp gLt (dCall F_gain (dCons (dVar 5) (dCons (dVar 3) (dNil)))) (dC (.int 0))))) (sRet (dC (.bool false))) (sNil))
 (sIf (D3.tAnd (tBool (dOp gNotin (dVar 4) (dVar 2))) (tBool (dOp gGt (dCall F_gain (dCons (dVar 5) (dCons (dVar 3) (dNil)))) (dC (.int 0))))) (sRet (dC (.bool false))) (sNil))))
 (sRet (dCall F_sold_out (dCons (dVar 0) (dCons (dVar 1) (dCons (dVar 2) (dCons (dVar 3) (dNil)))))))))
noncomputable abbrev F_has_room : List D → Option D := Com.F_has_room
noncomputable abbrev F_by_turns : List D → Option D := Com.F_by_turns
noncomputable abbrev F_ways_of_wish : List D → Option D := Com.F_ways_of_wish
noncomputable abbrev F_all_ways : List D → Option D := Com.F_all_ways
noncomputable abbrev F_cheapest : List D → Option D := Com.F_cheapest
noncomputable abbrev F_places_on_the_way : List D → Option D := Com.F_places_on_the_way
noncomputable abbrev F_with_one_more : List D → Option D := Com.F_with_one_more
noncomputable abbrev F_prices_of : List D → Option D := Com.F_prices_of
noncomputable abbrev F_best : List D → Option D := Com.F_best
noncomputable abbrev F__law_cell : List D → Option D := Com.F__law_cell
noncomputable abbrev F__law_part : List D → Option D := Com.F__law_part
noncomputable abbrev F__law_row : List D → Option D := Com.F__law_row
noncomputable abbrev F__law_free : List D → Option D := Com.F__law_free
noncomputable abbrev F__law_wishes : List D → Option D := Com.F__law_wishes
noncomputable abbrev F__law_prices : List D → Option D := Com.F__law_prices
noncomputable abbrev F__law_cost : List D → Option D := Com.F__law_cost
noncomputable abbrev F__law_holds : List D → Option D := Com.F__law_holds
noncomputable abbrev F__law_is_choice : List D → Option D := Com.F__law_is_choice
noncomputable abbrev F__law_is_best : List D → Option D := Com.F__law_is_best
noncomputable abbrev F__law_other_choice : List D → Option D := Com.F__law_other_choice
noncomputable def F__law_other_prices : List D → Option D := fnD 3 5 (sSeq (sSetl 3 (dUn gList (dVar 0)))
 (sSeq (sSetl 4 (dOp gMod (dOp gIx (dVar 2) (dC (.int 0))) (dC (.int 6))))
 (sSeq (sIf (D3.tOr (tBool (dOp gEq (dVar 4) (dC (.int 0)))) (tBool (dOp gEq (dVar 3) (dLst (dNil))))) (sSeq (sIns 3 (dOp gMod (dOp gIx (dVar 2) (dC (.int 1))) (dOp gAdd (dCall gLen (dCons (dVar 3) (dNil))) (dC (.int 1)))) (dTup (dCons (dOp gMod (dOp gIx (dVar 2) (dC (.int 2))) (dOp gAdd (dVar 1) (dC (.int 1)))) (dCons (dOp gAdd (dC (.int 1)) (dOp gMod (dOp gIx (dVar 2) (dC (.int 3))) (dC (.int 5)))) (dNil)))))
 (sSeq (sIf (tBool (dOp gEq (dOp gMod (dOp gDiv (dOp gIx (dVar 2) (dC (.int 2))) (dC (.int 64))) (dC (.int 2))) (dC (.int 0)))) (sSetl 3 (dCall XS.gSortP (dCons (dVar 3) (dNil)))) (sNil))
 (sRet (dFl1 (dVar 3))))) (sNil))
 (sSeq (sSetl 5 (dOp gMod (dOp gIx (dVar 2) (dC (.int 1))) (dCall gLen (dCons (dVar 3) (dNil)))))
 (sSeq (sAsg (dOp gIx (dVar 3) (dVar 5)) (gTn 2 (gsCons (gNl 6) (gsCons (gNl 7) (gsNil)))))
 (sSeq (sIf (tBool (dOp gLt (dVar 4) (dC (.int 3)))) (sPut 3 (dVar 5) (dTup (dCons (dVar 6) (dCons (dOp gAdd (dVar 7) (dOp gIx (dLst (dCons (dC (.int 1)) (dCons (dUn gNeg (dC (.int 1))) (dCons (dUn gNeg (dVar 7)) (dCons (dOp gMod (dOp gIx (dVar 2) (dC (.int 3))) (dOp gPow (dC (.int 10)) (dC (.int 9)))) (dNil)))))) (dOp gMod (dOp gIx (dVar 2) (dC (.int 2))) (dC (.int 4))))) (dNil))))) (sIf (tBool (dOp gEq (dVar 4) (dC (.int 3)))) (sPopI 3 (dVar 5)) (sIf (tBool (dOp gEq (dVar 4) (dC (.int 4)))) (sPut 3 (dVar 5) (dTup (dCons (dOp gAdd (dVar 6) (dOp gIx (dLst (dCons (dC (.int 1)) (dCons (dUn gNeg (dC (.int 1))) (dCons (dVar 1) (dCons (dUn gNeg (dVar 1)) (dNil)))))) (dOp gMod (dOp gIx (dVar 2) (dC (.int 2))) (dC (.int 4))))) (dCons (dVar 7) (dNil))))) (sRev 3))))
 (sRet (dFl1 (dVar 3)))))))))
noncomputable def F__law_told : List D → Option D := fnD 5 3 (sSeq (sSetl 5 (dTup (dCons (dUn gList (dVar 2)) (dCons (dUn gList (dVar 3)) (dNil)))))
 (sSeq (sSetl 6 (dTup (dCons (dUn gList (dVar 0)) (dCons (dUn gList (dVar 1)) (dNil)))))
 (sSeq (sSetl 7 (dCall F_is_best (dCons (dOp gIx (dVar 6) (dC (.int 0))) (dCons (dOp gIx (dVar 6) (dC (.int 1))) (dCons (dVar 2) (dCons (dVar 3) (dNil)))))))
 (sSeq (sIf (D3.tOr (tBool (dOp gNe (dVar 6) (dTup (dCons (dVar 0) (dCons (dVar 1) (dNil)))))) (tBool (dOp gNe (dVar 5) (dTup (dCons (dVar 2) (dCons (dVar 3) (dNil))))))) (sRet (dC (.bool false))) (sNil))
 (sRet (dAnd (dUn (gIs "bool") (dVar 7)) (dOp gEq (dVar 7) (dVar 4))))))))
noncomputable def F__law_odd : List D → Option D := fnD 4 1 (sSeq (sFor (fLst (dLst (dCons (dC (.none)) (dCons (dC (.int 0)) (dCons (dC (.bool true)) (dCons (dC (.str "")) (dCons (dTup (dNil)) (dCons (dC (.dict [])) (dCons (dLst (dCons (dC (.none)) (dNil))) (dCons (dLst (dCons (dC (.bool true)) (dNil))) (dCons (dLst (dCons (dC (.str "0")) (dNil))) (dCons (dLst (dCons (dLst (dCons (dC (.int 0)) (dNil))) (dNil))) (dCons (dLst (dCons (dTup (dCons (dC (.int 0)) (dCons (dC (.int 1)) (dNil)))) (dNil))) (dCons (dUn gTupL (dVar 2)) (dNil))))))))))))))) (gNl 4) (sIf (tBool (dUn gIsT (dCall F_is_best (dCons (dVar 0) (dCons (dVar 1) (dCons (dVar 4) (dCons (dVar 3) (dNil)))))))) (sRet (dC (.bool false))) (sNil)))
 (sSeq (sFor (fLst (dLst (dCons (dC (.none)) (dCons (dC (.int 0)) (dCons (dC (.str "")) (dCons (dTup (dNil)) (dCons (dC (.dict [])) (dCons (dLst (dCons (dC (.none)) (dNil))) (dCons (dLst (dCons (dC (.int 0)) (dNil))) (dCons (dLst (dCons (dLst (dCons (dC (.int 0)) (dCons (dC (.int 1)) (dNil)))) (dNil))) (dCons (dLst (dCons (dTup (dCons (dC (.int 0)) (dNil))) (dNil))) (dCons (dLst (dCons (dTup (dCons (dC (.int 0)) (dCons (dC (.int 1)) (dCons (dC (.int 1)) (dNil))))) (dNil))) (dCons (dLst (dCons (dTup (dCons (dC (.int 0)) (dCons (dC (.bool true)) (dNil)))) (dNil))) (dCons (dLst (dCons (dTup (dCons (dC (.bool false)) (dCons (dC (.int 1)) (dNil)))) (dNil))) (dNil))))))))))))))) (gNl 4) (sIf (tBool (dUn gIsT (dCall F_is_best (dCons (dVar 0) (dCons (dVar 1) (dCons (dVar 2) (dCons (dVar 4) (dNil)))))))) (sRet (dC (.bool false))) (sNil)))
 (sSeq (sFor (fLst (dLst (dCons (dUn gTupL (dVar 3)) (dCons (dCall XS.gDictL (dCons (dVar 3) (dNil))) (dCons (dLst (dCons (dTup (dCons (dC (.str "0")) (dCons (dC (.int 1)) (dNil)))) (dNil))) (dCons (dLst (dCons (dTup (dCons (dC (.int 0)) (dCons (dC (.none)) (dNil)))) (dNil))) (dCons (dLst (dCons (dTup (dCons (dC (.int 0)) (dCons (dC (.str "1")) (dNil)))) (dNil))) (dCons (dLst (dCons (dTup (dCons (dC (.none)) (dCons (dC (.int 1)) (dNil)))) (dNil))) (dCons (dLst (dCons (dTup (dCons (dC (.int 0)) (dCons (dTup (dCons (dC (.int 1)) (dCons (dC (.int 1)) (dNil)))) (dNil)))) (dNil))) (dNil)))))))))) (gNl 4) (sIf (tBool (dUn gIsT (dCall F_is_best (dCons (dVar 0) (dCons (dVar 1) (dCons (dVar 2) (dCons (dVar 4) (dNil)))))))) (sRet (dC (.bool false))) (sNil)))
 (sRet (dC (.bool true))))))
noncomputable def F_law : List D → Option D := fnD 1 12 (sSeq (sSetl 1 (dCall F__law_row (dCons (dVar 0) (dCons (dC (.int 0)) (dCons (dC (.int 60)) (dNil))))))
 (sSeq (sSetl 2 (dCall gInt (dCons (dOp gEq (dOp gMod (dOp gIx (dVar 1) (dC (.int 2))) (dC (.int 24))) (dC (.int 5))) (dNil))))
 (sSeq (sSetl 3 (dCall F__law_free (dCons (dVar 0) (dCons (dOp gIx (dLst (dCons (dOp gAdd (dC (.int 1)) (dOp gMod (dOp gIx (dVar 1) (dC (.int 0))) (dC (.int 8)))) (dCons (dC (.int 20)) (dNil)))) (dVar 2)) (dNil)))))
 (sSeq (sSetl 4 (dCall F__law_wishes (dCons (dVar 0) (dCons (dCall gLen (dCons (dVar 3) (dNil))) (dCons (dOp gIx (dLst (dCons (dOp gMod (dOp gIx (dVar 1) (dC (.int 1))) (dC (.int 9))) (dCons (dC (.int 24)) (dNil)))) (dVar 2)) (dNil))))))
 (sSeq (sAsg (dCall F_best (dCons (dVar 4) (dCons (dVar 3) (dNil)))) (gTn 3 (gsCons (gNl 5) (gsCons (gNl 6) (gsCons (gNl 7) (gsNil))))))
 (sSeq (sSetl 8 (dLst (dCons (dTup (dCons (dVar 6) (dCons (dVar 7) (dNil)))) (dCons (dTup (dCons (dCall F_by_turns (dCons (dVar 4) (dCons (dVar 3) (dNil)))) (dCons (dCall F__law_prices (dCons (dVar 0) (dCons (dC (.int 2)) (dCons (dVar 3) (dNil))))) (dNil)))) (dCons (dTup (dCons (dVar 6) (dCons (dLst (dNil)) (dNil)))) (dNil))))))
 (sSeq (sFor (fRng1 (dCons (dC (.int 6)) (dNil))) (gNl 9) (sSeq (sSetl 10 (dCall F__law_other_choice (dCons (dVar 6) (dCons (dCall gLen (dCons (dVar 4) (dNil))) (dCons (dSl (dVar 1) (oPart (dOp gAdd (dC (.int 4)) (dOp gMul (dC (.int 8)) (dVar 9)))) oNone) (dNil))))))
 (sSeq (sSetl 11 (dCall F__law_other_prices (dCons (dVar 7) (dCons (dCall gLen (dCons (dVar 3) (dNil))) (dCons (dSl (dVar 1) (oPart (dOp gAdd (dC (.int 7)) (dOp gMul (dC (.int 8)) (dVar 9)))) oNone) (dNil))))))
 (sSetl 8 (dOp gCat (dVar 8) (dLst (dCons (dTup (dCons (dVar 10) (dCons (dVar 7) (dNil)))) (dCons (dTup (dCons (dVar 6) (dCons (dVar 11) (dNil)))) (dCons (dTup (dCons (dVar 10) (dCons (dVar 11) (dNil)))) (dNil))))))))))
 (sSeq (sFor (fLst (dOp gCat (dVar 8) (dBack (dVar 8) (dUn gNeg (dC (.int 1)))))) (gTn 2 (gsCons (gNl 12) (gsCons (gNl 10) (gsNil)))) (sIf (D3.tNot (tBool (dCall F__law_told (dCons (dVar 4) (dCons (dVar 3) (dCons (dVar 12) (dCons (dVar 10) (dCons (dCall F__law_is_best (dCons (dVar 4) (dCons (dVar 3) (dCons (dVar 12) (dCons (dVar 10) (dNil)))))) (dNil))))))))) (sRet (dC (.bool false))) (sNil)))
 (sSeq (sIf (D3.tOr (tBool (dUn gNotT (dCall F_is_best (dCons (dLst (dNil)) (dCons (dLst (dNil)) (dCons (dLst (dNil)) (dCons (dLst (dNil)) (dNil)))))))) (tBool (dUn gNotT (dCall F_is_best (dCons (dVar 4) (dCons (dVar 3) (dCons (dVar 6) (dCons (dVar 7) (dNil))))))))) (sRet (dC (.bool false))) (sNil))
 (sRet (dCall F__law_odd (dCons (dVar 4) (dCons (dVar 3) (dCons (dVar 6) (dCons (dVar 7) (dNil))))))))))))))))
end K55
namespace K55
open PySem D3 My Com
theorem for_bool {g : FG} {b : FS} (Inv : DS → Prop) (P : Nat → Bool) (l : List D) (δ : DS) (h0 : Inv δ) (hs : ∀ i d δ, l[i]? = some d → Inv δ → ∃ δ1, g d δ = some δ1 ∧ (P i = true → ∃ δ', b δ1 = some (.nx δ') ∧ Inv δ') ∧ (P i = false → b δ1 = some (.rt (.bool false)))) :
 (∃ δ', forD g b l δ = some (.nx δ') ∧ Inv δ' ∧ (List.range l.length).all P = true) ∨ (forD g b l δ = some (.rt (.bool false)) ∧ (List.range l.length).all P = false) := by
 have key : ∀ (l : List D) (k : Nat) (δ : DS), Inv δ → (∀ i d δ, l[i]? = some d → Inv δ → ∃ δ1, g d δ = some δ1 ∧ (P (k + i) = true → ∃ δ', b δ1 = some (.nx δ') ∧ Inv δ') ∧ (P (k + i) = false → b δ1 = some (.rt (.bool false)))) →
  (∃ δ', forD g b l δ = some (.nx δ') ∧ Inv δ' ∧ ∀ i, i < l.length → P (k + i) = true) ∨ (forD g b l δ = some (.rt (.bool false)) ∧ ∃ i, i < l.length ∧ P (k + i) = false) := by
  intro l
  induction l with
  | nil => exact fun k δ h _ => .inl ⟨δ, rfl, h, fun i h => by cases h⟩
  | cons d r ih =>
   intro k δ h hs
   obtain ⟨δ1, e1, e2, e3⟩ := hs 0 d δ rfl h
   cases q : P (k + 0) with
   | false =>
    refine .inr ⟨?_, 0, by simp, q⟩
    rw [forD, e1, Option.bind_some, e3 q]
    rfl
   | true =>
    obtain ⟨δ', e4, e5⟩ := e2 q
    have st : forD g b (d :: r) δ = forD g b r δ' := by rw [forD, e1, Option.bind_some, e4]; rfl
    rcases ih (k + 1) δ' e5 (fun i d' δ'' hd hi => by
     have := hs (i + 1) d' δ'' (by simpa using hd) hi
     rw [show k + (i + 1) = k + 1 + i by omega] at this
     exact this) with ⟨δ2, a1, a2, a3⟩ | ⟨a1, i, a2, a3⟩
    ·refine .inl ⟨δ2, st.trans a1, a2, fun i hi => ?_⟩
     cases i with
     | zero => exact q
     | succ i => have := a3 i (by simpa using hi); rwa [show k + 1 + i = k + (i + 1) by omega] at this
    ·exact .inr ⟨st.trans a1, i + 1, by simpa using a2, by rw [show k + (i + 1) = k + 1 + i by omega]; exact a3⟩
 rcases key l 0 δ h0 (fun i d δ h h' => by simpa using hs i d δ h h') with ⟨δ', a, b, c⟩ | ⟨a, i, b, c⟩
 ·exact .inl ⟨δ', a, b, List.all_eq_true.mpr fun i hi => by simpa using c i (List.mem_range.mp hi)⟩
 ·refine .inr ⟨a, ?_⟩
  cases q : (List.range l.length).all P with
  | false => rfl
  | true =>
   have := List.all_eq_true.mp q i (List.mem_range.mpr b)
   rw [Nat.zero_add] at c
   rw [this] at c; cases c
def isI : D → Bool
 | .int _ => true
 | _ => false
theorem wh (d : D) : Com.F_is_whole [d] = some (.bool (isI d)) := by
 unfold Com.F_is_whole
 cases d <;> rfl
def two : D → Bool
 | .tuple [x, y] => isI x && isI y
 | _ => false
theorem all2 (x y : D) : F_all_whole [.tuple [x, y]] = some (.bool (isI x && isI y)) := by
 have C := cMap (g := (gNl 0)) (c := (D3.tYes)) (e := (dCall F_is_whole (dCons (dVar 0) (dNil)))) (δ := [none]) (fun d : D => d) (fun d => .bool (isI d)) [x, y] (fun d _ => ⟨[some (.d d)], rfl, rfl, by simp only [EV, reduceIte, reduceAdd, reduceLT, reduceLeDiff, reduceEqDiff, reduceEq, Int.reduceLT, reduceLE, wh]⟩)
 have C : compD (gNl 0) (D3.tYes) (dCall F_is_whole (dCons (dVar 0) (dNil))) [none] [x, y] = some [.bool (isI x), .bool (isI y)] := C
 have ca : ∀ a : Option U, capD 1 [] [a] = [none] := fun _ => rfl
 have ga : gAll [.list [.bool (isI x), .bool (isI y)]] = some (.bool (isI x && isI y)) := by cases isI x <;> cases isI y <;> rfl
 unfold F_all_whole
 simp only [EV, reduceIte, reduceAdd, reduceLT, reduceLeDiff, reduceEqDiff, reduceEq, Int.reduceLT, reduceLE, v_sq, v_sq_t, show 2 ≤ 100000 by decide, ca, C, ga]
theorem len2 {l : List D} (h : l.length = 2) : ∃ x y, l = [x, y] := by
 match l, h with
 | [x, y], _ => exact ⟨x, y, rfl⟩
theorem two_no {l : List D} (h : ¬ l.length = 2) : two (.tuple l) = false := by
 match l, h with
 | [], _ => rfl
 | [_], _ => rfl
 | [_, _], h => exact absurd rfl h
 | _ :: _ :: _ :: _, _ => rfl
theorem isTup : D3.isT "tuple" "tuple" = true := by decide
theorem pair_gen (d : D) : F_is_pair [d] = some (.bool (two d)) := by
 have T : F_is_tuple_of [d, .int 2] = some (.bool (two d)) := by
  unfold F_is_tuple_of
  cases d with
  | tuple l =>
   by_cases h : l.length = 2
   ·obtain ⟨x, y, rfl⟩ := len2 h
    simp only [EV, reduceIte, reduceAdd, reduceLT, reduceLeDiff, reduceEqDiff, reduceEq, Int.reduceLT, reduceLE, tyD, isTup, show gLen [PyData.tuple [x, y]] = some (.int 2) from rfl, show gEq (.int 2) (.int 2) = some (.bool true) from rfl, all2]
    rfl
   ·have gl : gLen [PyData.tuple l] = some (.int (l.length : Int)) := rfl
    rw [two_no h]
    simp only [EV, reduceIte, reduceAdd, reduceLT, reduceLeDiff, reduceEqDiff, reduceEq, Int.reduceLT, reduceLE, tyD, isTup, gl, dFa (show ¬ (l.length : Int) = 2 by omega)]
  | _ => rfl
 unfold F_is_pair
 simp only [EV, reduceIte, reduceAdd, reduceLT, reduceLeDiff, reduceEqDiff, reduceEq, Int.reduceLT, reduceLE, T]
theorem whole_list_gen {l : List D} (hl : l.length ≤ 1000) : F_is_whole_list [.list l] = some (.bool (l.all isI)) := by
 have C1 := cMap (g := (gNl 0)) (c := (D3.tYes)) (e := (dCall F_is_whole (dCons (dVar 0) (dNil)))) (δ := [none]) (fun d : D => d) (fun d => .bool (isI d)) l (fun d h => ⟨[some (.d d)], rfl, rfl, by simp only [EV, reduceIte, reduceAdd, reduceLT, reduceLeDiff, reduceEqDiff, reduceEq, Int.reduceLT, reduceLE, wh]⟩)
 rw [List.map_id'] at C1
 have ca : ∀ a : Option U, capD 1 [] [a] = [none] := fun _ => rfl
 have ga := all_bools isI l
 have W : F_all_whole [.list l] = some (.bool (l.all isI)) := by
  unfold F_all_whole
  simp only [EV, reduceIte, reduceAdd, reduceLT, reduceLeDiff, reduceEqDiff, reduceEq, Int.reduceLT, reduceLE, v_sq, v_sq_l, show l.length ≤ 100000 by omega, ca, C1, ga]
 unfold F_is_whole_list
 simp only [EV, reduceIte, reduceAdd, reduceLT, reduceLeDiff, reduceEqDiff, reduceEq, Int.reduceLT, reduceLE, show D3.isT "list" (tyD (.list l)) = true from rfl, W]
theorem whole_no {t : D} (h : D3.isT "list" (tyD t) = false) : F_is_whole_list [t] = some (.bool false) := by
 unfold F_is_whole_list
 simp only [EV, reduceIte, reduceAdd, reduceLT, reduceLeDiff, reduceEqDiff, reduceEq, Int.reduceLT, reduceLE, h]
theorem all_isI (cs : List Int) : (cs.map PyData.int).all isI = true := by simp [List.all_eq_true, isI]
theorem placeK {ws : List Wi} {cs : List Int} (hl : cs.length ≤ 1000) : F_is_place_list [.list (ws.map wiD), .list (cs.map .int)] = some (.bool (riB cs && inB ws cs)) := by
 have C2 := cMap (g := (gNl 0)) (c := (D3.tYes)) (e := (dChain gLe gLt (dC (.int 0)) (dVar 0) (dCall gLen (dCons (dVar 1) (dNil))))) (δ := [none, some (.d (.list (ws.map wiD)))]) PyData.int (fun c => .bool (decide (0 ≤ c) && decide (c < (ws.length : Int)))) cs (fun p h => ⟨[some (.d (.int p)), some (.d (.list (ws.map wiD)))], rfl, rfl, by
  by_cases c : 0 ≤ p
  ·simp only [EV, reduceIte, reduceAdd, reduceLT, reduceLeDiff, reduceEqDiff, reduceEq, Int.reduceLT, reduceLE, lMp, dTr c]
   rfl
  ·simp only [EV, reduceIte, reduceAdd, reduceLT, reduceLeDiff, reduceEqDiff, reduceEq, Int.reduceLT, reduceLE, lMp, dFa c]
   rfl⟩)
 have cb : ∀ a b : Option U, capD 1 [0] [a, b] = [none, a] := fun _ _ => rfl
 have W := whole_list_gen (l := cs.map PyData.int) (by rw [List.length_map]; exact hl)
 rw [all_isI] at W
 have Rg : F_is_rising [.list (cs.map .int)] = some (.bool (riB cs)) := rising_gen hl
 unfold F_is_place_list
 cases r : riB cs with
 | true =>
  simp only [EV, reduceIte, reduceAdd, reduceLT, reduceLeDiff, reduceEqDiff, reduceEq, Int.reduceLT, reduceLE, W, Rg, r, lMp, show cs.length ≤ 100000 by omega, cb, C2, all_bools]
  rfl
 | false =>
  simp only [EV, reduceIte, reduceAdd, reduceLT, reduceLeDiff, reduceEqDiff, reduceEq, Int.reduceLT, reduceLE, W, Rg, r]
  rfl
theorem place_no {ws : List Wi} {t : D} (w : F_is_whole_list [t] = some (.bool false)) : F_is_place_list [.list (ws.map wiD), t] = some (.bool false) := by
 unfold F_is_place_list
 simp only [EV, reduceIte, reduceAdd, reduceLT, reduceLeDiff, reduceEqDiff, reduceEq, Int.reduceLT, reduceLE, w]
section
variable {ws : List Wi} {fs cs : List Int} {ps : List Pr}
theorem choiceK (hl : cs.length ≤ 1000) (fl : fs.length ≤ 1000) (hw : ∀ w ∈ ws, wiOk fs.length w) : F_is_choice [.list (ws.map wiD), .list (fs.map .int), .list (cs.map .int)] = some (.bool (chB ws fs cs)) := by
 have Cw : F_check_wishes [.list (ws.map wiD), .list (fs.map .int)] = some .none := check_wishes_spec hw
 unfold F_is_choice
 unfold chB
 cases r : riB cs && inB ws cs with
 | true =>
  have hin := in_iff.mp (Bool.and_eq_true_iff.mp r).2
  have Ft : F_fits [.list (ws.map wiD), .list (fs.map .int), .list (cs.map .int)] = some (.bool (fiB ws fs cs)) := fits_gen hl fl hin
  simp only [EV, reduceIte, reduceAdd, reduceLT, reduceLeDiff, reduceEqDiff, reduceEq, Int.reduceLT, reduceLE, Cw, placeK hl, r, Ft]
  rfl
 | false =>
  simp only [EV, reduceIte, reduceAdd, reduceLT, reduceLeDiff, reduceEqDiff, reduceEq, Int.reduceLT, reduceLE, Cw, placeK hl, r]
  rfl
theorem choice_no {t : D} (hw : ∀ w ∈ ws, wiOk fs.length w) (w : F_is_whole_list [t] = some (.bool false)) : F_is_choice [.list (ws.map wiD), .list (fs.map .int), t] = some (.bool false) := by
 have Cw : F_check_wishes [.list (ws.map wiD), .list (fs.map .int)] = some .none := check_wishes_spec hw
 unfold F_is_choice
 simp only [EV, reduceIte, reduceAdd, reduceLT, reduceLeDiff, reduceEqDiff, reduceEq, Int.reduceLT, reduceLE, Cw, place_no w]
def pB (n : Int) (p : Pr) : Bool := (decide (0 ≤ p.1) && decide (p.1 < n)) && decide (1 ≤ p.2)
def prI : D → Pr
 | .tuple [.int a, .int b] => (a, b)
 | _ => (0, 0)
def prB (n : Int) (d : D) : Bool := two d && pB n (prI d)
theorem two_pr {d : D} (h : two d = true) : ∃ p : Pr, d = prD p := by
 cases d with
 | tuple l =>
  by_cases hl : l.length = 2
  ·obtain ⟨x, y, rfl⟩ := len2 hl
   have h : (isI x && isI y) = true := h
   cases x <;> cases y <;> first | exact ⟨(_, _), rfl⟩ | cases h
  ·rw [two_no hl] at h; cases h
 | _ => cases h
theorem prB_no {n : Int} {d : D} (h : two d = false) : prB n d = false := by
 unfold prB
 rw [h]
 rfl
theorem price_gen (d : D) : F_is_price [.list (fs.map .int), d] = some (.bool (prB fs.length d)) := by
 unfold F_is_price
 cases q : two d with
 | false =>
  rw [prB_no q]
  simp only [EV, reduceIte, reduceAdd, reduceLT, reduceLeDiff, reduceEqDiff, reduceEq, Int.reduceLT, reduceLE, pair_gen, q]
 | true =>
  obtain ⟨⟨a, b⟩, rfl⟩ := two_pr q
  have e : prD (a, b) = .tuple [.int a, .int b] := rfl
  rw [e] at q ⊢
  show _ = some (PyData.bool (pB fs.length (a, b)))
  unfold pB
  by_cases c1 : 0 ≤ a
  ·by_cases c2 : a < (fs.length : Int)
   ·simp only [EV, reduceIte, reduceAdd, reduceLT, reduceLeDiff, reduceEqDiff, reduceEq, Int.reduceLT, reduceLE, pair_gen, q, at0, at1, lMp, dTr c1, dTr c2]
    rfl
   ·simp only [EV, reduceIte, reduceAdd, reduceLT, reduceLeDiff, reduceEqDiff, reduceEq, Int.reduceLT, reduceLE, pair_gen, q, at0, at1, lMp, dTr c1, dFa c2]
    rfl
  ·simp only [EV, reduceIte, reduceAdd, reduceLT, reduceLeDiff, reduceEqDiff, reduceEq, Int.reduceLT, reduceLE, pair_gen, q, at0, at1, lMp, dFa c1]
   rfl
def plB (n : Int) (ps : List Pr) : Bool := ps.all (pB n) && riB (ps.map (·.1))
theorem plist_no {t : D} (h : D3.isT "list" (tyD t) = false) : F_is_price_list [.list (fs.map .int), t] = some (.bool false) := by
 unfold F_is_price_list
 simp only [EV, reduceIte, reduceAdd, reduceLT, reduceLeDiff, reduceEqDiff, reduceEq, Int.reduceLT, reduceLE, h]
theorem plist_bad {l : List D} (hl : l.length ≤ 1000) (h : l.all (prB fs.length) = false) : F_is_price_list [.list (fs.map .int), .list l] = some (.bool false) := by
 have C1 := cMap (g := (gNl 0)) (c := (D3.tYes)) (e := (dCall F_is_price (dCons (dVar 1) (dCons (dVar 0) (dNil))))) (δ := [none, some (.d (.list (fs.map .int)))]) (fun d : D => d) (fun d => .bool (prB fs.length d)) l (fun d h => ⟨[some (.d d), some (.d (.list (fs.map .int)))], rfl, rfl, by simp only [EV, reduceIte, reduceAdd, reduceLT, reduceLeDiff, reduceEqDiff, reduceEq, Int.reduceLT, reduceLE, price_gen]⟩)
 rw [List.map_id'] at C1
 have ca : ∀ a b : Option U, capD 1 [0] [a, b] = [none, a] := fun _ _ => rfl
 unfold F_is_price_list
 simp only [EV, reduceIte, reduceAdd, reduceLT, reduceLeDiff, reduceEqDiff, reduceEq, Int.reduceLT, reduceLE, show D3.isT "list" (tyD (.list l)) = true from rfl, show l.length ≤ 100000 by omega, ca, C1, all_bools, h]
theorem plist_gen (hl : ps.length ≤ 1000) : F_is_price_list [.list (fs.map .int), .list (ps.map prD)] = some (.bool (plB fs.length ps)) := by
 have pe : ((ps.map prD).all (prB fs.length)) = ps.all (pB fs.length) := by rw [List.all_map]; rfl
 unfold plB
 cases q : ps.all (pB fs.length) with
 | false => exact plist_bad (by rw [List.length_map]; exact hl) (by rw [pe, q])
 | true =>
  have C1 := cMap (g := (gNl 0)) (c := (D3.tYes)) (e := (dCall F_is_price (dCons (dVar 1) (dCons (dVar 0) (dNil))))) (δ := [none, some (.d (.list (fs.map .int)))]) (fun d : D => d) (fun d => .bool (prB fs.length d)) (ps.map prD) (fun d h => ⟨[some (.d d), some (.d (.list (fs.map .int)))], rfl, rfl, by simp only [EV, reduceIte, reduceAdd, reduceLT, reduceLeDiff, reduceEqDiff, reduceEq, Int.reduceLT, reduceLE, price_gen]⟩)
  rw [List.map_id'] at C1
  have C2 := cMap (g := (gTn 2 (gsCons (gNl 0) (gsCons (gNl 1) (gsNil))))) (c := (D3.tYes)) (e := (dFlat (dVar 0))) (δ := [none, none]) prD (fun p => .int p.1) ps (fun p h => ⟨[some (.d (.int p.1)), some (.d (.int p.2))], rfl, rfl, rfl⟩)
  have e2 : (ps.map fun p => PyData.int p.1) = (ps.map (·.1)).map .int := by rw [List.map_map]; rfl
  rw [e2] at C2
  have Rg : F_is_rising [.list ((ps.map (·.1)).map .int)] = some (.bool (riB (ps.map (·.1)))) := rising_gen (by rw [List.length_map]; exact hl)
  have ca : ∀ a b : Option U, capD 1 [0] [a, b] = [none, a] := fun _ _ => rfl
  have cb : ∀ a b : Option U, capD 2 [] [a, b] = [none, none] := fun _ _ => rfl
  unfold F_is_price_list
  simp only [EV, reduceIte, reduceAdd, reduceLT, reduceLeDiff, reduceEqDiff, reduceEq, Int.reduceLT, reduceLE, show ∀ l, D3.isT "list" (tyD (.list l)) = true from fun _ => rfl, lMp, show ps.length ≤ 100000 by omega, ca, C1, all_bools, pe, q, cb, C2, Rg]
  rfl
def gnP (ws : List Wi) (cs : List Int) (ps : List Pr) (i : Nat) : Bool := !(decide ((i : Int) ∈ cs) && decide (gainI ps (wif ws i) < 0)) && !(!decide ((i : Int) ∈ cs) && decide (gainI ps (wif ws i) > 0))
def soB (ws : List Wi) (fs cs : List Int) (ps : List Pr) : Bool := ps.all fun p => decide ((heldI ws cs p.1 : Int) = fs.getD p.1.toNat 0)
def ibB (ws : List Wi) (fs cs : List Int) (ps : List Pr) : Bool := (chB ws fs cs && plB fs.length ps) && ((List.range ws.length).all (gnP ws cs ps) && soB ws fs cs ps)
theorem notin_ints (cs : List Int) (x : Int) : gNotin (.int x) (.list (cs.map .int)) = some (.bool (!decide (x ∈ cs))) := by
 have h := in_ints cs x
 unfold gIn at h
 unfold gNotin
 dsimp only at h ⊢
 split at h
 ·next c =>
  injection h with h
  injection h with h
  rw [if_pos c, h]
 ·cases h
theorem sold_gen (hl : cs.length ≤ 1000) (pl : ps.length ≤ 1000) (hin : ∀ c ∈ cs, 0 ≤ c ∧ c < ws.length) (hp : ∀ p ∈ ps, 0 ≤ p.1 ∧ p.1 < fs.length) : F_sold_out [.list (ws.map wiD), .list (fs.map .int), .list (cs.map .int), .list (ps.map prD)] = some (.bool (soB ws fs cs ps)) := by
 have C := cMap (g := (gTn 2 (gsCons (gNl 0) (gsCons (gNl 1) (gsNil))))) (c := (D3.tYes)) (e := (dOp gEq (dCall F_held_at (dCons (dVar 2) (dCons (dVar 3) (dCons (dVar 0) (dNil))))) (dOp gIx (dVar 4) (dVar 0)))) (δ := [none, none, some (.d (.list (ws.map wiD))), some (.d (.list (cs.map .int))), some (.d (.list (fs.map .int)))]) prD (fun p => .bool (decide ((heldI ws cs p.1 : Int) = fs.getD p.1.toNat 0))) ps (fun p h => by
  refine ⟨[some (.d (.int p.1)), some (.d (.int p.2)), some (.d (.list (ws.map wiD))), some (.d (.list (cs.map .int))), some (.d (.list (fs.map .int)))], rfl, rfl, ?_⟩
  have e := pAt_getD PyData.int (l := fs) 0 (hp p h).1 (hp p h).2
  have Hs : F_held_at [.list (ws.map wiD), .list (cs.map .int), .int p.1] = some (.int (heldI ws cs p.1 : Int)) := held_spec hl hin p.1
  simp only [EV, reduceIte, reduceAdd, reduceLT, reduceLeDiff, reduceEqDiff, reduceEq, Int.reduceLT, reduceLE, Hs, e])
 have cc : ∀ a b c d : Option U, capD 2 [0, 2, 1] [a, b, c, d] = [none, none, a, c, b] := fun _ _ _ _ => rfl
 show Com.F_sold_out _ = _
 unfold Com.F_sold_out
 simp only [EV, reduceIte, reduceAdd, reduceLT, reduceLeDiff, reduceEqDiff, reduceEq, Int.reduceLT, reduceLE, lMp, show ps.length ≤ 100000 by omega, cc, C, all_bools]
 rfl
theorem best_step (hl : cs.length ≤ 1000) (pl : ps.length ≤ 1000) {i : Nat} (hi : i < ws.length) : (∀ b, gnP ws cs ps i = b → ((sSeq (sIf (D3.tAnd (tBool (dOp gIn (dVar 4) (dVar 2))) (tBool (dOp gLt (dCall F_gain (dCons (dVar 5) (dCons (dVar 3) (dNil)))) (dC (.int 0))))) (sRet (dC (.bool false))) (sNil)) (sIf (D3.tAnd (tBool (dOp gNotin (dVar 4) (dVar 2))) (tBool (dOp gGt (dCall F_gain (dCons (dVar 5) (dCons (dVar 3) (dNil)))) (dC (.int 0))))) (sRet (dC (.bool false))) (sNil)))) [some (.d (.list (ws.map wiD))), some (.d (.list (fs.map .int))), some (.d (.list (cs.map .int))), some (.d (.list (ps.map prD))), some (.d (.int (i : Int))), some (.d (wiD (wif ws i)))] =
 if b = true then some (.nx [some (.d (.list (ws.map wiD))), some (.d (.list (fs.map .int))), some (.d (.list (cs.map .int))), some (.d (.list (ps.map prD))), some (.d (.int (i : Int))), some (.d (wiD (wif ws i)))]) else some (.rt (.bool false))) := by
 intro b hb
 have Gs : F_gain [wiD (wif ws i), .list (ps.map prD)] = some (.int (gainI ps (wif ws i))) := gain_spec pl _
 unfold gnP at hb
 by_cases c : (i : Int) ∈ cs
 ·by_cases g : gainI ps (wif ws i) < 0
  ·rw [dTr c, dTr g] at hb
   have hb : false = b := hb
   subst hb
   rw [if_neg Bool.false_ne_true]
   simp only [EV, reduceIte, reduceAdd, reduceLT, reduceLeDiff, reduceEqDiff, reduceEq, Int.reduceLT, reduceLE, in_ints, dTr c, Gs, dTr g]
  ·rw [dTr c, dFa g] at hb
   have hb : true = b := hb
   subst hb
   rw [if_pos rfl]
   simp only [EV, reduceIte, reduceAdd, reduceLT, reduceLeDiff, reduceEqDiff, reduceEq, Int.reduceLT, reduceLE, in_ints, notin_ints, dTr c, Gs, dFa g]
 ·by_cases g : gainI ps (wif ws i) > 0
  ·rw [dFa c, dTr g] at hb
   have hb : false = b := hb
   subst hb
   rw [if_neg Bool.false_ne_true]
   simp only [EV, reduceIte, reduceAdd, reduceLT, reduceLeDiff, reduceEqDiff, reduceEq, Int.reduceLT, reduceLE, in_ints, notin_ints, dFa c, Gs, dTr g]
  ·rw [dFa c, dFa g] at hb
   have hb : true = b := hb
   subst hb
   rw [if_pos rfl]
   simp only [EV, reduceIte, reduceAdd, reduceLT, reduceLeDiff, reduceEqDiff, reduceEq, Int.reduceLT, reduceLE, in_ints, notin_ints, dFa c, Gs, dFa g]
theorem best_gen (wl : ws.length ≤ 1000) (hl : cs.length ≤ 1000) (fl : fs.length ≤ 1000) (pl : ps.length ≤ 1000) (hw : ∀ w ∈ ws, wiOk fs.length w) : F_is_best [.list (ws.map wiD), .list (fs.map .int), .list (cs.map .int), .list (ps.map prD)] = some (.bool (ibB ws fs cs ps)) := by
 unfold F_is_best ibB
 cases c1 : chB ws fs cs with
 | false =>
  simp only [EV, reduceIte, reduceAdd, reduceLT, reduceLeDiff, reduceEqDiff, reduceEq, Int.reduceLT, reduceLE, choiceK hl fl hw, c1]
  rfl
 | true =>
  cases c2 : plB fs.length ps with
  | false =>
   simp only [EV, reduceIte, reduceAdd, reduceLT, reduceLeDiff, reduceEqDiff, reduceEq, Int.reduceLT, reduceLE, choiceK hl fl hw, c1, plist_gen pl, c2]
   rfl
  | true =>
   have hin := in_iff.mp (Bool.and_eq_true_iff.mp (Bool.and_eq_true_iff.mp c1).1).2
   have hp : ∀ p ∈ ps, 0 ≤ p.1 ∧ p.1 < fs.length := fun p h => by
    have := List.all_eq_true.mp (Bool.and_eq_true_iff.mp c2).1 p h
    unfold pB at this
    simp only [Bool.and_eq_true, decide_eq_true_eq] at this
    exact this.1
   have So := sold_gen hl pl hin hp
   have En := enum_map wiD ws (0, 0, 0)
   have L := for_bool (g := (gTn 2 (gsCons (gNl 4) (gsCons (gNl 5) (gsNil))))) (b := (sSeq (sIf (D3.tAnd (tBool (dOp gIn (dVar 4) (dVar 2))) (tBool (dOp gLt (dCall F_gain (dCons (dVar 5) (dCons (dVar 3) (dNil)))) (dC (.int 0))))) (sRet (dC (.bool false))) (sNil)) (sIf (D3.tAnd (tBool (dOp gNotin (dVar 4) (dVar 2))) (tBool (dOp gGt (dCall F_gain (dCons (dVar 5) (dCons (dVar 3) (dNil)))) (dC (.int 0))))) (sRet (dC (.bool false))) (sNil)))) (fun δ => ∃ y4 y5, δ = [some (.d (.list (ws.map wiD))), some (.d (.list (fs.map .int))), some (.d (.list (cs.map .int))), some (.d (.list (ps.map prD))), y4, y5]) (gnP ws cs ps) (enumD (ws.map wiD)) [some (.d (.list (ws.map wiD))), some (.d (.list (fs.map .int))), some (.d (.list (cs.map .int))), some (.d (.list (ps.map prD))), none, none] ⟨none, none, rfl⟩ (by
    rintro i d δ hd ⟨y4, y5, rfl⟩
    rw [En, List.getElem?_map] at hd
    obtain ⟨k, hk, rfl⟩ := Option.map_eq_some_iff.mp hd
    have hi : i < ws.length := by
     have := (List.getElem?_eq_some_iff.mp hk).1
     simpa using this
    have ek : k = i := by
     rw [List.getElem?_range hi] at hk
     exact (Option.some.inj hk).symm
    subst ek
    refine ⟨_, rfl, fun hP => ⟨[some (.d (.list (ws.map wiD))), some (.d (.list (fs.map .int))), some (.d (.list (cs.map .int))), some (.d (.list (ps.map prD))), some (.d (.int (k : Int))), some (.d (wiD (wif ws k)))], ?_, _, _, rfl⟩, fun hP => ?_⟩
    ·exact (best_step (fs := fs) hl pl hi true hP).trans (by rw [if_pos rfl])
    ·exact (best_step (fs := fs) hl pl hi false hP).trans (by rw [if_neg (by decide)]))
   have ll : (enumD (ws.map wiD)).length = ws.length := by rw [En, List.length_map, List.length_range]
   rw [ll] at L
   rcases L with ⟨δ', e, ⟨y4, y5, rfl⟩, q⟩ | ⟨e, q⟩
   ·rw [q]
    simp only [EV, reduceIte, reduceAdd, reduceLT, reduceLeDiff, reduceEqDiff, reduceEq, Int.reduceLT, reduceLE, choiceK hl fl hw, c1, plist_gen pl, c2, e, So]
    rfl
   ·rw [q]
    simp only [EV, reduceIte, reduceAdd, reduceLT, reduceLeDiff, reduceEqDiff, reduceEq, Int.reduceLT, reduceLE, choiceK hl fl hw, c1, plist_gen pl, c2, e]
    rfl
def pg (ps : List Pr) (k : Nat) : Pr := ps.getD k (0, 0)
def okP (ws : List Wi) (fs cs : List Int) (ps : List Pr) (k : Nat) : Bool := (pB fs.length (pg ps k) && (decide (k = 0) || decide ((pg ps (k - 1)).1 < (pg ps k).1))) && decide ((heldI ws cs (pg ps k).1 : Int) = fs.getD (pg ps k).1.toNat 0)
theorem pg_get {k : Nat} (hk : k < ps.length) : ps[k] = pg ps k := by unfold pg; rw [List.getD_eq_getElem?_getD, List.getElem?_eq_getElem hk]; rfl
theorem okP_all : (List.range ps.length).all (okP ws fs cs ps) = (plB fs.length ps && soB ws fs cs ps) := by
 rw [Bool.eq_iff_iff]
 have mp : ∀ k, (ps.map (·.1)).getD k 0 = (pg ps k).1 := fun k => by
  unfold pg
  rw [List.getD_eq_getElem?_getD, List.getElem?_map, List.getD_eq_getElem?_getD]
  cases ps[k]? <;> rfl
 have ri := ri_iff (cs := ps.map (·.1))
 rw [List.length_map] at ri
 unfold plB soB
 simp only [Bool.and_eq_true, ri, List.all_eq_true, List.mem_range, decide_eq_true_eq]
 constructor
 ·intro h
  have each : ∀ p ∈ ps, pB fs.length p = true ∧ (heldI ws cs p.1 : Int) = fs.getD p.1.toNat 0 := fun p hp => by
   obtain ⟨k, hk, rfl⟩ := List.mem_iff_getElem.mp hp
   have := h k hk
   unfold okP at this
   simp only [Bool.and_eq_true, decide_eq_true_eq] at this
   rw [pg_get hk]
   exact ⟨this.1.1, this.2⟩
  refine ⟨⟨fun p hp => (each p hp).1, fun k hk => ?_⟩, fun p hp => (each p hp).2⟩
  rw [mp, mp]
  have := h (k + 1) hk
  unfold okP at this
  simp only [Bool.and_eq_true, Bool.or_eq_true, decide_eq_true_eq] at this
  rcases this.1.2 with z | z
  ·omega
  ·exact z
 ·rintro ⟨⟨h1, h2⟩, h3⟩ k hk
  have m : pg ps k ∈ ps := by rw [← pg_get hk]; exact List.getElem_mem hk
  unfold okP
  simp only [Bool.and_eq_true, Bool.or_eq_true, decide_eq_true_eq]
  refine ⟨⟨h1 _ m, ?_⟩, h3 _ m⟩
  by_cases z : k = 0
  ·exact .inl z
  ·right
   have := h2 (k - 1) (by omega)
   rw [mp, mp, show k - 1 + 1 = k by omega] at this
   exact this
theorem lb_step1 (hl : cs.length ≤ 1000) (hin : ∀ c ∈ cs, 0 ≤ c ∧ c < ws.length) {k : Nat} (hk : k < ps.length) (y5 y6 y7 y8 : Option U) : ∀ b, okP ws fs cs ps k = b → ((sSeq (sAsg (dOp gIx (dVar 3) (dVar 4)) (gTn 2 (gsCons (gNl 5) (gsCons (gNl 6) (gsNil))))) (sSeq (sIf (D3.tOr (D3.tNot (tBool (dChain gLe gLt (dC (.int 0)) (dVar 5) (dCall gLen (dCons (dVar 1) (dNil)))))) (D3.tOr (tBool (dOp gLt (dVar 6) (dC (.int 1)))) (D3.tAnd (tBool (dOp gGt (dVar 4) (dC (.int 0)))) (tBool (dOp gLe (dVar 5) (dOp gIx (dOp gIx (dVar 3) (dOp gSub (dVar 4) (dC (.int 1)))) (dC (.int 0)))))))) (sRet (dC (.bool false))) (sNil)) (sIf (tBool (dOp gNe (dCall F__law_holds (dCons (dVar 0) (dCons (dVar 2) (dCons (dVar 5) (dNil))))) (dOp gIx (dVar 1) (dVar 5)))) (sRet (dC (.bool false))) (sNil))))) [some (.d (.list (ws.map wiD))), some (.d (.list (fs.map .int))), some (.d (.list (cs.map .int))), some (.d (.list (ps.map prD))), some (.d (.int (k : Int))), y5, y6, y7, y8] =
 if b = true then some (.nx [some (.d (.list (ws.map wiD))), some (.d (.list (fs.map .int))), some (.d (.list (cs.map .int))), some (.d (.list (ps.map prD))), some (.d (.int (k : Int))), some (.d (.int (pg ps k).1)), some (.d (.int (pg ps k).2)), y7, y8]) else some (.rt (.bool false)) := by
 intro b hb
 have e := pAt_getD prD (l := ps) (0, 0) (i := (k : Int)) (by omega) (by omega)
 rw [Int.toNat_natCast] at e
 have e : pAt (ps.map prD) (k : Int) = some (.tuple [.int (pg ps k).1, .int (pg ps k).2]) := e
 have Hs : ∀ n, Com.F__law_holds [.list (ws.map wiD), .list (cs.map .int), .int n] = some (.int (heldI ws cs n : Int)) := fun n => holds_gen hl hin n
 unfold okP pB at hb
 by_cases c1 : 0 ≤ (pg ps k).1
 ·by_cases c2 : (pg ps k).1 < (fs.length : Int)
  ·by_cases c3 : 1 ≤ (pg ps k).2
   ·have en := pAt_getD PyData.int (l := fs) 0 (i := (pg ps k).1) c1 c2
    have n3 : ¬ (pg ps k).2 < 1 := by omega
    have fin : ∀ b, (decide ((heldI ws cs (pg ps k).1 : Int) = fs.getD (pg ps k).1.toNat 0)) = b → gNe (.int (heldI ws cs (pg ps k).1 : Int)) (.int (fs.getD (pg ps k).1.toNat 0)) = some (.bool (!b)) := fun b h => by rw [← h]; rfl
    by_cases z : k = 0
    ·rw [dTr c1, dTr c2, dTr c3, dTr z] at hb
     have hb : decide ((heldI ws cs (pg ps k).1 : Int) = fs.getD (pg ps k).1.toNat 0) = b := by simpa using hb
     have F := fin b hb
     have z' : ¬ (k : Int) > 0 := by omega
     cases b with
     | true =>
      rw [if_pos rfl]
      simp only [EV, reduceIte, reduceAdd, reduceLT, reduceLeDiff, reduceEqDiff, reduceEq, Int.reduceLT, reduceLE, e, lMp, dTr c1, dTr c2, dFa n3, dFa z', Hs, en, F]
     | false =>
      rw [if_neg Bool.false_ne_true]
      simp only [EV, reduceIte, reduceAdd, reduceLT, reduceLeDiff, reduceEqDiff, reduceEq, Int.reduceLT, reduceLE, e, lMp, dTr c1, dTr c2, dFa n3, dFa z', Hs, en, F]
    ·have zp : (k : Int) > 0 := by omega
     have e1 := pAt_getD prD (l := ps) (0, 0) (i := (k : Int) - 1) (by omega) (by omega)
     rw [show ((k : Int) - 1).toNat = k - 1 by omega] at e1
     have e1 : pAt (ps.map prD) ((k : Int) - 1) = some (.tuple [.int (pg ps (k - 1)).1, .int (pg ps (k - 1)).2]) := e1
     by_cases c4 : (pg ps (k - 1)).1 < (pg ps k).1
     ·rw [dTr c1, dTr c2, dTr c3, dTr c4] at hb
      have hb : decide ((heldI ws cs (pg ps k).1 : Int) = fs.getD (pg ps k).1.toNat 0) = b := by simpa using hb
      have F := fin b hb
      have n4 : ¬ (pg ps k).1 ≤ (pg ps (k - 1)).1 := by omega
      cases b with
      | true =>
       rw [if_pos rfl]
       simp only [EV, reduceIte, reduceAdd, reduceLT, reduceLeDiff, reduceEqDiff, reduceEq, Int.reduceLT, reduceLE, e, e1, at0, lMp, dTr c1, dTr c2, dFa n3, dTr zp, dFa n4, Hs, en, F]
      | false =>
       rw [if_neg Bool.false_ne_true]
       simp only [EV, reduceIte, reduceAdd, reduceLT, reduceLeDiff, reduceEqDiff, reduceEq, Int.reduceLT, reduceLE, e, e1, at0, lMp, dTr c1, dTr c2, dFa n3, dTr zp, dFa n4, Hs, en, F]
     ·rw [dTr c1, dTr c2, dTr c3, dFa c4, dFa z] at hb
      have hb : false = b := by simpa using hb
      subst hb
      rw [if_neg Bool.false_ne_true]
      have p4 : (pg ps k).1 ≤ (pg ps (k - 1)).1 := by omega
      simp only [EV, reduceIte, reduceAdd, reduceLT, reduceLeDiff, reduceEqDiff, reduceEq, Int.reduceLT, reduceLE, e, e1, at0, lMp, dTr c1, dTr c2, dFa n3, dTr zp, dTr p4]
   ·rw [dFa c3] at hb
    have hb : false = b := by simpa using hb
    subst hb
    rw [if_neg Bool.false_ne_true]
    have p3 : (pg ps k).2 < 1 := by omega
    simp only [EV, reduceIte, reduceAdd, reduceLT, reduceLeDiff, reduceEqDiff, reduceEq, Int.reduceLT, reduceLE, e, lMp, dTr c1, dTr c2, dTr p3]
  ·rw [dFa c2] at hb
   have hb : false = b := by simpa using hb
   subst hb
   rw [if_neg Bool.false_ne_true]
   simp only [EV, reduceIte, reduceAdd, reduceLT, reduceLeDiff, reduceEqDiff, reduceEq, Int.reduceLT, reduceLE, e, lMp, dTr c1, dFa c2]
 ·rw [dFa c1] at hb
  have hb : false = b := by simpa using hb
  subst hb
  rw [if_neg Bool.false_ne_true]
  simp only [EV, reduceIte, reduceAdd, reduceLT, reduceLeDiff, reduceEqDiff, reduceEq, Int.reduceLT, reduceLE, e, lMp, dFa c1]
theorem lb_step2 (pl : ps.length ≤ 1000) {i : Nat} (hi : i < ws.length) (y4 y5 y6 y8 : Option U) : ∀ b, gnP ws cs ps i = b → ((sSeq (sSetl 8 (dOp gSub (dOp gIx (dOp gIx (dVar 0) (dVar 7)) (dC (.int 2))) (dCall F__law_cost (dCons (dVar 3) (dCons (dOp gIx (dOp gIx (dVar 0) (dVar 7)) (dC (.int 0))) (dCons (dOp gIx (dOp gIx (dVar 0) (dVar 7)) (dC (.int 1))) (dNil))))))) (sIf (D3.tOr (D3.tAnd (tBool (dOp gLt (dVar 8) (dC (.int 0)))) (tBool (dOp gIn (dVar 7) (dVar 2)))) (D3.tAnd (tBool (dOp gGt (dVar 8) (dC (.int 0)))) (tBool (dOp gNotin (dVar 7) (dVar 2))))) (sRet (dC (.bool false))) (sNil)))) [some (.d (.list (ws.map wiD))), some (.d (.list (fs.map .int))), some (.d (.list (cs.map .int))), some (.d (.list (ps.map prD))), y4, y5, y6, some (.d (.int (i : Int))), y8] =
 if b = true then some (.nx [some (.d (.list (ws.map wiD))), some (.d (.list (fs.map .int))), some (.d (.list (cs.map .int))), some (.d (.list (ps.map prD))), y4, y5, y6, some (.d (.int (i : Int))), some (.d (.int (gainI ps (wif ws i))))]) else some (.rt (.bool false)) := by
 intro b hb
 have e := pAt_getD wiD (l := ws) (0, 0, 0) (i := (i : Int)) (by omega) (by omega)
 rw [Int.toNat_natCast] at e
 have e : pAt (ws.map wiD) (i : Int) = some (.tuple [.int (wif ws i).1, .int (wif ws i).2.1, .int (wif ws i).2.2]) := e
 have Cs := law_cost_spec pl (wif ws i).1 (wif ws i).2.1
 have g0 : (wif ws i).2.2 - costI ps (wif ws i).1 (wif ws i).2.1 = gainI ps (wif ws i) := rfl
 unfold gnP at hb
 by_cases c : (i : Int) ∈ cs
 ·by_cases g : gainI ps (wif ws i) < 0
  ·rw [dTr c, dTr g] at hb
   have hb : false = b := hb
   subst hb
   rw [if_neg Bool.false_ne_true]
   simp only [EV, reduceIte, reduceAdd, reduceLT, reduceLeDiff, reduceEqDiff, reduceEq, Int.reduceLT, reduceLE, e, at0, at1, at2, Cs, g0, in_ints, dTr c, dTr g]
  ·rw [dTr c, dFa g] at hb
   have hb : true = b := hb
   subst hb
   rw [if_pos rfl]
   by_cases g2 : gainI ps (wif ws i) > 0
   ·simp only [EV, reduceIte, reduceAdd, reduceLT, reduceLeDiff, reduceEqDiff, reduceEq, Int.reduceLT, reduceLE, e, at0, at1, at2, Cs, g0, in_ints, notin_ints, dTr c, dFa g, dTr g2]
   ·simp only [EV, reduceIte, reduceAdd, reduceLT, reduceLeDiff, reduceEqDiff, reduceEq, Int.reduceLT, reduceLE, e, at0, at1, at2, Cs, g0, in_ints, notin_ints, dTr c, dFa g, dFa g2]
 ·by_cases g : gainI ps (wif ws i) > 0
  ·have g2 : ¬ gainI ps (wif ws i) < 0 := by omega
   rw [dFa c, dTr g] at hb
   have hb : false = b := hb
   subst hb
   rw [if_neg Bool.false_ne_true]
   simp only [EV, reduceIte, reduceAdd, reduceLT, reduceLeDiff, reduceEqDiff, reduceEq, Int.reduceLT, reduceLE, e, at0, at1, at2, Cs, g0, in_ints, notin_ints, dFa c, dFa g2, dTr g]
  ·rw [dFa c, dFa g] at hb
   have hb : true = b := hb
   subst hb
   rw [if_pos rfl]
   by_cases g2 : gainI ps (wif ws i) < 0
   ·simp only [EV, reduceIte, reduceAdd, reduceLT, reduceLeDiff, reduceEqDiff, reduceEq, Int.reduceLT, reduceLE, e, at0, at1, at2, Cs, g0, in_ints, notin_ints, dFa c, dTr g2, dFa g]
   ·simp only [EV, reduceIte, reduceAdd, reduceLT, reduceLeDiff, reduceEqDiff, reduceEq, Int.reduceLT, reduceLE, e, at0, at1, at2, Cs, g0, in_ints, notin_ints, dFa c, dFa g2, dFa g]
theorem lbest_gen (wl : ws.length ≤ 1000) (hl : cs.length ≤ 1000) (fl : fs.length ≤ 1000) (pl : ps.length ≤ 1000) : F__law_is_best [.list (ws.map wiD), .list (fs.map .int), .list (cs.map .int), .list (ps.map prD)] = some (.bool (ibB ws fs cs ps)) := by
 have Lc : Com.F__law_is_choice [.list (ws.map wiD), .list (fs.map .int), .list (cs.map .int)] = some (.bool (chB ws fs cs)) := lic_gen hl fl
 show Com.F__law_is_best _ = _
 unfold Com.F__law_is_best ibB
 cases c1 : chB ws fs cs with
 | false =>
  simp only [EV, reduceIte, reduceAdd, reduceLT, reduceLeDiff, reduceEqDiff, reduceEq, Int.reduceLT, reduceLE, Lc, c1]
  rfl
 | true =>
  have hin := in_iff.mp (Bool.and_eq_true_iff.mp (Bool.and_eq_true_iff.mp c1).1).2
  have r1 : qRng1 (some [.int (ps.length : Int)]) = some (rngD 0 (ps.length : Int)) := rng1 (by omega) (by omega)
  have r2 : qRng1 (some [.int (ws.length : Int)]) = some (rngD 0 (ws.length : Int)) := rng1 (by omega) (by omega)
  have rl : ∀ n : Nat, (rngD 0 (n : Int)).length = n := fun n => by unfold rngD; rw [List.length_map, List.length_range]; omega
  have L := for_bool (g := (gNl 4)) (b := (sSeq (sAsg (dOp gIx (dVar 3) (dVar 4)) (gTn 2 (gsCons (gNl 5) (gsCons (gNl 6) (gsNil))))) (sSeq (sIf (D3.tOr (D3.tNot (tBool (dChain gLe gLt (dC (.int 0)) (dVar 5) (dCall gLen (dCons (dVar 1) (dNil)))))) (D3.tOr (tBool (dOp gLt (dVar 6) (dC (.int 1)))) (D3.tAnd (tBool (dOp gGt (dVar 4) (dC (.int 0)))) (tBool (dOp gLe (dVar 5) (dOp gIx (dOp gIx (dVar 3) (dOp gSub (dVar 4) (dC (.int 1)))) (dC (.int 0)))))))) (sRet (dC (.bool false))) (sNil)) (sIf (tBool (dOp gNe (dCall F__law_holds (dCons (dVar 0) (dCons (dVar 2) (dCons (dVar 5) (dNil))))) (dOp gIx (dVar 1) (dVar 5)))) (sRet (dC (.bool false))) (sNil))))) (fun δ => ∃ y4 y5 y6, δ = [some (.d (.list (ws.map wiD))), some (.d (.list (fs.map .int))), some (.d (.list (cs.map .int))), some (.d (.list (ps.map prD))), y4, y5, y6, none, none]) (okP ws fs cs ps) (rngD 0 (ps.length : Int)) [some (.d (.list (ws.map wiD))), some (.d (.list (fs.map .int))), some (.d (.list (cs.map .int))), some (.d (.list (ps.map prD))), none, none, none, none, none] ⟨none, none, none, rfl⟩ (by
   rintro i d δ hd ⟨y4, y5, y6, rfl⟩
   obtain ⟨hk, rfl⟩ := rng_get hd
   refine ⟨_, rfl, fun hP => ⟨[some (.d (.list (ws.map wiD))), some (.d (.list (fs.map .int))), some (.d (.list (cs.map .int))), some (.d (.list (ps.map prD))), some (.d (.int (i : Int))), some (.d (.int (pg ps i).1)), some (.d (.int (pg ps i).2)), none, none], ?_, _, _, _, rfl⟩, fun hP => ?_⟩
   ·exact (lb_step1 (ws := ws) (fs := fs) (ps := ps) hl hin (show i < ps.length by omega) y5 y6 none none true hP).trans (by rw [if_pos rfl])
   ·exact (lb_step1 (ws := ws) (fs := fs) (ps := ps) hl hin (show i < ps.length by omega) y5 y6 none none false hP).trans (by rw [if_neg Bool.false_ne_true]))
  rw [rl, okP_all] at L
  rcases L with ⟨δ', e, ⟨y4, y5, y6, rfl⟩, q⟩ | ⟨e, q⟩
  ·have q1 := (Bool.and_eq_true_iff.mp q).1
   have q2 := (Bool.and_eq_true_iff.mp q).2
   have L2 := for_bool (g := (gNl 7)) (b := (sSeq (sSetl 8 (dOp gSub (dOp gIx (dOp gIx (dVar 0) (dVar 7)) (dC (.int 2))) (dCall F__law_cost (dCons (dVar 3) (dCons (dOp gIx (dOp gIx (dVar 0) (dVar 7)) (dC (.int 0))) (dCons (dOp gIx (dOp gIx (dVar 0) (dVar 7)) (dC (.int 1))) (dNil))))))) (sIf (D3.tOr (D3.tAnd (tBool (dOp gLt (dVar 8) (dC (.int 0)))) (tBool (dOp gIn (dVar 7) (dVar 2)))) (D3.tAnd (tBool (dOp gGt (dVar 8) (dC (.int 0)))) (tBool (dOp gNotin (dVar 7) (dVar 2))))) (sRet (dC (.bool false))) (sNil)))) (fun δ => ∃ y7 y8, δ = [some (.d (.list (ws.map wiD))), some (.d (.list (fs.map .int))), some (.d (.list (cs.map .int))), some (.d (.list (ps.map prD))), y4, y5, y6, y7, y8]) (gnP ws cs ps) (rngD 0 (ws.length : Int)) [some (.d (.list (ws.map wiD))), some (.d (.list (fs.map .int))), some (.d (.list (cs.map .int))), some (.d (.list (ps.map prD))), y4, y5, y6, none, none] ⟨none, none, rfl⟩ (by
    rintro i d δ hd ⟨y7, y8, rfl⟩
    obtain ⟨hk, rfl⟩ := rng_get hd
    refine ⟨_, rfl, fun hP => ⟨[some (.d (.list (ws.map wiD))), some (.d (.list (fs.map .int))), some (.d (.list (cs.map .int))), some (.d (.list (ps.map prD))), y4, y5, y6, some (.d (.int (i : Int))), some (.d (.int (gainI ps (wif ws i))))], ?_, _, _, rfl⟩, fun hP => ?_⟩
    ·exact (lb_step2 (ws := ws) (fs := fs) (cs := cs) pl (show i < ws.length by omega) y4 y5 y6 y8 true hP).trans (by rw [if_pos rfl])
    ·exact (lb_step2 (ws := ws) (fs := fs) (cs := cs) pl (show i < ws.length by omega) y4 y5 y6 y8 false hP).trans (by rw [if_neg Bool.false_ne_true]))
   rw [rl] at L2
   rcases L2 with ⟨δ2, e2, ⟨y7, y8, rfl⟩, q3⟩ | ⟨e2, q3⟩
   ·rw [q1, q2, q3]
    simp only [EV, reduceIte, reduceAdd, reduceLT, reduceLeDiff, reduceEqDiff, reduceEq, Int.reduceLT, reduceLE, Lc, c1, lMp, r1, e, r2, e2]
    try rfl
   ·rw [q1, q2, q3]
    simp only [EV, reduceIte, reduceAdd, reduceLT, reduceLeDiff, reduceEqDiff, reduceEq, Int.reduceLT, reduceLE, Lc, c1, lMp, r1, e, r2, e2]
    try rfl
  ·have bad : ((true && plB fs.length ps) && ((List.range ws.length).all (gnP ws cs ps) && soB ws fs cs ps)) = false := by
    cases a1 : plB fs.length ps <;> cases a2 : soB ws fs cs ps <;> rw [a1, a2] at q <;> simp_all
   rw [bad]
   simp only [EV, reduceIte, reduceAdd, reduceLT, reduceLeDiff, reduceEqDiff, reduceEq, Int.reduceLT, reduceLE, Lc, c1, lMp, r1, e]
theorem lys2 {a b : D} {n : Nat} (h1 : ly n a) (h2 : ly n b) : ly (n + 1) (.tuple [a, b]) := ly_tup (lys_cons h1 (lys_cons h2 lys_nil))
theorem both (wsD fsD : List D) (h1 : ly 50 (.list wsD)) (h2 : ly 50 (.list fsD)) : gNe (.tuple [.list wsD, .list fsD]) (.tuple [.list wsD, .list fsD]) = some (.bool false) := ne_self (ly_le (lys2 h1 h2) (by decide))
theorem wis50 (ws : List Wi) : ly 50 (.list (ws.map wiD)) := ly_le (ly_list (lys_map wiD wi_ly ws)) (by decide)
theorem prs50 (ps : List Pr) : ly 50 (.list (ps.map prD)) := ly_le (ly_list (lys_map prD pr_ly ps)) (by decide)
theorem ints50 (l : List Int) : ly 50 (.list (l.map .int)) := ly_le (ly_list (lys_map PyData.int (fun _ => ly_int (n := 0)) l)) (by decide)
theorem told_gen (wl : ws.length ≤ 1000) (hl : cs.length ≤ 1000) (fl : fs.length ≤ 1000) (pl : ps.length ≤ 1000) (hw : ∀ w ∈ ws, wiOk fs.length w) : F__law_told [.list (ws.map wiD), .list (fs.map .int), .list (cs.map .int), .list (ps.map prD), .bool (ibB ws fs cs ps)] = some (.bool true) := by
 have B := best_gen wl hl fl pl hw
 have e1 := both _ _ (wis50 ws) (ints50 fs)
 have e2 := both _ _ (ints50 cs) (prs50 ps)
 have e3 : gEq (.bool (ibB ws fs cs ps)) (.bool (ibB ws fs cs ps)) = some (.bool true) := by cases ibB ws fs cs ps <;> rfl
 unfold F__law_told
 simp only [EV, reduceIte, reduceAdd, reduceLT, reduceLeDiff, reduceEqDiff, reduceEq, Int.reduceLT, reduceLE, sz (show 2 ≤ 1000000 by decide), at0, at1, B, e1, e2, show D3.isT "bool" (tyD (.bool (ibB ws fs cs ps))) = true from rfl, e3]
end
theorem more_rise {wi : Nat → Wi} {fr : Nat → Int} {N k : Nat} {ch ch' : List Nat} (M : Be.More wi fr N k ch ch') (h : ch.Pairwise (· < ·)) : ch'.Pairwise (· < ·) := by
 obtain ⟨l, c, _, _, _, ⟨_, rfl⟩ | ⟨y, P, _, _, _, _, _, rfl⟩⟩ := M
 ·exact h
 ·exact List.Pairwise.filter _ List.pairwise_lt_range
theorem bestS {ws : List Wi} {fs : List Int} (hw : ∀ w ∈ ws, wiOk fs.length w) (hf : ∀ f ∈ fs, 0 ≤ f) (wl : ws.length ≤ 900) (fl : fs.length ≤ 900) : ∃ ch d, Be.ChOk (wif ws) (frf fs) fs.length ch ws.length ∧ ch.Pairwise (· < ·) ∧ Be.Good (Be.allW (wif ws) (frf fs) fs.length ch ws.length) d ∧
 F_best [.list (ws.map wiD), .list (fs.map .int)] = some (.tuple [.int (Be.worth (wif ws) ch), .list ((cZ ch).map .int), .list ((plist d fs.length).map prD)]) := by
 have rr : qRng1 (some [.int (ws.length : Int)]) = some (rngD 0 (ws.length : Int)) := rng1 (by omega) (by omega)
 have ok0 : Be.ChOk (wif ws) (frf fs) fs.length [] 0 := ⟨List.nodup_nil, fun _ h => (by cases h), fun n hn => by
  show (0 : Int) ≤ fs.getD n 0
  rw [List.getD_eq_getElem?_getD, List.getElem?_eq_getElem hn]
  exact hf _ (List.getElem_mem hn)⟩
 have g0 : Be.Good (Be.allW (wif ws) (frf fs) fs.length [] 0) (fun _ => 0) := fun w h => by
  rcases Be.mem_allW.mp h with ⟨n, _, rfl⟩ | ⟨n, _, _, rfl⟩ | ⟨i, hi, rfl⟩
  ·exact Int.le_refl _
  ·exact Int.le_refl _
  ·omega
 obtain ⟨δ', e, ch, π, z3, ok, up, g, rfl⟩ := for_inv (g := (gNl 3)) (b := (sSetl 2 (dCall F_with_one_more (dCons (dVar 0) (dCons (dVar 1) (dCons (dVar 2) (dCons (dVar 3) (dNil)))))))) (fun k δ => ∃ (ch : List Nat) (π : Nat → Int) (y3 : Option U), Be.ChOk (wif ws) (frf fs) fs.length ch k ∧ ch.Pairwise (· < ·) ∧ Be.Good (Be.allW (wif ws) (frf fs) fs.length ch k) π ∧ δ = [some (.d (.list (ws.map wiD))), some (.d (.list (fs.map .int))), some (.d (.list ((cZ ch).map .int))), y3]) (rngD 0 (ws.length : Int))
  [some (.d (.list (ws.map wiD))), some (.d (.list (fs.map .int))), some (.d (.list [])), none] ⟨[], fun _ => 0, none, ok0, .nil, g0, rfl⟩
  (by
   rintro k d δ hd ⟨ch, π, y3, ok, up, g, rfl⟩
   obtain ⟨hk, rfl⟩ := rng_get hd
   obtain ⟨ch', π', M, ok', g'⟩ := Be.one_more (fun i hi => wif_be hw (by omega)) ok g
   have len := Be.pigeon ok.nd ok.lt
   have O := one_spec hw (by omega) ok.lt (by omega) (by omega) (by omega) M
   refine ⟨_, _, rfl, .inl ?_, ch', π', some (.d (.int (k : Int))), ok', more_rise M up, g', rfl⟩
   simp only [EV, reduceIte, reduceAdd, reduceLT, reduceLeDiff, reduceEqDiff, reduceEq, Int.reduceLT, reduceLE, O])
 rw [rng_len, Int.toNat_natCast] at ok g
 have len := Be.pigeon ok.nd ok.lt
 obtain ⟨l, c, R, ll, al, gd⟩ := Be.prices_ex (fun i hi => wif_be hw hi) g
 have Pr := pricesof_spec hw ok.lt (by omega) (by omega) (by omega) R ll al
 have W := worth_spec (ws := ws) (cs := cZ ch) (by unfold cZ; rw [List.length_map]; omega) (fun c h => by
  unfold cZ at h
  obtain ⟨i, hi, rfl⟩ := List.mem_map.mp h
  have := ok.lt i hi
  omega)
 rw [worth_eq] at W
 refine ⟨ch, _, ok, up, gd, ?_⟩
 show Com.F_best _ = _
 unfold Com.F_best
 simp only [EV, reduceIte, reduceAdd, reduceLT, reduceLeDiff, reduceEqDiff, reduceEq, Int.reduceLT, reduceLE, v_fnL, v_fnL_ex, seq_ex, v_retL, v_retL_s, check_wishes_spec hw, lMp, rr, e, W, Pr, sz (show 0 ≤ 1000000 by decide), sz (show 3 ≤ 1000000 by decide)]
theorem rise_ri {l : List Int} (h : l.Pairwise (· < ·)) : riB l = true := by
 rw [ri_iff]
 intro k hk
 have := List.pairwise_iff_getElem.mp h k (k + 1) (by omega) hk (by omega)
 rw [List.getD_eq_getElem?_getD, List.getD_eq_getElem?_getD, List.getElem?_eq_getElem hk, List.getElem?_eq_getElem (show k < l.length by omega)]
 exact this
theorem pl_rise (d : Nat → Int) (N : Nat) : ((plist d N).map (·.1)).Pairwise (· < ·) := by
 unfold plist
 rw [List.map_map]
 refine List.Pairwise.map (R := (· < ·)) _ (fun a b h => ?_) (List.Pairwise.filter _ List.pairwise_lt_range)
 show (a : Int) < (b : Int)
 omega
theorem pl_mem {d : Nat → Int} {N : Nat} {p : Pr} (h : p ∈ plist d N) : ∃ n : Nat, n < N ∧ 0 < Be.prc d n ∧ p = ((n : Int), Be.prc d n) := by
 unfold plist at h
 obtain ⟨n, hn, rfl⟩ := List.mem_map.mp h
 rw [List.mem_filter] at hn
 exact ⟨n, List.mem_range.mp hn.1, of_decide_eq_true hn.2, rfl⟩
theorem best_ib {ws : List Wi} {fs : List Int} {ch : List Nat} {d : Nat → Int} (hw : ∀ w ∈ ws, wiOk fs.length w) (ok : Be.ChOk (wif ws) (frf fs) fs.length ch ws.length) (up : ch.Pairwise (· < ·)) (g : Be.Good (Be.allW (wif ws) (frf fs) fs.length ch ws.length) d) : ibB ws fs (cZ ch) (plist d fs.length) = true := by
 have pp : ∀ n, n < fs.length → 0 ≤ Be.prc d n := fun n hn => by
  have := g (Be.onw n) (Be.mem_allW.mpr (.inl ⟨n, hn, rfl⟩))
  unfold Be.onw at this
  unfold Be.prc
  dsimp only at this
  omega
 have fr : ∀ n : Nat, n < fs.length → frf fs n = fs.getD n 0 := fun n hn => rfl
 unfold ibB chB plB
 simp only [Bool.and_eq_true]
 refine ⟨⟨⟨⟨rise_ri ?_, in_iff.mpr fun c hc => ?_⟩, ?_⟩, ?_, rise_ri (pl_rise d _)⟩, ?_, ?_⟩
 ·unfold cZ
  refine List.Pairwise.map (R := (· < ·)) _ (fun a b h => ?_) up
  show (a : Int) < (b : Int)
  omega
 ·unfold cZ at hc
  obtain ⟨i, hi, rfl⟩ := List.mem_map.mp hc
  have := ok.lt i hi
  omega
 ·unfold fiB
  rw [List.all_eq_true]
  intro n hn
  have hn := List.mem_range.mp hn
  refine dTr ?_
  rw [held_eq]
  exact ok.fit n hn
 ·rw [List.all_eq_true]
  intro p hp
  obtain ⟨n, h1, h2, rfl⟩ := pl_mem hp
  unfold pB
  simp only [Bool.and_eq_true, decide_eq_true_eq]
  omega
 ·rw [List.all_eq_true]
  intro i hi
  have hi := List.mem_range.mp hi
  obtain ⟨w1, w2, w3, w4, w5⟩ := wif_ok hw hi
  have gi : gainI (plist d fs.length) (wif ws i) = (wif ws i).2.2 - (d (wif ws i).1.toNat - d (wif ws i).2.1.toNat) := by
   unfold gainI
   rw [cost_plist pp w1 (by omega) w3]
  have gw := g (Be.wayOf (wif ws) ch i) (Be.mem_allW.mpr (.inr (.inr ⟨i, hi, rfl⟩)))
  unfold Be.wayOf at gw
  unfold gnP
  by_cases c : i ∈ ch
  ·rw [if_pos c] at gw
   dsimp only at gw
   have c' : ((i : Int) ∈ cZ ch) := mem_cZ.mpr c
   have : ¬ gainI (plist d fs.length) (wif ws i) < 0 := by rw [gi]; omega
   rw [dTr c', dFa this]
   rfl
  ·rw [if_neg c] at gw
   dsimp only at gw
   have c' : ¬ ((i : Int) ∈ cZ ch) := fun z => c (mem_cZ.mp z)
   have : ¬ gainI (plist d fs.length) (wif ws i) > 0 := by rw [gi]; omega
   rw [dFa c', dFa this]
   rfl
 ·unfold soB
  rw [List.all_eq_true]
  intro p hp
  obtain ⟨n, h1, h2, rfl⟩ := pl_mem hp
  refine dTr ?_
  show ((heldI ws (cZ ch) (n : Int) : Nat) : Int) = fs.getD ((n : Int)).toNat 0
  rw [held_eq, Int.toNat_natCast]
  have a := ok.fit n h1
  by_cases z : Be.held (wif ws) ch n < frf fs n
  ·have := g (Be.bck n) (Be.mem_allW.mpr (.inr (.inl ⟨n, h1, z, rfl⟩)))
   unfold Be.bck at this
   unfold Be.prc at h2
   dsimp only at this
   omega
  ·have e : frf fs n = fs.getD n 0 := rfl
   rw [← e]
   omega
theorem eq_nil {l : List D} (h : ly 60 (.list l)) : gEq (.list l) (.list []) = some (.bool l.isEmpty) := by
 unfold gEq
 rw [ly_shaped h, show SeqAt.shaped (.list []) = true from rfl]
 cases l <;> simp [PyData.eqv, PyData.eqvAll]
theorem sort_ints {l : List Int} (h : l.length < 64) : gSort [.list (l.map .int)] = some (.list ((srtI l).map .int)) := by
 show (intsD (l.map .int)).bind _ = _
 rw [intsD_map, Option.bind_some, if_pos h]
theorem popM {α : Type} (f : α → D) {cs : List α} (hl : cs.length ≤ 1000) {j : Int} (h0 : 0 ≤ j) (h1 : j < cs.length) : popD j (cs.map f) = some ((cs.eraseIdx j.toNat).map f) := by
 unfold popD pIx
 rw [List.length_map, if_pos (by omega), if_pos h0, if_pos h1]
 show some ((cs.map f).eraseIdx j.toNat) = _
 rw [List.eraseIdx_eq_take_drop_succ, List.eraseIdx_eq_take_drop_succ, List.map_append, List.map_take, List.map_drop]
theorem insM {α : Type} (f : α → D) {cs : List α} (hl : cs.length ≤ 1000) {j : Int} {x : α} (h0 : 0 ≤ j) (h1 : j ≤ 100000) : insD j (f x) (cs.map f) = some ((cs.take (insK cs.length j) ++ x :: cs.drop (insK cs.length j)).map f) := by
 unfold insD
 rw [List.length_map, if_pos ⟨by omega, by omega, by omega⟩, List.map_append, List.map_cons, List.map_take, List.map_drop]
theorem ints60 (l : List Int) : ly 60 (.list (l.map .int)) := ly_le (ints50 l) (by decide)
theorem prs60 (l : List Pr) : ly 60 (.list (l.map prD)) := ly_le (prs50 l) (by decide)
theorem other_choice {cs : List Int} (hl : cs.length ≤ 50) {m : Nat} (hm : m ≤ 50) {x0 x1 : Int} {xs : List Int} (b1 : r6 x1) : ∃ cs' : List Int, cs'.length ≤ 60 ∧ F__law_other_choice [.list (cs.map .int), .int (m : Int), .list ((x0 :: x1 :: xs).map .int)] = some (.list (cs'.map .int)) := by
 have i0 : pAt ((x0 :: x1 :: xs).map PyData.int) 0 = some (.int x0) := at0
 have i1 : pAt ((x0 :: x1 :: xs).map PyData.int) 1 = some (.int x1) := at1
 generalize (x0 :: x1 :: xs).map PyData.int = XX at *
 have m3 := modR (i := x0) (j := 3) (by decide)
 have m3e : gMod (.int x0) (.int 3) = some (.int (x0 % 3)) := modP (by decide)
 have gl : gList (.list (cs.map .int)) = some (.list (cs.map .int)) := rfl
 have nn := ne_nil (ints60 cs)
 have em : (cs.map PyData.int).isEmpty = cs.isEmpty := by cases cs <;> rfl
 rw [em] at nn
 have z0 := sz (show 0 ≤ 1000000 by decide)
 have z1 := sz (show 1 ≤ 1000000 by decide)
 have rest : (x0 % 3 = 0 → cs.isEmpty = true) → ∃ cs' : List Int, cs'.length ≤ 60 ∧ F__law_other_choice [.list (cs.map .int), .int (m : Int), .list XX] = some (.list (cs'.map .int)) := fun hno => by
  by_cases mz : (m : Int) > 0
  ·have mm := modR (i := x1) (j := (m : Int)) (by omega)
   have me : gMod (.int x1) (.int (m : Int)) = some (.int (x1 % (m : Int))) := modP (by omega)
   by_cases c1 : x0 % 3 = 1
   ·have c0 : ¬ x0 % 3 = 0 := by omega
    have so := sort_ints (l := cs ++ [x1 % (m : Int)]) (by rw [List.length_append]; simp; omega)
    rw [List.map_append] at so
    have so : gSort [.list (cs.map PyData.int ++ [PyData.int (x1 % (m : Int))])] = some (.list ((srtI (cs ++ [x1 % (m : Int)])).map .int)) := so
    refine ⟨srtI (cs ++ [x1 % (m : Int)]), by rw [(srtI_perm _).length_eq, List.length_append]; simp; omega, ?_⟩
    show Com.F__law_other_choice _ = _
    unfold Com.F__law_other_choice
    simp only [EV, reduceIte, reduceAdd, reduceLT, reduceLeDiff, reduceEqDiff, reduceEq, Int.reduceLT, reduceLE, i0, i1, m3e, gl, nn, z0, z1, dFa c0, dTr c1, dTr mz, me, lMp, show cs.length + 1 ≤ 1000000 by omega, show cs.length + (0 + 1) ≤ 1000000 by omega, so, flats_ints]
   ·have C := cFil (g := (gNl 0)) (c := (tBool (dOp gNe (dOp gIn (dVar 0) (dVar 1)) (dOp gEq (dVar 0) (dOp gMod (dOp gIx (dVar 3) (dC (.int 1))) (dVar 2)))))) (e := (dFlat (dVar 0))) (δ := [none, some (.d (.list (cs.map .int))), some (.d (.int (m : Int))), some (.d (.list XX))]) (fun k : Nat => PyData.int (k : Int)) (fun k : Nat => (decide ((k : Int) ∈ cs)) != (decide ((k : Int) = x1 % (m : Int)))) (fun k : Nat => PyData.int (k : Int)) (List.range (m : Int).toNat) (fun k hk => by
     refine ⟨[some (.d (.int (k : Int))), some (.d (.list (cs.map .int))), some (.d (.int (m : Int))), some (.d (.list XX))], rfl, ?_, fun _ => rfl⟩
     simp only [EV, reduceIte, reduceAdd, reduceLT, reduceLeDiff, reduceEqDiff, reduceEq, Int.reduceLT, reduceLE, in_ints, i1, me, ne_bool])
    rw [← rng_map] at C
    have cc : ∀ a b c d : Option U, capD 1 [3, 1, 2] [a, b, c, d] = [none, d, b, c] := fun _ _ _ _ => rfl
    have rr : qRng1 (some [.int (m : Int)]) = some (rngD 0 (m : Int)) := rng1 (by omega) (by omega)
    have rl : (rngD 0 (m : Int)).length ≤ 100000 := by rw [rng_len]; omega
    have e2 : ((List.range (m : Int).toNat).filter fun k : Nat => (decide ((k : Int) ∈ cs)) != (decide ((k : Int) = x1 % (m : Int)))).map (fun k : Nat => PyData.int (k : Int)) = ((((List.range (m : Int).toNat).filter fun k : Nat => (decide ((k : Int) ∈ cs)) != (decide ((k : Int) = x1 % (m : Int)))).map fun k : Nat => (k : Int))).map .int := by rw [List.map_map]; rfl
    rw [e2] at C
    generalize hls : (((List.range (m : Int).toNat).filter fun k : Nat => (decide ((k : Int) ∈ cs)) != (decide ((k : Int) = x1 % (m : Int)))).map fun k : Nat => (k : Int)) = ls at C
    have lsl : ls.length ≤ 50 := by
     rw [← hls, List.length_map]
     have := List.length_filter_le (fun k : Nat => (decide ((k : Int) ∈ cs)) != (decide ((k : Int) = x1 % (m : Int)))) (List.range (m : Int).toNat)
     rw [List.length_range] at this
     omega
    have so := sort_ints (l := ls) (by omega)
    refine ⟨srtI ls, by rw [(srtI_perm _).length_eq]; omega, ?_⟩
    show Com.F__law_other_choice _ = _
    unfold Com.F__law_other_choice
    by_cases c0 : x0 % 3 = 0
    ·rw [hno c0] at nn
     simp only [EV, reduceIte, reduceAdd, reduceLT, reduceLeDiff, reduceEqDiff, reduceEq, Int.reduceLT, reduceLE, i0, i1, m3e, gl, nn, z0, z1, dTr c0, dFa c1, dTr mz, rr, rl, cc, C, so, flats_ints]
    ·simp only [EV, reduceIte, reduceAdd, reduceLT, reduceLeDiff, reduceEqDiff, reduceEq, Int.reduceLT, reduceLE, i0, i1, m3e, gl, nn, z0, z1, dFa c0, dFa c1, dTr mz, rr, rl, cc, C, so, flats_ints]
  ·refine ⟨cs, by omega, ?_⟩
   show Com.F__law_other_choice _ = _
   unfold Com.F__law_other_choice
   by_cases c0 : x0 % 3 = 0
   ·rw [hno c0] at nn
    by_cases c1 : x0 % 3 = 1
    ·omega
    ·simp only [EV, reduceIte, reduceAdd, reduceLT, reduceLeDiff, reduceEqDiff, reduceEq, Int.reduceLT, reduceLE, i0, i1, m3e, gl, nn, z0, z1, dTr c0, dFa c1, dFa mz, flats_ints]
   ·by_cases c1 : x0 % 3 = 1
    ·simp only [EV, reduceIte, reduceAdd, reduceLT, reduceLeDiff, reduceEqDiff, reduceEq, Int.reduceLT, reduceLE, i0, i1, m3e, gl, nn, z0, z1, dFa c0, dTr c1, dFa mz, flats_ints]
    ·simp only [EV, reduceIte, reduceAdd, reduceLT, reduceLeDiff, reduceEqDiff, reduceEq, Int.reduceLT, reduceLE, i0, i1, m3e, gl, nn, z0, z1, dFa c0, dFa c1, dFa mz, flats_ints]
 by_cases c0 : x0 % 3 = 0
 ·cases ce : cs.isEmpty with
  | true => exact rest fun _ => ce
  | false =>
   rw [ce] at nn
   have pos : 0 < cs.length := by cases cs with
    | nil => cases ce
    | cons a r => simp
   have mp := modR (i := x1) (j := (cs.length : Int)) (by omega)
   have mpe : gMod (.int x1) (.int (cs.length : Int)) = some (.int (x1 % (cs.length : Int))) := modP (by omega)
   have po := popM PyData.int (cs := cs) (by omega) mp.1 mp.2
   refine ⟨cs.eraseIdx (x1 % (cs.length : Int)).toNat, by have := List.length_eraseIdx_le cs (x1 % (cs.length : Int)).toNat; omega, ?_⟩
   show Com.F__law_other_choice _ = _
   unfold Com.F__law_other_choice
   simp only [EV, reduceIte, reduceAdd, reduceLT, reduceLeDiff, reduceEqDiff, reduceEq, Int.reduceLT, reduceLE, i0, i1, m3e, gl, nn, z0, z1, dTr c0, lMp, mpe, v_popI, v_popI_s, qM_s po, flats_ints]
 ·exact rest fun z => absurd z c0
theorem ints_prs {ps : List Pr} (h : ps ≠ []) : intsD (ps.map prD) = none := by
 cases ps with
 | nil => exact absurd rfl h
 | cons p r => rfl
theorem prs_prs : ∀ ps : List Pr, XS.prsD (ps.map prD) = some ps
 | [] => rfl
 | p :: r => by
  show (XS.prsD (r.map prD)).map _ = _
  rw [prs_prs r]
  rfl
theorem sort_prs {ps : List Pr} (h0 : ps ≠ []) (hl : ps.length < 64) : ∃ ps' : List Pr, ps'.length = ps.length ∧ XS.gSortP [.list (ps.map prD)] = some (.list (ps'.map prD)) := by
 have base : XS.gSortP [.list (ps.map prD)] = (if (ps.map prD).length < 64 then (if (ps.map prD).length = 1 then some (.list (ps.map prD)) else some (.list ((XS.ordT (ps.map prD).length (XS.ltP ps)).map fun i => (ps.map prD).getD i .none))) else none) := by
  unfold XS.gSortP
  dsimp only
  rw [ints_prs h0]
  dsimp only
  rw [prs_prs]
  rfl
 rw [base, List.length_map, if_pos hl]
 by_cases c : ps.length = 1
 ·exact ⟨ps, rfl, by rw [if_pos c]⟩
 ·rw [if_neg c]
  have pos : 0 < ps.length := List.length_pos_iff.mpr h0
  have pm := XS.ord_perm pos (XS.ltP ps)
  refine ⟨(XS.ordT ps.length (XS.ltP ps)).map fun i => ps.getD i (0, 0), by rw [List.length_map, pm.length_eq, List.length_range], ?_⟩
  rw [List.map_map]
  congr 2
  refine List.map_congr_left fun i hi => ?_
  have lt := List.mem_range.mp (pm.mem_iff.mp hi)
  show (ps.map prD).getD i .none = prD (ps.getD i (0, 0))
  rw [List.getD_eq_getElem?_getD, List.getElem?_map, List.getD_eq_getElem?_getD, List.getElem?_eq_getElem lt]
  rfl
theorem flats_prs (l : List Pr) : flats (l.map prD) = true := flats_all prD pr_flat l
theorem other_prices {ps : List Pr} (hl : ps.length ≤ 50) {n : Nat} {x0 x1 x2 x3 : Int} {xs : List Int} (b1 : r6 x1) (b2 : r6 x2) : ∃ ps' : List Pr, ps'.length ≤ 60 ∧ F__law_other_prices [.list (ps.map prD), .int (n : Int), .list ((x0 :: x1 :: x2 :: x3 :: xs).map .int)] = some (.list (ps'.map prD)) := by
 have i0 : pAt ((x0 :: x1 :: x2 :: x3 :: xs).map PyData.int) 0 = some (.int x0) := at0
 have i1 : pAt ((x0 :: x1 :: x2 :: x3 :: xs).map PyData.int) 1 = some (.int x1) := at1
 have i2 : pAt ((x0 :: x1 :: x2 :: x3 :: xs).map PyData.int) 2 = some (.int x2) := at2
 have i3 : pAt ((x0 :: x1 :: x2 :: x3 :: xs).map PyData.int) 3 = some (.int x3) := at3
 generalize (x0 :: x1 :: x2 :: x3 :: xs).map PyData.int = XX at *
 have m6 := modR (i := x0) (j := 6) (by decide)
 have m6e : gMod (.int x0) (.int 6) = some (.int (x0 % 6)) := modP (by decide)
 have gl : gList (.list (ps.map prD)) = some (.list (ps.map prD)) := rfl
 have nn := eq_nil (prs60 ps)
 have em : (ps.map prD).isEmpty = ps.isEmpty := by cases ps <;> rfl
 rw [em] at nn
 have z0 := sz (show 0 ≤ 1000000 by decide)
 have z2 := sz (show 2 ≤ 1000000 by decide)
 have z4 := sz (show 4 ≤ 1000000 by decide)
 by_cases way : x0 % 6 = 0 ∨ ps.isEmpty = true
 ·have ml := modR (i := x1) (j := (ps.length : Int) + 1) (by omega)
  have me : gMod (.int x1) (.int ((ps.length : Int) + 1)) = some (.int (x1 % ((ps.length : Int) + 1))) := modP (by omega)
  have mn : gMod (.int x2) (.int ((n : Int) + 1)) = some (.int (x2 % ((n : Int) + 1))) := modP (by omega)
  have m5 : gMod (.int x3) (.int 5) = some (.int (x3 % 5)) := modP (by decide)
  have dv : gDiv (.int x2) (.int 64) = some (.int (x2 / 64)) := divP (by decide) (by decide)
  have m2 : gMod (.int (x2 / 64)) (.int 2) = some (.int (x2 / 64 % 2)) := modP (by decide)
  have ins : insD (x1 % ((ps.length : Int) + 1)) (.tuple [.int (x2 % ((n : Int) + 1)), .int (1 + x3 % 5)]) (ps.map prD) = _ := insM prD (cs := ps) (x := (x2 % ((n : Int) + 1), 1 + x3 % 5)) (by omega) ml.1 (by omega)
  generalize hps : ps.take (insK ps.length (x1 % ((ps.length : Int) + 1))) ++ (x2 % ((n : Int) + 1), 1 + x3 % 5) :: ps.drop (insK ps.length (x1 % ((ps.length : Int) + 1))) = qs at ins
  have ql : qs.length ≤ 51 := by rw [← hps, List.length_append, List.length_cons, List.length_take, List.length_drop]; omega
  have qn : qs ≠ [] := by rw [← hps]; simp
  obtain ⟨rs, rl, er⟩ := sort_prs qn (by omega)
  have fin : ∀ b, decide (x2 / 64 % 2 = 0) = b → ∃ ps' : List Pr, ps'.length ≤ 60 ∧ F__law_other_prices [.list (ps.map prD), .int (n : Int), .list XX] = some (.list (ps'.map prD)) := fun b hb => by
   cases b with
   | true =>
    refine ⟨rs, by omega, ?_⟩
    unfold F__law_other_prices
    by_cases c0 : x0 % 6 = 0
    ·simp only [EV, reduceIte, reduceAdd, reduceLT, reduceLeDiff, reduceEqDiff, reduceEq, Int.reduceLT, reduceLE, i0, i1, i2, i3, m6e, gl, nn, z0, z2, dTr c0, lMp, me, mn, m5, v_ins, v_ins_s, qM_s ins, dv, m2, hb, er, flats_prs]
    ·have ee : ps.isEmpty = true := way.resolve_left c0
     rw [ee] at nn
     simp only [EV, reduceIte, reduceAdd, reduceLT, reduceLeDiff, reduceEqDiff, reduceEq, Int.reduceLT, reduceLE, i0, i1, i2, i3, m6e, gl, nn, z0, z2, dFa c0, lMp, me, mn, m5, v_ins, v_ins_s, qM_s ins, dv, m2, hb, er, flats_prs]
   | false =>
    refine ⟨qs, by omega, ?_⟩
    unfold F__law_other_prices
    by_cases c0 : x0 % 6 = 0
    ·simp only [EV, reduceIte, reduceAdd, reduceLT, reduceLeDiff, reduceEqDiff, reduceEq, Int.reduceLT, reduceLE, i0, i1, i2, i3, m6e, gl, nn, z0, z2, dTr c0, lMp, me, mn, m5, v_ins, v_ins_s, qM_s ins, dv, m2, hb, flats_prs]
    ·have ee : ps.isEmpty = true := way.resolve_left c0
     rw [ee] at nn
     simp only [EV, reduceIte, reduceAdd, reduceLT, reduceLeDiff, reduceEqDiff, reduceEq, Int.reduceLT, reduceLE, i0, i1, i2, i3, m6e, gl, nn, z0, z2, dFa c0, lMp, me, mn, m5, v_ins, v_ins_s, qM_s ins, dv, m2, hb, flats_prs]
  exact fin _ rfl
 ·have c0 : ¬ x0 % 6 = 0 := fun z => way (.inl z)
  have ce : ps.isEmpty = false := by cases q : ps.isEmpty with
   | false => rfl
   | true => exact absurd (.inr q) way
  rw [ce] at nn
  have pos : 0 < ps.length := by cases ps with
   | nil => cases ce
   | cons a r => simp
  have mp := modR (i := x1) (j := (ps.length : Int)) (by omega)
  have mpe : gMod (.int x1) (.int (ps.length : Int)) = some (.int (x1 % (ps.length : Int))) := modP (by omega)
  have at_ := pAt_getD prD (l := ps) (0, 0) mp.1 mp.2
  generalize hp : ps.getD (x1 % (ps.length : Int)).toNat (0, 0) = p at at_
  have at_ : pAt (ps.map prD) (x1 % (ps.length : Int)) = some (.tuple [.int p.1, .int p.2]) := at_
  have pi : pIx ps.length (x1 % (ps.length : Int)) = some (x1 % (ps.length : Int)).toNat := by unfold pIx; rw [if_pos mp.1, if_pos mp.2]
  have m4 := modR (i := x2) (j := 4) (by decide)
  have m4e : gMod (.int x2) (.int 4) = some (.int (x2 % 4)) := modP (by decide)
  have m9 : gMod (.int x3) (.int 1000000000) = some (.int (x3 % 1000000000)) := modP (by decide)
  have four : ∀ a b c d : Int, ∃ v, pAt [PyData.int a, .int b, .int c, .int d] (x2 % 4) = some (.int v) := fun a b c d => by
   have : x2 % 4 = 0 ∨ x2 % 4 = 1 ∨ x2 % 4 = 2 ∨ x2 % 4 = 3 := by omega
   rcases this with e | e | e | e <;> rw [e]
   ·exact ⟨a, rfl⟩
   ·exact ⟨b, rfl⟩
   ·exact ⟨c, rfl⟩
   ·exact ⟨d, rfl⟩
  by_cases c3 : x0 % 6 < 3
  ·obtain ⟨v, ev⟩ := four 1 (-1) (-p.2) (x3 % 1000000000)
   have ms : (ps.map prD).set (x1 % (ps.length : Int)).toNat (.tuple [PyData.int p.1, PyData.int (p.2 + v)]) = (ps.set (x1 % (ps.length : Int)).toNat (p.1, p.2 + v)).map prD := by rw [List.map_set]; rfl
   refine ⟨ps.set (x1 % (ps.length : Int)).toNat (p.1, p.2 + v), by rw [List.length_set]; omega, ?_⟩
   unfold F__law_other_prices
   simp only [EV, reduceIte, reduceAdd, reduceLT, reduceLeDiff, reduceEqDiff, reduceEq, Int.reduceLT, reduceLE, i0, i1, i2, i3, m6e, gl, nn, z0, z2, z4, dFa c0, lMp, mpe, at_, dTr c3, pow9, m9, m4e, ev, pi, Option.bind_some, ms, flats_prs]
  ·by_cases c4 : x0 % 6 = 3
   ·have po := popM prD (cs := ps) (by omega) mp.1 mp.2
    refine ⟨ps.eraseIdx (x1 % (ps.length : Int)).toNat, by have := List.length_eraseIdx_le ps (x1 % (ps.length : Int)).toNat; omega, ?_⟩
    unfold F__law_other_prices
    simp only [EV, reduceIte, reduceAdd, reduceLT, reduceLeDiff, reduceEqDiff, reduceEq, Int.reduceLT, reduceLE, i0, i1, i2, i3, m6e, gl, nn, z0, z2, z4, dFa c0, lMp, mpe, at_, dFa c3, dTr c4, v_popI, v_popI_s, qM_s po, flats_prs]
   ·by_cases c5 : x0 % 6 = 4
    ·obtain ⟨v, ev⟩ := four 1 (-1) (n : Int) (-(n : Int))
     have ms : (ps.map prD).set (x1 % (ps.length : Int)).toNat (.tuple [PyData.int (p.1 + v), PyData.int p.2]) = (ps.set (x1 % (ps.length : Int)).toNat (p.1 + v, p.2)).map prD := by rw [List.map_set]; rfl
     refine ⟨ps.set (x1 % (ps.length : Int)).toNat (p.1 + v, p.2), by rw [List.length_set]; omega, ?_⟩
     unfold F__law_other_prices
     simp only [EV, reduceIte, reduceAdd, reduceLT, reduceLeDiff, reduceEqDiff, reduceEq, Int.reduceLT, reduceLE, i0, i1, i2, i3, m6e, gl, nn, z0, z2, z4, dFa c0, lMp, mpe, at_, dFa c3, dFa c4, dTr c5, m4e, ev, pi, Option.bind_some, ms, flats_prs]
    ·refine ⟨ps.reverse, by rw [List.length_reverse]; omega, ?_⟩
     have rv : qM (fun l => some l.reverse) = qM (fun l => some l.reverse) := rfl
     unfold F__law_other_prices
     simp only [EV, reduceIte, reduceAdd, reduceLT, reduceLeDiff, reduceEqDiff, reduceEq, Int.reduceLT, reduceLE, i0, i1, i2, i3, m6e, gl, nn, z0, z2, z4, dFa c0, lMp, mpe, at_, dFa c3, dFa c4, dFa c5, v_rev, qM_s (g := fun l => some l.reverse) (l := ps.map prD) (m := ps.reverse.map prD) (by rw [List.map_reverse]), flats_prs]
section
variable {ws : List Wi} {fs cs : List Int} {ps : List Pr}
theorem best_no1 {t u : D} (h : F_is_choice [.list (ws.map wiD), .list (fs.map .int), t] = some (.bool false)) : F_is_best [.list (ws.map wiD), .list (fs.map .int), t, u] = some (.bool false) := by
 unfold F_is_best
 simp only [EV, reduceIte, reduceAdd, reduceLT, reduceLeDiff, reduceEqDiff, reduceEq, Int.reduceLT, reduceLE, h]
theorem best_no2 {t : D} (hl : cs.length ≤ 1000) (fl : fs.length ≤ 1000) (hw : ∀ w ∈ ws, wiOk fs.length w) (h : F_is_price_list [.list (fs.map .int), t] = some (.bool false)) : F_is_best [.list (ws.map wiD), .list (fs.map .int), .list (cs.map .int), t] = some (.bool false) := by
 have C := choiceK hl fl hw
 unfold F_is_best
 cases q : chB ws fs cs with
 | true =>
  rw [q] at C
  simp only [EV, reduceIte, reduceAdd, reduceLT, reduceLeDiff, reduceEqDiff, reduceEq, Int.reduceLT, reduceLE, C, h]
 | false =>
  rw [q] at C
  simp only [EV, reduceIte, reduceAdd, reduceLT, reduceLeDiff, reduceEqDiff, reduceEq, Int.reduceLT, reduceLE, C]
theorem odd_loop1 {p : D} (L : List D) (h : ∀ d ∈ L, F_is_best [.list (ws.map wiD), .list (fs.map .int), d, p] = some (.bool false)) (c : D) (y : Option U) : ∃ y', forD ((gNl 4)) ((sIf (tBool (dUn gIsT (dCall F_is_best (dCons (dVar 0) (dCons (dVar 1) (dCons (dVar 4) (dCons (dVar 3) (dNil)))))))) (sRet (dC (.bool false))) (sNil))) L [some (.d (.list (ws.map wiD))), some (.d (.list (fs.map .int))), some (.d c), some (.d p), y] = some (.nx [some (.d (.list (ws.map wiD))), some (.d (.list (fs.map .int))), some (.d c), some (.d p), y']) := by
 obtain ⟨δ', e, y', rfl⟩ := for_inv (g := (gNl 4)) (b := (sIf (tBool (dUn gIsT (dCall F_is_best (dCons (dVar 0) (dCons (dVar 1) (dCons (dVar 4) (dCons (dVar 3) (dNil)))))))) (sRet (dC (.bool false))) (sNil))) (fun _ δ => ∃ y', δ = [some (.d (.list (ws.map wiD))), some (.d (.list (fs.map .int))), some (.d c), some (.d p), y']) L [some (.d (.list (ws.map wiD))), some (.d (.list (fs.map .int))), some (.d c), some (.d p), y] ⟨y, rfl⟩ (by
  rintro i d δ hd ⟨y', rfl⟩
  have := h d (List.mem_of_getElem? hd)
  refine ⟨[some (.d (.list (ws.map wiD))), some (.d (.list (fs.map .int))), some (.d c), some (.d p), some (.d d)], [some (.d (.list (ws.map wiD))), some (.d (.list (fs.map .int))), some (.d c), some (.d p), some (.d d)], rfl, .inl ?_, some (.d d), rfl⟩
  simp only [EV, reduceIte, reduceAdd, reduceLT, reduceLeDiff, reduceEqDiff, reduceEq, Int.reduceLT, reduceLE, this, show gIsT (.bool false) = some (.bool false) from rfl])
 exact ⟨y', e⟩
theorem odd_loop2 {c : D} (L : List D) (h : ∀ d ∈ L, F_is_best [.list (ws.map wiD), .list (fs.map .int), c, d] = some (.bool false)) (p : D) (y : Option U) : ∃ y', forD ((gNl 4)) ((sIf (tBool (dUn gIsT (dCall F_is_best (dCons (dVar 0) (dCons (dVar 1) (dCons (dVar 2) (dCons (dVar 4) (dNil)))))))) (sRet (dC (.bool false))) (sNil))) L [some (.d (.list (ws.map wiD))), some (.d (.list (fs.map .int))), some (.d c), some (.d p), y] = some (.nx [some (.d (.list (ws.map wiD))), some (.d (.list (fs.map .int))), some (.d c), some (.d p), y']) := by
 obtain ⟨δ', e, y', rfl⟩ := for_inv (g := (gNl 4)) (b := (sIf (tBool (dUn gIsT (dCall F_is_best (dCons (dVar 0) (dCons (dVar 1) (dCons (dVar 2) (dCons (dVar 4) (dNil)))))))) (sRet (dC (.bool false))) (sNil))) (fun _ δ => ∃ y', δ = [some (.d (.list (ws.map wiD))), some (.d (.list (fs.map .int))), some (.d c), some (.d p), y']) L [some (.d (.list (ws.map wiD))), some (.d (.list (fs.map .int))), some (.d c), some (.d p), y] ⟨y, rfl⟩ (by
  rintro i d δ hd ⟨y', rfl⟩
  have := h d (List.mem_of_getElem? hd)
  refine ⟨[some (.d (.list (ws.map wiD))), some (.d (.list (fs.map .int))), some (.d c), some (.d p), some (.d d)], [some (.d (.list (ws.map wiD))), some (.d (.list (fs.map .int))), some (.d c), some (.d p), some (.d d)], rfl, .inl ?_, some (.d d), rfl⟩
  simp only [EV, reduceIte, reduceAdd, reduceLT, reduceLeDiff, reduceEqDiff, reduceEq, Int.reduceLT, reduceLE, this, show gIsT (.bool false) = some (.bool false) from rfl])
 exact ⟨y', e⟩
theorem dict_prs {ps : List Pr} (hl : ps.length ≤ 1000) (h : (ps.map (·.1)).Pairwise (· < ·)) : XS.gDictL [.list (ps.map prD)] = some (.dict (ps.map fun q => (.int q.1, .int q.2))) := by
 unfold XS.gDictL
 dsimp only
 rw [prs_prs, Option.bind_some, if_pos ⟨by rw [List.length_map]; exact hl, List.Pairwise.imp (fun h => Int.ne_of_lt h) h⟩]
theorem odd_true (hl : cs.length ≤ 1000) (fl : fs.length ≤ 1000) (pl : ps.length ≤ 1000) (hw : ∀ w ∈ ws, wiOk fs.length w) (up : (ps.map (·.1)).Pairwise (· < ·)) : F__law_odd [.list (ws.map wiD), .list (fs.map .int), .list (cs.map .int), .list (ps.map prD)] = some (.bool true) := by
 have n1 : ∀ t : D, D3.isT "list" (tyD t) = false → F_is_best [.list (ws.map wiD), .list (fs.map .int), t, .list (ps.map prD)] = some (.bool false) := fun t h => best_no1 (choice_no hw (whole_no h))
 have n2 : ∀ l : List D, l.length ≤ 1000 → l.all isI = false → F_is_best [.list (ws.map wiD), .list (fs.map .int), .list l, .list (ps.map prD)] = some (.bool false) := fun l h1 h2 => best_no1 (choice_no hw (by rw [whole_list_gen h1, h2]))
 have p1 : ∀ t : D, D3.isT "list" (tyD t) = false → F_is_best [.list (ws.map wiD), .list (fs.map .int), .list (cs.map .int), t] = some (.bool false) := fun t h => best_no2 hl fl hw (plist_no h)
 have p2 : ∀ d : D, two d = false → F_is_best [.list (ws.map wiD), .list (fs.map .int), .list (cs.map .int), .list [d]] = some (.bool false) := fun d h => best_no2 hl fl hw (plist_bad (by simp) (by simp [prB_no h]))
 obtain ⟨y1, e1⟩ := odd_loop1 (ws := ws) (fs := fs) (p := .list (ps.map prD)) [.none, .int 0, .bool true, .str "", .tuple [], .dict [], .list [.none], .list [.bool true], .list [.str "0"], .list [.list [.int 0]], .list [.tuple [.int 0, .int 1]], .tuple (cs.map .int)] (fun d hd => by
  simp only [List.mem_cons, List.not_mem_nil, or_false] at hd
  rcases hd with rfl | rfl | rfl | rfl | rfl | rfl | rfl | rfl | rfl | rfl | rfl | rfl
  ·exact n1 _ rfl
  ·exact n1 _ rfl
  ·exact n1 _ rfl
  ·exact n1 _ rfl
  ·exact n1 _ rfl
  ·exact n1 _ rfl
  ·exact n2 _ (by simp) rfl
  ·exact n2 _ (by simp) rfl
  ·exact n2 _ (by simp) rfl
  ·exact n2 _ (by simp) rfl
  ·exact n2 _ (by simp) rfl
  ·exact n1 _ rfl) (.list (cs.map .int)) none
 obtain ⟨y2, e2⟩ := odd_loop2 (ws := ws) (fs := fs) (c := .list (cs.map .int)) [.none, .int 0, .str "", .tuple [], .dict [], .list [.none], .list [.int 0], .list [.list [.int 0, .int 1]], .list [.tuple [.int 0]], .list [.tuple [.int 0, .int 1, .int 1]], .list [.tuple [.int 0, .bool true]], .list [.tuple [.bool false, .int 1]]] (fun d hd => by
  simp only [List.mem_cons, List.not_mem_nil, or_false] at hd
  rcases hd with rfl | rfl | rfl | rfl | rfl | rfl | rfl | rfl | rfl | rfl | rfl | rfl
  ·exact p1 _ rfl
  ·exact p1 _ rfl
  ·exact p1 _ rfl
  ·exact p1 _ rfl
  ·exact p1 _ rfl
  ·exact p2 _ rfl
  ·exact p2 _ rfl
  ·exact p2 _ rfl
  ·exact p2 _ rfl
  ·exact p2 _ rfl
  ·exact p2 _ rfl
  ·exact p2 _ rfl) (.list (ps.map prD)) y1
 obtain ⟨y3, e3⟩ := odd_loop2 (ws := ws) (fs := fs) (c := .list (cs.map .int)) [.tuple (ps.map prD), .dict (ps.map fun q => (.int q.1, .int q.2)), .list [.tuple [.str "0", .int 1]], .list [.tuple [.int 0, .none]], .list [.tuple [.int 0, .str "1"]], .list [.tuple [.none, .int 1]], .list [.tuple [.int 0, .tuple [.int 1, .int 1]]]] (fun d hd => by
  simp only [List.mem_cons, List.not_mem_nil, or_false] at hd
  rcases hd with rfl | rfl | rfl | rfl | rfl | rfl | rfl
  ·exact p1 _ rfl
  ·exact p1 _ rfl
  ·exact p2 _ rfl
  ·exact p2 _ rfl
  ·exact p2 _ rfl
  ·exact p2 _ rfl
  ·exact p2 _ rfl) (.list (ps.map prD)) y2
 have gt : ∀ l : List D, gTupL (.list l) = some (.tuple l) := fun l => rfl
 unfold F__law_odd
 simp only [EV, reduceIte, reduceAdd, reduceLT, reduceLeDiff, reduceEqDiff, reduceEq, Int.reduceLT, reduceLE, sz (show 0 ≤ 1000000 by decide), sz (show 1 ≤ 1000000 by decide), sz (show 2 ≤ 1000000 by decide), sz (show 3 ≤ 1000000 by decide), sz (show 7 ≤ 1000000 by decide), sz (show 12 ≤ 1000000 by decide), gt, e1, e2, dict_prs pl up, e3]
end
abbrev Pa := List Int × List Pr
def paD (p : Pa) : D := .tuple [.list (p.1.map .int), .list (p.2.map prD)]
def paOk (p : Pa) : Prop := p.1.length ≤ 1000 ∧ p.2.length ≤ 1000
theorem drop2 {xs : List Int} {j : Nat} (hl : xs.length = 60) (hx : ∀ x ∈ xs, r6 x) (h : j + 2 ≤ 60) : ∃ x0 x1 r, r6 x1 ∧ xs.drop j = x0 :: x1 :: r := by
 have e0 : xs.drop j = xs[j] :: xs.drop (j + 1) := List.drop_eq_getElem_cons (by omega)
 have e1 : xs.drop (j + 1) = xs[j + 1] :: xs.drop (j + 1 + 1) := List.drop_eq_getElem_cons (by omega)
 exact ⟨_, _, _, hx _ (List.getElem_mem _), by rw [e0, e1]⟩
theorem drop4 {xs : List Int} {j : Nat} (hl : xs.length = 60) (hx : ∀ x ∈ xs, r6 x) (h : j + 4 ≤ 60) : ∃ x0 x1 x2 x3 r, r6 x1 ∧ r6 x2 ∧ xs.drop j = x0 :: x1 :: x2 :: x3 :: r := by
 have e0 : xs.drop j = xs[j] :: xs.drop (j + 1) := List.drop_eq_getElem_cons (by omega)
 have e1 : xs.drop (j + 1) = xs[j + 1] :: xs.drop (j + 1 + 1) := List.drop_eq_getElem_cons (by omega)
 have e2 : xs.drop (j + 1 + 1) = xs[j + 1 + 1] :: xs.drop (j + 1 + 1 + 1) := List.drop_eq_getElem_cons (by omega)
 have e3 : xs.drop (j + 1 + 1 + 1) = xs[j + 1 + 1 + 1] :: xs.drop (j + 1 + 1 + 1 + 1) := List.drop_eq_getElem_cons (by omega)
 exact ⟨_, _, _, _, _, hx _ (List.getElem_mem _), hx _ (List.getElem_mem _), by rw [e0, e1, e2, e3]⟩
theorem law_true (ns : List Int) (h : ns.length ≤ 63) : F_law [.list (ns.map .int)] = some (.bool true) := by
 obtain ⟨xs, xl, hx, ex⟩ := row_spec ns (a := 0) (m := 60) (by decide) (by decide) (by decide)
 have xl : xs.length = 60 := xl
 have XA : ∀ j : Int, 0 ≤ j → j < 60 → pAt (xs.map PyData.int) j = some (.int (xs.getD j.toNat 0)) := fun j h0 h1 => pAt_getD PyData.int 0 h0 (by omega)
 have m0 := modR (i := xs.getD 0 0) (j := 8) (by decide)
 have m1 := modR (i := xs.getD 1 0) (j := 9) (by decide)
 obtain ⟨n, hn, N, hN, G, eG, en, eN⟩ : ∃ n, (1 ≤ n ∧ n ≤ 20) ∧ ∃ N, (0 ≤ N ∧ N ≤ 24) ∧ ∃ G, gInt [.bool (decide (xs.getD 2 0 % 24 = 5))] = some (.int G) ∧ pAt [PyData.int (1 + xs.getD 0 0 % 8), .int 20] G = some (.int n) ∧ pAt [PyData.int (xs.getD 1 0 % 9), .int 24] G = some (.int N) := by
  by_cases c : xs.getD 2 0 % 24 = 5
  ·exact ⟨20, by decide, 24, by decide, 1, by rw [dTr c]; rfl, at1, at1⟩
  ·exact ⟨1 + xs.getD 0 0 % 8, by omega, xs.getD 1 0 % 9, by omega, 0, by rw [dFa c]; rfl, at0, at0⟩
 obtain ⟨fs, fl, hf, ef⟩ := free_spec ns (n := n) hn.1 (by omega)
 have fl' : (fs.length : Int) = n := by omega
 obtain ⟨ws, wl, hw, ew⟩ := wishes_spec ns (n := (fs.length : Int)) (m := N) (by omega) (by omega) hN.1 (by omega)
 have wl1 : ws.length ≤ 24 := by omega
 have fl1 : fs.length ≤ 20 := by omega
 obtain ⟨ch, d, ok, up, g, eb⟩ := bestS hw (fun f hf' => (hf f hf').1) (by omega) (by omega)
 have ib := best_ib hw ok up g
 have upp := pl_rise d fs.length
 have pl := plist_len d fs.length
 have cl : (cZ ch).length ≤ 24 := by
  have := Be.pigeon ok.nd ok.lt
  unfold cZ
  rw [List.length_map]
  omega
 generalize cZ ch = cs at *
 generalize plist d fs.length = ps at *
 generalize Be.worth (wif ws) ch = v at *
 obtain ⟨qs, ql, _, eq⟩ := prices_spec ns (a := 2) (by decide) (fs := fs.map .int) (n := fs.length) (by rw [List.length_map]) (by omega)
 have et : F_by_turns [.list (ws.map wiD), .list (fs.map .int)] = some (.list ((chI ws fs ws.length).map .int)) := by_turns_spec (by omega) (by omega) hw
 have tl := chI_len ws fs ws.length
 generalize chI ws fs ws.length = ts at *
 obtain ⟨L3, hL3⟩ : ∃ L3 : List Pa, L3 = [(cs, ps), (ts, qs), (cs, [])] := ⟨_, rfl⟩
 have e3 : PyData.list [.tuple [.list (cs.map .int), .list (ps.map prD)], .tuple [.list (ts.map .int), .list (qs.map prD)], .tuple [.list (cs.map .int), .list []]] = .list (L3.map paD) := by rw [hL3]; rfl
 have b3 : ∀ p ∈ L3, paOk p := fun p hp => by
  rw [hL3] at hp
  simp only [List.mem_cons, List.not_mem_nil, or_false] at hp
  rcases hp with rfl | rfl | rfl
  ·exact ⟨by show cs.length ≤ 1000; omega, by show ps.length ≤ 1000; omega⟩
  ·exact ⟨by show ts.length ≤ 1000; omega, by show qs.length ≤ 1000; omega⟩
  ·exact ⟨by show cs.length ≤ 1000; omega, by show 0 ≤ 1000; omega⟩
 have l3 : L3.length = 3 := by rw [hL3]; rfl
 have r6e : qRng1 (some [.int 6]) = some (rngD 0 6) := rng1 (by decide) (by decide)
 obtain ⟨δ1, eF1, L, y9, y10, y11, Ll, Lb, rfl⟩ := for_inv (g := (gNl 9)) (b := (sSeq (sSetl 10 (dCall F__law_other_choice (dCons (dVar 6) (dCons (dCall gLen (dCons (dVar 4) (dNil))) (dCons (dSl (dVar 1) (oPart (dOp gAdd (dC (.int 4)) (dOp gMul (dC (.int 8)) (dVar 9)))) oNone) (dNil)))))) (sSeq (sSetl 11 (dCall F__law_other_prices (dCons (dVar 7) (dCons (dCall gLen (dCons (dVar 3) (dNil))) (dCons (dSl (dVar 1) (oPart (dOp gAdd (dC (.int 7)) (dOp gMul (dC (.int 8)) (dVar 9)))) oNone) (dNil)))))) (sSetl 8 (dOp gCat (dVar 8) (dLst (dCons (dTup (dCons (dVar 10) (dCons (dVar 7) (dNil)))) (dCons (dTup (dCons (dVar 6) (dCons (dVar 11) (dNil)))) (dCons (dTup (dCons (dVar 10) (dCons (dVar 11) (dNil)))) (dNil)))))))))) (fun k δ => ∃ (L : List Pa) (y9 y10 y11 : Option U), L.length = 3 + 3 * k ∧ (∀ p ∈ L, paOk p) ∧ δ = [some (.d (.list (ns.map .int))), some (.d (.list (xs.map .int))), some (.d (.int G)), some (.d (.list (fs.map .int))), some (.d (.list (ws.map wiD))), some (.d (.int v)), some (.d (.list (cs.map .int))), some (.d (.list (ps.map prD))), some (.d (.list (L.map paD))), y9, y10, y11, none]) (rngD 0 6)
  [some (.d (.list (ns.map .int))), some (.d (.list (xs.map .int))), some (.d (.int G)), some (.d (.list (fs.map .int))), some (.d (.list (ws.map wiD))), some (.d (.int v)), some (.d (.list (cs.map .int))), some (.d (.list (ps.map prD))), some (.d (.list (L3.map paD))), none, none, none, none] ⟨L3, none, none, none, l3, b3, rfl⟩
  (by
   rintro k d δ hd ⟨L, y9, y10, y11, Ll, Lb, rfl⟩
   obtain ⟨hk, rfl⟩ := rng_get hd
   have mu : gMul (.int 8) (.int (k : Int)) = some (.int (8 * (k : Int))) := mulL (by decide) (by decide)
   have c4 : cutD (xs.map PyData.int) (some (4 + 8 * (k : Int))) none = (xs.drop (4 + 8 * k)).map .int := by rw [cutDr (by omega), List.map_drop]; congr 1 <;> omega
   have c7 : cutD (xs.map PyData.int) (some (7 + 8 * (k : Int))) none = (xs.drop (7 + 8 * k)).map .int := by rw [cutDr (by omega), List.map_drop]; congr 1 <;> omega
   obtain ⟨a0, a1, ar, ra1, ea⟩ := drop2 xl hx (j := 4 + 8 * k) (by omega)
   obtain ⟨z0, z1, z2, z3, zr, rz1, rz2, ez⟩ := drop4 xl hx (j := 7 + 8 * k) (by omega)
   obtain ⟨oc, ocl, eoc⟩ := other_choice (cs := cs) (by omega) (m := ws.length) (by omega) (x0 := a0) (xs := ar) ra1
   obtain ⟨op, opl, eop⟩ := other_prices (ps := ps) (by omega) (n := fs.length) (x0 := z0) (x3 := z3) (xs := zr) rz1 rz2
   rw [← ea, ← c4] at eoc
   rw [← ez, ← c7] at eop
   have eL : L.map paD ++ [PyData.tuple [.list (oc.map .int), .list (ps.map prD)], .tuple [.list (cs.map .int), .list (op.map prD)], .tuple [.list (oc.map .int), .list (op.map prD)]] = (L ++ [(oc, ps), (cs, op), (oc, op)]).map paD := by rw [List.map_append]; rfl
   refine ⟨_, _, rfl, .inl ?_, L ++ [(oc, ps), (cs, op), (oc, op)], some (.d (.int (k : Int))), some (.d (.list (oc.map .int))), some (.d (.list (op.map prD))), by rw [List.length_append, Ll]; simp; omega, fun p hp => ?_, rfl⟩
   ·simp only [EV, reduceIte, reduceAdd, reduceLT, reduceLeDiff, reduceEqDiff, reduceEq, Int.reduceLT, reduceLE, mu, lMp, eoc, eop, sz (show 2 ≤ 1000000 by decide), sz (show 3 ≤ 1000000 by decide), Ll, show 3 + 3 * k + 3 ≤ 1000000 by omega, eL]
   ·rcases List.mem_append.mp hp with q | q
    ·exact Lb p q
    ·simp only [List.mem_cons, List.not_mem_nil, or_false] at q
     rcases q with rfl | rfl | rfl
     ·exact ⟨by show oc.length ≤ 1000; omega, by show ps.length ≤ 1000; omega⟩
     ·exact ⟨by show cs.length ≤ 1000; omega, by show op.length ≤ 1000; omega⟩
     ·exact ⟨by show oc.length ≤ 1000; omega, by show op.length ≤ 1000; omega⟩)
 have Ll : L.length = 21 := by rw [Ll, rng_len]; rfl
 have eL2 : L.map paD ++ (L.map paD).reverse = (L ++ L.reverse).map paD := by rw [List.map_append, List.map_reverse]
 obtain ⟨δ2, eF2, z10, z12, rfl⟩ := for_inv (g := (gTn 2 (gsCons (gNl 12) (gsCons (gNl 10) (gsNil))))) (b := (sIf (D3.tNot (tBool (dCall F__law_told (dCons (dVar 4) (dCons (dVar 3) (dCons (dVar 12) (dCons (dVar 10) (dCons (dCall F__law_is_best (dCons (dVar 4) (dCons (dVar 3) (dCons (dVar 12) (dCons (dVar 10) (dNil)))))) (dNil))))))))) (sRet (dC (.bool false))) (sNil))) (fun k δ => ∃ z10 z12 : Option U, δ = [some (.d (.list (ns.map .int))), some (.d (.list (xs.map .int))), some (.d (.int G)), some (.d (.list (fs.map .int))), some (.d (.list (ws.map wiD))), some (.d (.int v)), some (.d (.list (cs.map .int))), some (.d (.list (ps.map prD))), some (.d (.list (L.map paD))), y9, z10, y11, z12]) ((L ++ L.reverse).map paD)
  [some (.d (.list (ns.map .int))), some (.d (.list (xs.map .int))), some (.d (.int G)), some (.d (.list (fs.map .int))), some (.d (.list (ws.map wiD))), some (.d (.int v)), some (.d (.list (cs.map .int))), some (.d (.list (ps.map prD))), some (.d (.list (L.map paD))), y9, y10, y11, none] ⟨y10, none, rfl⟩
  (by
   rintro k d δ hd ⟨z10, z12, rfl⟩
   rw [List.getElem?_map] at hd
   obtain ⟨p, hp, rfl⟩ := Option.map_eq_some_iff.mp hd
   have pm : p ∈ L := by
    have := List.mem_of_getElem? hp
    rcases List.mem_append.mp this with q | q
    ·exact q
    ·exact List.mem_reverse.mp q
   obtain ⟨p1, p2⟩ := Lb p pm
   have T := told_gen (ws := ws) (fs := fs) (cs := p.1) (ps := p.2) (by omega) p1 (by omega) p2 hw
   have B := lbest_gen (ws := ws) (fs := fs) (cs := p.1) (ps := p.2) (by omega) p1 (by omega) p2
   refine ⟨_, _, rfl, .inl ?_, some (.d (.list (p.2.map prD))), some (.d (.list (p.1.map .int))), rfl⟩
   simp only [EV, reduceIte, reduceAdd, reduceLT, reduceLeDiff, reduceEqDiff, reduceEq, Int.reduceLT, reduceLE, B, T])
 have B0 := best_gen (ws := []) (fs := []) (cs := []) (ps := []) (by decide) (by decide) (by decide) (by decide) (fun w h => by cases h)
 have B0 : F_is_best [.list [], .list [], .list [], .list []] = some (.bool true) := B0
 have B1 := best_gen (ws := ws) (fs := fs) (cs := cs) (ps := ps) (by omega) (by omega) (by omega) (by omega) hw
 rw [ib] at B1
 have Od := odd_true (ws := ws) (fs := fs) (cs := cs) (ps := ps) (by omega) (by omega) (by omega) hw upp
 have nT : gNotT (.bool true) = some (.bool false) := rfl
 unfold F_law
 simp only [EV, reduceIte, reduceAdd, reduceLT, reduceLeDiff, reduceEqDiff, reduceEq, Int.reduceLT, reduceLE, ex, XA 2 (by decide) (by decide), XA 0 (by decide) (by decide), XA 1 (by decide) (by decide), show (2 : Int).toNat = 2 from rfl, show (0 : Int).toNat = 0 from rfl, show (1 : Int).toNat = 1 from rfl, modP (show (0 : Int) < 24 by decide), modP (show (0 : Int) < 8 by decide), modP (show (0 : Int) < 9 by decide), eG, sz (show 2 ≤ 1000000 by decide), sz (show 0 ≤ 1000000 by decide), sz (show 3 ≤ 1000000 by decide), en, ef, lMp, eN, ew, eb, et, eq, e3, r6e, eF1, v_back, v_back_s, List.length_reverse, Ll, show 21 + 21 ≤ 1000000 by decide, eL2, eF2, B0, B1, nT, Od]
end K55
namespace K55
open PySem PySem.Spec PyProof.Rows L2 My D3 XS
def top (i : Nat) : Stmt := PySem.Challenge.pw_nightbook_k55_papers_looked_at.main.body.getD i (.Pass ⟨0, 0, 0, 0⟩)
section
seal PE PT PW PA PS PSs PG PGs PI PO PTs
variable {P : Program} {w : World} {K : PySem.W.Frag} {mg : Str → Option Value} {base : Heap} {n : Nat}
theorem ok_is_whole (D : Dg K mg "is_whole" (top 4) ["thing"]) (B : Bl mg) : Has P w K mg base (n + 1) "is_whole" ["thing"] (spD K F_is_whole) := by
 have sc : FnScope ["thing"] ["thing"] (defScope (top 4)) := fsc
 exact dg_ok (fl := [.A]) D sc (by decide) (by decide) fun f cdv A outer s H E hr => dss_one (ds_ret (c_FC_R (de_and (c_FC_P (de_isi (T := "int") (by decide) (vP 0) (by rfl) B.isinstance_ (by rfl) B.int_ PyProof.Rows.boot_int)) (de_one (de_not (c_FC_P (de_isi (T := "bool") (by decide) (vP 0) (by rfl) B.isinstance_ (by rfl) B.bool_ PyProof.Rows.boot_bool)))))))
theorem ok_all_whole (D : Dg K mg "all_whole" (top 5) ["things"]) (B : Bl mg) (his_whole : Has P w K mg base n "is_whole" ["thing"] (spD K F_is_whole)) : Has P w K mg base (n + 1) "all_whole" ["things"] (spD K F_all_whole) := by
 have sc : FnScope ["things"] ["things"] (defScope (top 5)) := fsc
 exact dg_ok (fl := [.A]) D sc (by decide) (by decide) fun f cdv A outer s H E hr => dss_one (ds_ret (c_FC_R (de_blt (call_allL rfl) b_all (by rfl) B.all_ (show bootBuiltins "all" = some (.builtin "all") by decide +kernel) (dq (c_FC_P (de_comp (L := []) (fl' := [.A]) rfl ["thing"] [] [] (di_seq (vB 0)) (fun _ _ _ _ _ => gN' (i := 0) (show (["thing"] : List Str).Nodup by decide +kernel)) (fun _ _ _ _ _ => pts_yes) (fun _ _ _ _ _ => de_call his_whole hr (dq (vP 0) dz)))) dz))))
theorem ok_is_tuple_of (D : Dg K mg "is_tuple_of" (top 6) ["thing", "many"]) (B : Bl mg) (hall_whole : Has P w K mg base n "all_whole" ["things"] (spD K F_all_whole)) : Has P w K mg base (n + 1) "is_tuple_of" ["thing", "many"] (spD K F_is_tuple_of) := by
 have sc : FnScope ["thing", "many"] ["thing", "many"] (defScope (top 6)) := fsc
 exact dg_ok (fl := [.A, .A]) D sc (by decide) (by decide) fun f cdv A outer s H E hr => dss_one (ds_ret (c_C_R (de_and (c_FC_P (de_isi (T := "tuple") (by decide) (vP 0) (by rfl) B.isinstance_ (by rfl) B.tuple_ PyProof.Rows.boot_tuple)) (de_and (c_FC_P (de_cmp (op_eqD hr.units) b_eq (c_FC_P (de_blt call_len_seq b_len (by rfl) B.len_ PySem.boot_len (dq (vP 0) dz))) (vP 1) (nomark _))) (de_one (de_call hall_whole hr (dq (vP 0) dz)))))))
theorem ok_is_pair (D : Dg K mg "is_pair" (top 7) ["thing"]) (B : Bl mg) (his_tuple_of : Has P w K mg base n "is_tuple_of" ["thing", "many"] (spD K F_is_tuple_of)) : Has P w K mg base (n + 1) "is_pair" ["thing"] (spD K F_is_pair) := by
 have sc : FnScope ["thing"] ["thing"] (defScope (top 7)) := fsc
 exact dg_ok (fl := [.A]) D sc (by decide) (by decide) fun f cdv A outer s H E hr => dss_one (ds_ret (c_C_R (de_call his_tuple_of hr (dq (vP 0) (dq iP dz)))))
theorem ok_is_whole_list (D : Dg K mg "is_whole_list" (top 8) ["thing"]) (B : Bl mg) (hall_whole : Has P w K mg base n "all_whole" ["things"] (spD K F_all_whole)) : Has P w K mg base (n + 1) "is_whole_list" ["thing"] (spD K F_is_whole_list) := by
 have sc : FnScope ["thing"] ["thing"] (defScope (top 8)) := fsc
 exact dg_ok (fl := [.A]) D sc (by decide) (by decide) fun f cdv A outer s H E hr => dss_one (ds_ret (c_C_R (de_and (c_FC_P (de_isi (T := "list") (by decide) (vP 0) (by rfl) B.isinstance_ (by rfl) B.list_ PyProof.Rows.boot_list)) (de_one (de_call hall_whole hr (dq (vP 0) dz))))))
theorem ok_is_rising (D : Dg K mg "is_rising" (top 9) ["numbers"]) (B : Bl mg) : Has P w K mg base (n + 1) "is_rising" ["numbers"] (spD K F_is_rising) := by
 have sc : FnScope ["numbers"] ["numbers"] (defScope (top 9)) := fsc
 exact dg_ok (fl := [.A]) D sc (by decide) (by decide) fun f cdv A outer s H E hr => dss_one (ds_ret (c_FC_R (de_blt (call_allL rfl) b_all (by rfl) B.all_ (show bootBuiltins "all" = some (.builtin "all") by decide +kernel) (dq (c_FC_P (de_comp (L := []) (fl' := [.A, .A]) rfl ["one", "other"] [] [] (di_zip (L1 := []) (L2 := []) (vB 0) (c_A_B (c_F_A (de_sl (vB 0) (do_part iP) do_none))) (by rfl) B.zip_) (fun _ _ _ _ _ => dg_tup rfl (dgs_cons (gN' (i := 0) (show (["one", "other"] : List Str).Nodup by decide +kernel)) (dgs_cons (gN' (i := 1) (show (["one", "other"] : List Str).Nodup by decide +kernel)) (dgs_nil)))) (fun _ _ _ _ _ => pts_yes) (fun _ _ _ _ _ => c_FC_C (de_cmp op_lt b_lt (vP 0) (vP 1) (nomark _))))) dz))))
theorem ok_nights_of (D : Dg K mg "nights_of" (top 11) ["stay"]) (B : Bl mg) : Has P w K mg base (n + 1) "nights_of" ["stay"] (spD K F_nights_of) := by
 have sc : FnScope ["stay"] ["stay"] (defScope (top 11)) := fsc
 exact dg_ok (fl := [.A]) D sc (by decide) (by decide) fun f cdv A outer s H E hr => dss_one (ds_ret (de_tup rfl (dq (c_FC_R (c_flat (c_A_P (dx (vB 0) iP)))) (dq (c_FC_R (c_flat (c_A_P (dx (vB 0) iP)))) dz))))
theorem ok_holds (D : Dg K mg "holds" (top 12) ["stretch", "night"]) (B : Bl mg) : Has P w K mg base (n + 1) "holds" ["stretch", "night"] (spD K F_holds) := by
 have sc : FnScope ["stretch", "night"] ["stretch", "night"] (defScope (top 12)) := fsc
 exact dg_ok (fl := [.A, .A]) D sc (by decide) (by decide) fun f cdv A outer s H E hr => dss_one (ds_ret (c_FC_R (de_chain op_le op_lt b_le b_lt (c_A_P (dx (vB 0) iP)) (vP 1) (c_A_P (dx (vB 0) iP)))))
theorem ok_count_at (D : Dg K mg "count_at" (top 13) ["stretches", "night"]) (B : Bl mg) (hholds : Has P w K mg base n "holds" ["stretch", "night"] (spD K F_holds)) : Has P w K mg base (n + 1) "count_at" ["stretches", "night"] (spD K F_count_at) := by
 have sc : FnScope ["stretches", "night"] ["stretches", "night"] (defScope (top 13)) := fsc
 exact dg_ok (fl := [.A, .A]) D sc (by decide) (by decide) fun f cdv A outer s H E hr => dss_one (ds_ret (c_FC_R (de_blt call_len_seq b_len (by rfl) B.len_ PySem.boot_len (dq (c_FC_P (de_comp (L := []) (fl' := [.A, .A]) rfl ["stretch"] ["night"] [1] (di_list (vB 0)) (fun _ _ _ _ _ => gN' (i := 0) (show (["stretch", "night"] : List Str).Nodup by decide +kernel)) (fun _ _ _ _ _ => pts_one (dt_val (c_C_P (de_call hholds hr (dq (vP 0) (dq (vP 1) dz)))))) (fun _ _ _ _ _ => c_FC_C (c_flat (vP 0))))) dz))))
theorem ok_is_wish_for (D : Dg K mg "is_wish_for" (top 16) ["wish", "free"]) (B : Bl mg) (gMOST_WORTH : ∃ t, mg "MOST_WORTH" = some (.int 1000000000 t)) : Has P w K mg base (n + 1) "is_wish_for" ["wish", "free"] (spD K F_is_wish_for) := by
 have sc : FnScope ["wish", "free"] ["wish", "free"] (defScope (top 16)) := fsc
 exact dg_ok (fl := [.A, .A]) D sc (by decide) (by decide) fun f cdv A outer s H E hr => dss_one (ds_ret (c_FC_R (de_and (c_FC_P (de_chain3 op_le op_lt op_le b_le b_lt b_le iP (c_A_P (dx (vB 0) iP)) (c_A_P (dx (vB 0) iP)) (c_FC_P (de_blt call_len_seq b_len (by rfl) B.len_ PySem.boot_len (dq (vP 1) dz))))) (de_one (de_chain op_le op_le b_le b_le iP (c_A_P (dx (vB 0) iP)) (c_FC_P (de_glob gMOST_WORTH)))))))
theorem ok_check_wishes (D : Dg K mg "check_wishes" (top 17) ["wishes", "free"]) (B : Bl mg) (his_wish_for : Has P w K mg base n "is_wish_for" ["wish", "free"] (spD K F_is_wish_for)) : Has P w K mg base (n + 1) "check_wishes" ["wishes", "free"] (spD K F_check_wishes) := by
 have sc : FnScope ["wishes", "free", "at", "wish"] ["wishes", "free"] (defScope (top 17)) := fsc
 exact dg_ok (fl := [.A, .A, .A, .A]) D sc (by decide) (by decide) fun f cdv A outer s H E hr => dss_one (ds_for (L := []) PassesOwn.never rfl (di_enum (vB 0) (by rfl) B.enumerate_) (dg_tup rfl (dgs_cons (gN' (i := 2) sc.nd) (dgs_cons (gN' (i := 3) sc.nd) (dgs_nil)))) (dss_one (ds_if (dt_not (dt_val (c_C_P (de_call his_wish_for hr (dq (vP 3) (dq (vP 1) dz)))))) (dss_one (ds_never)) (dss_nil))))
theorem ok_cost (D : Dg K mg "cost" (top 18) ["prices", "first", "behind"]) (B : Bl mg) : Has P w K mg base (n + 1) "cost" ["prices", "first", "behind"] (spD K F_cost) := by
 have sc : FnScope ["prices", "first", "behind"] ["prices", "first", "behind"] (defScope (top 18)) := fsc
 exact dg_ok (fl := [.A, .A, .A]) D sc (by decide) (by decide) fun f cdv A outer s H E hr => dss_one (ds_ret (c_FC_R (de_blt (call_sumL rfl) b_sum (by rfl) B.sum_ PyProof.Rows.boot_sum (dq (c_FC_P (de_comp (L := []) (fl' := [.A, .A, .A, .A]) rfl ["night", "price"] ["first", "behind"] [1, 2] (di_list (vB 0)) (fun _ _ _ _ _ => dg_tup rfl (dgs_cons (gN' (i := 0) (show (["night", "price", "first", "behind"] : List Str).Nodup by decide +kernel)) (dgs_cons (gN' (i := 1) (show (["night", "price", "first", "behind"] : List Str).Nodup by decide +kernel)) (dgs_nil)))) (fun _ _ _ _ _ => pts_one (dt_chain op_le op_lt b_le b_lt (vP 2) (vP 0) (vP 3))) (fun _ _ _ _ _ => c_FC_C (c_flat (vP 1))))) dz))))
theorem ok_worth_of (D : Dg K mg "worth_of" (top 19) ["wishes", "choice"]) (B : Bl mg) : Has P w K mg base (n + 1) "worth_of" ["wishes", "choice"] (spD K F_worth_of) := by
 have sc : FnScope ["wishes", "choice"] ["wishes", "choice"] (defScope (top 19)) := fsc
 exact dg_ok (fl := [.A, .A]) D sc (by decide) (by decide) fun f cdv A outer s H E hr => dss_one (ds_ret (c_FC_R (de_blt (call_sumL rfl) b_sum (by rfl) B.sum_ PyProof.Rows.boot_sum (dq (c_FC_P (de_comp (L := []) (fl' := [.A, .A]) rfl ["place"] ["wishes"] [0] (di_list (vB 1)) (fun _ _ _ _ _ => gN' (i := 0) (show (["place", "wishes"] : List Str).Nodup by decide +kernel)) (fun _ _ _ _ _ => pts_yes) (fun _ _ _ _ _ => c_FC_C (c_flat (c_A_P (dx (c_A_B (dx (vB 1) (vP 0))) iP)))))) dz))))
theorem ok_held_at (D : Dg K mg "held_at" (top 20) ["wishes", "choice", "night"]) (B : Bl mg) (hnights_of : Has P w K mg base n "nights_of" ["stay"] (spD K F_nights_of)) (hcount_at : Has P w K mg base n "count_at" ["stretches", "night"] (spD K F_count_at)) : Has P w K mg base (n + 1) "held_at" ["wishes", "choice", "night"] (spD K F_held_at) := by
 have sc : FnScope ["wishes", "choice", "night"] ["wishes", "choice", "night"] (defScope (top 20)) := fsc
 exact dg_ok (fl := [.A, .A, .A]) D sc (by decide) (by decide) fun f cdv A outer s H E hr => dss_one (ds_ret (c_C_R (de_call hcount_at hr (dq (c_FC_P (de_comp (L := []) (fl' := [.A, .A]) rfl ["place"] ["wishes"] [0] (di_list (vB 1)) (fun _ _ _ _ _ => gN' (i := 0) (show (["place", "wishes"] : List Str).Nodup by decide +kernel)) (fun _ _ _ _ _ => pts_yes) (fun _ _ _ _ _ => de_call hnights_of hr (dq (c_A_P (dx (vB 1) (vP 0))) dz)))) (dq (vP 2) dz)))))
theorem ok_fits (D : Dg K mg "fits" (top 21) ["wishes", "free", "choice"]) (B : Bl mg) (hheld_at : Has P w K mg base n "held_at" ["wishes", "choice", "night"] (spD K F_held_at)) : Has P w K mg base (n + 1) "fits" ["wishes", "free", "choice"] (spD K F_fits) := by
 have sc : FnScope ["wishes", "free", "choice"] ["wishes", "free", "choice"] (defScope (top 21)) := fsc
 exact dg_ok (fl := [.A, .A, .A]) D sc (by decide) (by decide) fun f cdv A outer s H E hr => dss_one (ds_ret (c_FC_R (de_blt (call_allL rfl) b_all (by rfl) B.all_ (show bootBuiltins "all" = some (.builtin "all") by decide +kernel) (dq (c_FC_P (de_comp (L := []) (fl' := [.A, .A, .A, .A]) rfl ["night", "many"] ["wishes", "choice"] [0, 2] (di_enum (vB 1) (by rfl) B.enumerate_) (fun _ _ _ _ _ => dg_tup rfl (dgs_cons (gN' (i := 0) (show (["night", "many", "wishes", "choice"] : List Str).Nodup by decide +kernel)) (dgs_cons (gN' (i := 1) (show (["night", "many", "wishes", "choice"] : List Str).Nodup by decide +kernel)) (dgs_nil)))) (fun _ _ _ _ _ => pts_yes) (fun _ _ _ _ _ => c_FC_C (de_cmp op_le b_le (c_C_P (de_call hheld_at hr (dq (vP 2) (dq (vP 3) (dq (vP 0) dz))))) (vP 1) (nomark _))))) dz))))
theorem ok_is_place_list (D : Dg K mg "is_place_list" (top 22) ["wishes", "thing"]) (B : Bl mg) (his_whole_list : Has P w K mg base n "is_whole_list" ["thing"] (spD K F_is_whole_list)) (his_rising : Has P w K mg base n "is_rising" ["numbers"] (spD K F_is_rising)) : Has P w K mg base (n + 1) "is_place_list" ["wishes", "thing"] (spD K F_is_place_list) := by
 have sc : FnScope ["wishes", "thing"] ["wishes", "thing"] (defScope (top 22)) := fsc
 exact dg_ok (fl := [.A, .A]) D sc (by decide) (by decide) fun f cdv A outer s H E hr => dss_one (ds_ret (c_FC_R (de_and (c_C_P (de_call his_whole_list hr (dq (vP 1) dz))) (de_and (c_C_P (de_call his_rising hr (dq (vP 1) dz))) (de_one (de_blt (call_allL rfl) b_all (by rfl) B.all_ (show bootBuiltins "all" = some (.builtin "all") by decide +kernel) (dq (c_FC_P (de_comp (L := []) (fl' := [.A, .A]) rfl ["place"] ["wishes"] [0] (di_list (vB 1)) (fun _ _ _ _ _ => gN' (i := 0) (show (["place", "wishes"] : List Str).Nodup by decide +kernel)) (fun _ _ _ _ _ => pts_yes) (fun _ _ _ _ _ => c_FC_C (de_chain op_le op_lt b_le b_lt iP (vP 0) (c_FC_P (de_blt call_len_seq b_len (by rfl) B.len_ PySem.boot_len (dq (vP 1) dz))))))) dz)))))))
theorem ok_is_choice (D : Dg K mg "is_choice" (top 23) ["wishes", "free", "thing"]) (B : Bl mg) (hcheck_wishes : Has P w K mg base n "check_wishes" ["wishes", "free"] (spD K F_check_wishes)) (hfits : Has P w K mg base n "fits" ["wishes", "free", "choice"] (spD K F_fits)) (his_place_list : Has P w K mg base n "is_place_list" ["wishes", "thing"] (spD K F_is_place_list)) : Has P w K mg base (n + 1) "is_choice" ["wishes", "free", "thing"] (spD K F_is_choice) := by
 have sc : FnScope ["wishes", "free", "thing"] ["wishes", "free", "thing"] (defScope (top 23)) := fsc
 exact dg_ok (fl := [.A, .A, .A]) D sc (by decide) (by decide) fun f cdv A outer s H E hr => dss_cons (ds_expr (c_C_P (de_call hcheck_wishes hr (dq (vP 0) (dq (vP 1) dz)))))
  (dss_one (ds_ret (c_C_R (de_and (c_C_P (de_call his_place_list hr (dq (vP 0) (dq (vP 2) dz)))) (de_one (de_call hfits hr (dq (vP 0) (dq (vP 1) (dq (vP 2) dz)))))))))
theorem ok_is_price (D : Dg K mg "is_price" (top 24) ["free", "thing"]) (B : Bl mg) (his_pair : Has P w K mg base n "is_pair" ["thing"] (spD K F_is_pair)) : Has P w K mg base (n + 1) "is_price" ["free", "thing"] (spD K F_is_price) := by
 have sc : FnScope ["free", "thing"] ["free", "thing"] (defScope (top 24)) := fsc
 exact dg_ok (fl := [.A, .A]) D sc (by decide) (by decide) fun f cdv A outer s H E hr => dss_one (ds_ret (c_FC_R (de_and (c_C_P (de_call his_pair hr (dq (vP 1) dz))) (de_and (c_FC_P (de_chain op_le op_lt b_le b_lt iP (c_A_P (dx (vB 1) iP)) (c_FC_P (de_blt call_len_seq b_len (by rfl) B.len_ PySem.boot_len (dq (vP 0) dz))))) (de_one (de_cmp op_ge b_ge (c_A_P (dx (vB 1) iP)) iP (nomark _)))))))
theorem ok_is_price_list (D : Dg K mg "is_price_list" (top 25) ["free", "thing"]) (B : Bl mg) (his_rising : Has P w K mg base n "is_rising" ["numbers"] (spD K F_is_rising)) (his_price : Has P w K mg base n "is_price" ["free", "thing"] (spD K F_is_price)) : Has P w K mg base (n + 1) "is_price_list" ["free", "thing"] (spD K F_is_price_list) := by
 have sc : FnScope ["free", "thing"] ["free", "thing"] (defScope (top 25)) := fsc
 exact dg_ok (fl := [.A, .A]) D sc (by decide) (by decide) fun f cdv A outer s H E hr => dss_cons (ds_if (dt_w (dw_or (dt_not (dt_val (c_FC_P (de_isi (T := "list") (by decide) (vP 1) (by rfl) B.isinstance_ (by rfl) B.list_ PyProof.Rows.boot_list)))) (dw_or1 (dt_not (dt_val (c_FC_P (de_blt (call_allL rfl) b_all (by rfl) B.all_ (show bootBuiltins "all" = some (.builtin "all") by decide +kernel) (dq (c_FC_P (de_comp (L := []) (fl' := [.A, .A]) rfl ["price"] ["free"] [0] (di_list (vB 1)) (fun _ _ _ _ _ => gN' (i := 0) (show (["price", "free"] : List Str).Nodup by decide +kernel)) (fun _ _ _ _ _ => pts_yes) (fun _ _ _ _ _ => de_call his_price hr (dq (vP 1) (dq (vP 0) dz))))) dz)))))))) (dss_one (ds_ret (c_FC_R (de_bl)))) (dss_nil))
  (dss_one (ds_ret (c_C_R (de_call his_rising hr (dq (c_FC_P (de_comp (L := []) (fl' := [.A, .A]) rfl ["night", "price"] [] [] (di_list (vB 1)) (fun _ _ _ _ _ => dg_tup rfl (dgs_cons (gN' (i := 0) (show (["night", "price"] : List Str).Nodup by decide +kernel)) (dgs_cons (gN' (i := 1) (show (["night", "price"] : List Str).Nodup by decide +kernel)) (dgs_nil)))) (fun _ _ _ _ _ => pts_yes) (fun _ _ _ _ _ => c_FC_C (c_flat (vP 0))))) dz)))))
theorem ok_gain (D : Dg K mg "gain" (top 26) ["wish", "prices"]) (B : Bl mg) (hcost : Has P w K mg base n "cost" ["prices", "first", "behind"] (spD K F_cost)) : Has P w K mg base (n + 1) "gain" ["wish", "prices"] (spD K F_gain) := by
 have sc : FnScope ["wish", "prices"] ["wish", "prices"] (defScope (top 26)) := fsc
 exact dg_ok (fl := [.A, .A]) D sc (by decide) (by decide) fun f cdv A outer s H E hr => dss_one (ds_ret (c_FC_R (de_op op_sub b_sub (c_A_P (dx (vB 0) iP)) (c_C_P (de_call hcost hr (dq (vP 1) (dq (c_A_P (dx (vB 0) iP)) (dq (c_A_P (dx (vB 0) iP)) dz))))))))
theorem ok_sold_out (D : Dg K mg "sold_out" (top 27) ["wishes", "free", "choice", "prices"]) (B : Bl mg) (hheld_at : Has P w K mg base n "held_at" ["wishes", "choice", "night"] (spD K F_held_at)) : Has P w K mg base (n + 1) "sold_out" ["wishes", "free", "choice", "prices"] (spD K F_sold_out) := by
 have sc : FnScope ["wishes", "free", "choice", "prices"] ["wishes", "free", "choice", "prices"] (defScope (top 27)) := fsc
 exact dg_ok (fl := [.A, .A, .A, .A]) D sc (by decide) (by decide) fun f cdv A outer s H E hr => dss_one (ds_ret (c_FC_R (de_blt (call_allL rfl) b_all (by rfl) B.all_ (show bootBuiltins "all" = some (.builtin "all") by decide +kernel) (dq (c_FC_P (de_comp (L := []) (fl' := [.A, .A, .A, .A, .A]) rfl ["night", "price"] ["wishes", "choice", "free"] [0, 2, 1] (di_list (vB 3)) (fun _ _ _ _ _ => dg_tup rfl (dgs_cons (gN' (i := 0) (show (["night", "price", "wishes", "choice", "free"] : List Str).Nodup by decide +kernel)) (dgs_cons (gN' (i := 1) (show (["night", "price", "wishes", "choice", "free"] : List Str).Nodup by decide +kernel)) (dgs_nil)))) (fun _ _ _ _ _ => pts_yes) (fun _ _ _ _ _ => c_FC_C (de_cmp (op_eqD hr.units) b_eq (c_C_P (de_call hheld_at hr (dq (vP 2) (dq (vP 3) (dq (vP 0) dz))))) (c_A_P (dx (vB 4) (vP 0))) (nomark _))))) dz))))
theorem ok_is_best (D : Dg K mg "is_best" (top 28) ["wishes", "free", "choice", "prices"]) (B : Bl mg) (his_choice : Has P w K mg base n "is_choice" ["wishes", "free", "thing"] (spD K F_is_choice)) (his_price_list : Has P w K mg base n "is_price_list" ["free", "thing"] (spD K F_is_price_list)) (hgain : Has P w K mg base n "gain" ["wish", "prices"] (spD K F_gain)) (hsold_out : Has P w K mg base n "sold_out" ["wishes", "free", "choice", "prices"] (spD K F_sold_out)) : Has P w K mg base (n + 1) "is_best" ["wishes", "free", "choice", "prices"] (spD K F_is_best) := by
 have sc : FnScope ["wishes", "free", "choice", "prices", "place", "wish"] ["wishes", "free", "choice", "prices"] (defScope (top 28)) := fsc
 exact dg_ok (fl := [.A, .A, .A, .A, .A, .A]) D sc (by decide) (by decide) fun f cdv A outer s H E hr => dss_cons (ds_if (dt_w (dw_or (dt_not (dt_val (c_C_P (de_call his_choice hr (dq (vP 0) (dq (vP 1) (dq (vP 2) dz))))))) (dw_or1 (dt_not (dt_val (c_C_P (de_call his_price_list hr (dq (vP 1) (dq (vP 3) dz))))))))) (dss_one (ds_ret (c_FC_R (de_bl)))) (dss_nil))
  (dss_cons (ds_for (L := []) PassesOwn.never rfl (di_enum (vB 0) (by rfl) B.enumerate_) (dg_tup rfl (dgs_cons (gN' (i := 4) sc.nd) (dgs_cons (gN' (i := 5) sc.nd) (dgs_nil)))) (dss_cons (ds_if (dt_w (dw_and (dt_cmp (op_inD hr.units) b_in (vP 4) (vP 2) (by with_unfolding_all rfl)) (dw_and1 (dt_cmp op_lt b_lt (c_C_P (de_call hgain hr (dq (vP 5) (dq (vP 3) dz)))) iP (nomark _))))) (dss_one (ds_ret (c_FC_R (de_bl)))) (dss_nil))
  (dss_one (ds_if (dt_w (dw_and (dt_cmp (op_notinD hr.units) b_notin (vP 4) (vP 2) (by with_unfolding_all rfl)) (dw_and1 (dt_cmp op_gt b_gt (c_C_P (de_call hgain hr (dq (vP 5) (dq (vP 3) dz)))) iP (nomark _))))) (dss_one (ds_ret (c_FC_R (de_bl)))) (dss_nil)))))
  (dss_one (ds_ret (c_C_R (de_call hsold_out hr (dq (vP 0) (dq (vP 1) (dq (vP 2) (dq (vP 3) dz)))))))))
theorem ok_has_room (D : Dg K mg "has_room" (top 29) ["wishes", "free", "choice", "wish"]) (B : Bl mg) (hnights_of : Has P w K mg base n "nights_of" ["stay"] (spD K F_nights_of)) (hholds : Has P w K mg base n "holds" ["stretch", "night"] (spD K F_holds)) (hheld_at : Has P w K mg base n "held_at" ["wishes", "choice", "night"] (spD K F_held_at)) : Has P w K mg base (n + 1) "has_room" ["wishes", "free", "choice", "wish"] (spD K F_has_room) := by
 have sc : FnScope ["wishes", "free", "choice", "wish", "left"] ["wishes", "free", "choice", "wish"] (defScope (top 29)) := fsc
 exact dg_ok (fl := [.A, .A, .A, .A, .A]) D sc (by decide) (by decide) fun f cdv A outer s H E hr => dss_cons (ds_setCA (i := 4) (L := []) (fl' := [.A, .A, .A, .A, .A]) rfl sc.nd rfl rfl rfl ["night", "many"] ["wishes", "choice", "wish"] [0, 2, 3] (di_enum (vB 1) (by rfl) B.enumerate_) (fun _ _ _ _ _ => dg_tup rfl (dgs_cons (gN' (i := 0) (show (["night", "many", "wishes", "choice", "wish"] : List Str).Nodup by decide +kernel)) (dgs_cons (gN' (i := 1) (show (["night", "many", "wishes", "choice", "wish"] : List Str).Nodup by decide +kernel)) (dgs_nil)))) (fun _ _ _ _ _ => pts_one (dt_val (c_C_P (de_call hholds hr (dq (c_C_P (de_call hnights_of hr (dq (vP 4) dz))) (dq (vP 0) dz)))))) (fun _ _ _ _ _ => c_FC_C (de_op op_sub b_sub (vP 1) (c_C_P (de_call hheld_at hr (dq (vP 2) (dq (vP 3) (dq (vP 0) dz))))))))
  (dss_one (ds_ret (c_FC_R (de_cmp op_gt b_gt (c_FC_P (de_blt (call_minL rfl) b_minL (by rfl) B.min_ PyProof.Rows.boot_min (dq (vP 4) dz))) iP (nomark _)))))
theorem ok_by_turns (D : Dg K mg "by_turns" (top 30) ["wishes", "free"]) (B : Bl mg) (hcheck_wishes : Has P w K mg base n "check_wishes" ["wishes", "free"] (spD K F_check_wishes)) (hhas_room : Has P w K mg base n "has_room" ["wishes", "free", "choice", "wish"] (spD K F_has_room)) : Has P w K mg base (n + 1) "by_turns" ["wishes", "free"] (spD K F_by_turns) := by
 have sc : FnScope ["wishes", "free", "choice", "place", "wish"] ["wishes", "free"] (defScope (top 30)) := fsc
 exact dg_ok (fl := [.A, .A, .O, .A, .A]) D sc (by decide) (by decide) fun f cdv A outer s H E hr => dss_cons (ds_expr (c_C_P (de_call hcheck_wishes hr (dq (vP 0) (dq (vP 1) dz)))))
  (dss_cons (ds_setO (i := 2) rfl sc.nd rfl (by first | exact Or.inl rfl | exact Or.inr rfl) (c_FC_F (de_lstC dz)))
  (dss_cons (ds_for (L := []) PassesOwn.never rfl (di_enum (vB 0) (by rfl) B.enumerate_) (dg_tup rfl (dgs_cons (gN' (i := 3) sc.nd) (dgs_cons (gN' (i := 4) sc.nd) (dgs_nil)))) (dss_one (ds_if (dt_val (c_C_P (de_call hhas_room hr (dq (vP 0) (dq (vP 1) (dq (c_B_P (de_var 2)) (dq (vP 4) dz))))))) (dss_one (ds_append (i := 2) rfl (vA 3) rfl)) (dss_nil))))
  (dss_one (ds_ret (de_varR 2 (by decide))))))
theorem ok_ways_of_wish (D : Dg K mg "ways_of_wish" (top 32) ["wish", "place", "choice"]) (B : Bl mg) : Has P w K mg base (n + 1) "ways_of_wish" ["wish", "place", "choice"] (spD K F_ways_of_wish) := by
 have sc : FnScope ["wish", "place", "choice"] ["wish", "place", "choice"] (defScope (top 32)) := fsc
 exact dg_ok (fl := [.A, .A, .A]) D sc (by decide) (by decide) fun f cdv A outer s H E hr => dss_cons (ds_if (dt_cmp (op_inD hr.units) b_in (vP 1) (vP 2) (by with_unfolding_all rfl)) (dss_one (ds_ret (de_tup rfl (dq (c_FC_R (c_flat (c_A_P (dx (vB 0) iP)))) (dq (c_FC_R (c_flat (c_A_P (dx (vB 0) iP)))) (dq (c_FC_R (c_flat (c_A_P (dx (vB 0) iP)))) (dq (c_FC_R (c_flat (vP 1))) dz))))))) (dss_nil))
  (dss_one (ds_ret (de_tup rfl (dq (c_FC_R (c_flat (c_A_P (dx (vB 0) iP)))) (dq (c_FC_R (c_flat (c_A_P (dx (vB 0) iP)))) (dq (c_FC_R (de_neg (c_A_P (dx (vB 0) iP)))) (dq (c_FC_R (c_flat (vP 1))) dz)))))))
theorem ok_all_ways (D : Dg K mg "all_ways" (top 33) ["wishes", "free", "choice"]) (B : Bl mg) (hheld_at : Has P w K mg base n "held_at" ["wishes", "choice", "night"] (spD K F_held_at)) (hways_of_wish : Has P w K mg base n "ways_of_wish" ["wish", "place", "choice"] (spD K F_ways_of_wish)) : Has P w K mg base (n + 1) "all_ways" ["wishes", "free", "choice"] (spD K F_all_ways) := by
 have sc : FnScope ["wishes", "free", "choice", "onward", "left", "back"] ["wishes", "free", "choice"] (defScope (top 33)) := fsc
 exact dg_ok (fl := [.A, .A, .A, .A, .A, .A]) D sc (by decide) (by decide) fun f cdv A outer s H E hr => dss_cons (ds_setCA (i := 3) (L := []) (fl' := [.A]) rfl sc.nd rfl rfl rfl ["night"] [] [] (di_range1 (by rfl) B.range_ (da_of (dq (c_FC_P (de_blt call_len_seq b_len (by rfl) B.len_ PySem.boot_len (dq (vP 1) dz))) dz))) (fun _ _ _ _ _ => gN' (i := 0) (show (["night"] : List Str).Nodup by decide +kernel)) (fun _ _ _ _ _ => pts_yes) (fun _ _ _ _ _ => c_FC_C (c_flat (c_A_P (de_tup rfl (dq (vA 0) (dq (c_FC_A (de_op op_add b_add (vP 0) iP)) (dq (c_FC_A (de_int)) (dq (c_FC_A (de_non)) dz)))))))))
  (dss_cons (ds_setCA (i := 4) (L := []) (fl' := [.A, .A, .A, .A]) rfl sc.nd rfl rfl rfl ["night", "many"] ["wishes", "choice"] [0, 2] (di_enum (vB 1) (by rfl) B.enumerate_) (fun _ _ _ _ _ => dg_tup rfl (dgs_cons (gN' (i := 0) (show (["night", "many", "wishes", "choice"] : List Str).Nodup by decide +kernel)) (dgs_cons (gN' (i := 1) (show (["night", "many", "wishes", "choice"] : List Str).Nodup by decide +kernel)) (dgs_nil)))) (fun _ _ _ _ _ => pts_one (dt_cmp op_lt b_lt (c_C_P (de_call hheld_at hr (dq (vP 2) (dq (vP 3) (dq (vP 0) dz))))) (vP 1) (nomark _))) (fun _ _ _ _ _ => c_FC_C (c_flat (vP 0))))
  (dss_cons (ds_setCA (i := 5) (L := []) (fl' := [.A]) rfl sc.nd rfl rfl rfl ["night"] [] [] (di_rev (vB 4) (by rfl) B.reversed_) (fun _ _ _ _ _ => gN' (i := 0) (show (["night"] : List Str).Nodup by decide +kernel)) (fun _ _ _ _ _ => pts_yes) (fun _ _ _ _ _ => c_FC_C (c_flat (c_A_P (de_tup rfl (dq (c_FC_A (de_op op_add b_add (vP 0) iP)) (dq (vA 0) (dq (c_FC_A (de_int)) (dq (c_FC_A (de_non)) dz)))))))))
  (dss_one (ds_ret (c_FC_R (c_Ffl1 (de_cat (c_A_B (c_F_A (de_cat (vB 3) (vB 5)))) (c_A_B (c_FC_A (de_comp (L := []) (fl' := [.A, .A, .A]) rfl ["place", "wish"] ["choice"] [2] (di_enum (vB 0) (by rfl) B.enumerate_) (fun _ _ _ _ _ => dg_tup rfl (dgs_cons (gN' (i := 0) (show (["place", "wish", "choice"] : List Str).Nodup by decide +kernel)) (dgs_cons (gN' (i := 1) (show (["place", "wish", "choice"] : List Str).Nodup by decide +kernel)) (dgs_nil)))) (fun _ _ _ _ _ => pts_yes) (fun _ _ _ _ _ => de_call hways_of_wish hr (dq (vP 1) (dq (vP 0) (dq (vP 2) dz))))))))))))))
theorem ok_cheapest (D : Dg K mg "cheapest" (top 34) ["costs", "ways"]) (B : Bl mg) : Has P w K mg base (n + 1) "cheapest" ["costs", "ways"] (spD K F_cheapest) := by
 have sc : FnScope ["costs", "ways", "least", "came", "better", "way", "since", "known"] ["costs", "ways"] (defScope (top 34)) := fsc
 exact dg_ok (fl := [.A, .A, .O, .O, .A, .A, .A, .A]) D sc (by decide) (by decide) fun f cdv A outer s H E hr => dss_cons (ds_setO (i := 2) rfl sc.nd rfl (by first | exact Or.inl rfl | exact Or.inr rfl) (de_list (vB 0) (by rfl) B.list_))
  (dss_cons (ds_setO (i := 3) rfl sc.nd rfl (by first | exact Or.inl rfl | exact Or.inr rfl) (de_rep (c_FC_F (de_lstC (dq (c_FC_C (de_non)) dz))) (c_FC_P (de_blt call_len_seq b_len (by rfl) B.len_ PySem.boot_len (dq (vP 0) dz)))))
  (dss_cons (sA (i := 4) sc.nd (c_FC_A (de_bl)))
  (dss_cons (ds_while PassesOwn.never (dt_val (vP 4)) (dss_cons (sA (i := 4) sc.nd (c_FC_A (de_bl)))
  (dss_one (ds_for (L := []) PassesOwn.never rfl (di_list (vB 1)) (gN' (i := 5) sc.nd) (dss_cons (sA (i := 6) sc.nd (dx (de_var 2) (c_A_P (dx (vB 5) iP))))
  (dss_cons (sA (i := 7) sc.nd (dx (de_var 2) (c_A_P (dx (vB 5) iP))))
  (dss_one (ds_if (dt_w (dw_and (dt_notN (vP 6)) (dw_and1 (dt_w (dw_or (dt_isN (vP 7)) (dw_or1 (dt_cmp op_lt b_lt (c_FC_P (de_op op_add b_add (vP 6) (c_A_P (dx (vB 5) iP)))) (vP 7) (nomark _)))))))) (dss_cons (ds_put (i := 2) rfl (c_FC_A (de_op op_add b_add (vP 6) (c_A_P (dx (vB 5) iP)))) (c_A_P (dx (vB 5) iP)) rfl)
  (dss_cons (ds_put (i := 3) rfl (vA 5) (c_A_P (dx (vB 5) iP)) rfl)
  (dss_one (sA (i := 4) sc.nd (c_FC_A (de_bl)))))) (dss_nil)))))))))
  (dss_one (ds_ret (de_tup rfl (dq (de_varR 2 (by decide)) (dq (de_varR 3 (by decide)) dz))))))))
theorem ok_places_on_the_way (D : Dg K mg "places_on_the_way" (top 35) ["came", "start", "goal"]) (B : Bl mg) : Has P w K mg base (n + 1) "places_on_the_way" ["came", "start", "goal"] (spD K F_places_on_the_way) := by
 have sc : FnScope ["came", "start", "goal", "places", "post", "way"] ["came", "start", "goal"] (defScope (top 35)) := fsc
 exact dg_ok (fl := [.A, .A, .A, .O, .A, .A]) D sc (by decide) (by decide) fun f cdv A outer s H E hr => dss_cons (ds_setO (i := 3) rfl sc.nd rfl (by first | exact Or.inl rfl | exact Or.inr rfl) (c_FC_F (de_lstC dz)))
  (dss_cons (sA (i := 4) sc.nd (vA 2))
  (dss_cons (ds_while PassesOwn.never (dt_cmp (op_neD hr.units) b_ne (vP 4) (vP 1) (nomark _)) (dss_cons (sA (i := 5) sc.nd (dx (vB 0) (vP 4)))
  (dss_cons (ds_if (dt_notN (c_A_P (dx (vB 5) iP))) (dss_one (ds_append (i := 3) rfl (dx (vB 5) iP) rfl)) (dss_nil))
  (dss_one (sA (i := 4) sc.nd (dx (vB 5) iP))))))
  (dss_one (ds_ret (de_varR 3 (by decide))))))
theorem ok_with_one_more (D : Dg K mg "with_one_more" (top 36) ["wishes", "free", "choice", "place"]) (B : Bl mg) (hall_ways : Has P w K mg base n "all_ways" ["wishes", "free", "choice"] (spD K F_all_ways)) (hcheapest : Has P w K mg base n "cheapest" ["costs", "ways"] (spD K F_cheapest)) (hplaces_on_the_way : Has P w K mg base n "places_on_the_way" ["came", "start", "goal"] (spD K F_places_on_the_way)) : Has P w K mg base (n + 1) "with_one_more" ["wishes", "free", "choice", "place"] (spL K F_with_one_more) := by
 have sc : FnScope ["wishes", "free", "choice", "place", "wish", "costs", "found", "back", "changed"] ["wishes", "free", "choice", "place"] (defScope (top 36)) := fsc
 exact dg_okL (fl := [.A, .A, .A, .A, .A, .O, .A, .A, .A]) D sc (by decide) (by decide) fun f cdv A outer s H E hr => dss_cons (sA (i := 4) sc.nd (dx (vB 0) (vP 3)))
  (dss_cons (ds_setO (i := 5) rfl sc.nd rfl (by first | exact Or.inl rfl | exact Or.inr rfl) (de_rep (c_FC_F (de_lstC (dq (c_FC_C (de_non)) dz))) (c_FC_P (de_op op_add b_add (c_FC_P (de_blt call_len_seq b_len (by rfl) B.len_ PySem.boot_len (dq (vP 1) dz))) iP))))
  (dss_cons (ds_put (i := 5) rfl (c_FC_A (de_int)) (c_A_P (dx (vB 4) iP)) rfl)
  (dss_cons (sA (i := 6) sc.nd (c_C_A (de_call hcheapest hr (dq (c_B_P (de_var 5)) (dq (c_C_P (de_call hall_ways hr (dq (c_F_P (de_sl (vB 0) do_none (do_part (vP 3)))) (dq (vP 1) (dq (vP 2) dz))))) dz)))))
  (dss_cons (sA (i := 7) sc.nd (dx (c_A_B (dx (vB 6) iP)) (c_A_P (dx (vB 4) iP))))
  (dss_cons (ds_if (dt_w (dw_or (dt_isN (vP 7)) (dw_or1 (dt_cmp op_ge b_ge (vP 7) (c_A_P (dx (vB 4) iP)) (nomark _))))) (dss_one (ds_retL (vP 2))) (dss_nil))
  (dss_cons (sA (i := 8) sc.nd (c_F_A (de_cat (c_A_B (c_C_A (de_call hplaces_on_the_way hr (dq (c_A_P (dx (vB 6) iP)) (dq (c_A_P (dx (vB 4) iP)) (dq (c_A_P (dx (vB 4) iP)) dz)))))) (c_A_B (c_F_A (de_lstA (dq (vA 3) dz)))))))
  (dss_one (ds_retL (c_FC_P (de_comp (L := []) (fl' := [.A, .A, .A]) rfl ["one"] ["choice", "changed"] [2, 8] (di_range1 (by rfl) B.range_ (da_of (dq (c_FC_P (de_op op_add b_add (vP 3) iP)) dz))) (fun _ _ _ _ _ => gN' (i := 0) (show (["one", "choice", "changed"] : List Str).Nodup by decide +kernel)) (fun _ _ _ _ _ => pts_one (dt_cmp (op_neD hr.units) b_ne (c_FC_P (de_cmp (op_inD hr.units) b_in (vP 0) (vP 1) (by with_unfolding_all rfl))) (c_FC_P (de_cmp (op_inD hr.units) b_in (vP 0) (vP 2) (by with_unfolding_all rfl))) (nomark _))) (fun _ _ _ _ _ => c_FC_C (c_flat (vP 0)))))))))))))
theorem ok_prices_of (D : Dg K mg "prices_of" (top 37) ["wishes", "free", "choice"]) (B : Bl mg) (hall_ways : Has P w K mg base n "all_ways" ["wishes", "free", "choice"] (spD K F_all_ways)) (hcheapest : Has P w K mg base n "cheapest" ["costs", "ways"] (spD K F_cheapest)) : Has P w K mg base (n + 1) "prices_of" ["wishes", "free", "choice"] (spD K F_prices_of) := by
 have sc : FnScope ["wishes", "free", "choice", "costs", "falls"] ["wishes", "free", "choice"] (defScope (top 37)) := fsc
 exact dg_ok (fl := [.A, .A, .A, .A, .A]) D sc (by decide) (by decide) fun f cdv A outer s H E hr => dss_cons (sA (i := 3) sc.nd (dx (c_A_B (c_C_A (de_call hcheapest hr (dq (c_F_P (de_rep (c_FC_F (de_lstC (dq iC dz))) (c_FC_P (de_op op_add b_add (c_FC_P (de_blt call_len_seq b_len (by rfl) B.len_ PySem.boot_len (dq (vP 1) dz))) iP)))) (dq (c_C_P (de_call hall_ways hr (dq (vP 0) (dq (vP 1) (dq (vP 2) dz))))) dz))))) iP))
  (dss_cons (ds_setCA (i := 4) (L := []) (fl' := [.A, .A]) rfl sc.nd rfl rfl rfl ["night"] ["costs"] [3] (di_range1 (by rfl) B.range_ (da_of (dq (c_FC_P (de_blt call_len_seq b_len (by rfl) B.len_ PySem.boot_len (dq (vP 1) dz))) dz))) (fun _ _ _ _ _ => gN' (i := 0) (show (["night", "costs"] : List Str).Nodup by decide +kernel)) (fun _ _ _ _ _ => pts_yes) (fun _ _ _ _ _ => c_FC_C (c_flat (c_A_P (de_tup rfl (dq (vA 0) (dq (c_FC_A (de_op op_sub b_sub (c_A_P (dx (vB 1) (vP 0))) (c_A_P (dx (vB 1) (c_FC_P (de_op op_add b_add (vP 0) iP)))))) dz)))))))
  (dss_one (ds_ret (c_FC_R (de_comp (L := []) (fl' := [.A, .A]) rfl ["night", "price"] [] [] (di_list (vB 4)) (fun _ _ _ _ _ => dg_tup rfl (dgs_cons (gN' (i := 0) (show (["night", "price"] : List Str).Nodup by decide +kernel)) (dgs_cons (gN' (i := 1) (show (["night", "price"] : List Str).Nodup by decide +kernel)) (dgs_nil)))) (fun _ _ _ _ _ => pts_one (dt_cmp op_gt b_gt (vP 1) iP (nomark _))) (fun _ _ _ _ _ => c_FC_C (c_flat (c_A_P (de_tup rfl (dq (vA 0) (dq (vA 1) dz)))))))))))
theorem ok_best (D : Dg K mg "best" (top 38) ["wishes", "free"]) (B : Bl mg) (hcheck_wishes : Has P w K mg base n "check_wishes" ["wishes", "free"] (spD K F_check_wishes)) (hworth_of : Has P w K mg base n "worth_of" ["wishes", "choice"] (spD K F_worth_of)) (hwith_one_more : Has P w K mg base n "with_one_more" ["wishes", "free", "choice", "place"] (spL K F_with_one_more)) (hprices_of : Has P w K mg base n "prices_of" ["wishes", "free", "choice"] (spD K F_prices_of)) : Has P w K mg base (n + 1) "best" ["wishes", "free"] (spL K F_best) := by
 have sc : FnScope ["wishes", "free", "choice", "place"] ["wishes", "free"] (defScope (top 38)) := fsc
 exact dg_okL (fl := [.A, .A, .A, .A]) D sc (by decide) (by decide) fun f cdv A outer s H E hr => dss_cons (ds_expr (c_C_P (de_call hcheck_wishes hr (dq (vP 0) (dq (vP 1) dz)))))
  (dss_cons (sA (i := 2) sc.nd (c_FC_A (de_lstC dz)))
  (dss_cons (ds_for (L := []) PassesOwn.never rfl (di_range1 (by rfl) B.range_ (da_of (dq (c_FC_P (de_blt call_len_seq b_len (by rfl) B.len_ PySem.boot_len (dq (vP 0) dz))) dz))) (gN' (i := 3) sc.nd) (dss_one (sA (i := 2) sc.nd (c_PA rfl (de_callL hwith_one_more hr (dq (vP 0) (dq (vP 1) (dq (vP 2) (dq (vP 3) dz)))))))))
  (dss_one (ds_retL (de_tup rfl (dq (c_C_P (de_call hworth_of hr (dq (vP 0) (dq (vP 2) dz)))) (dq (vP 2) (dq (c_C_P (de_call hprices_of hr (dq (vP 0) (dq (vP 1) (dq (vP 2) dz))))) dz))))))))
theorem ok__law_cell (D : Dg K mg "_law_cell" (top 40) ["_law_script", "_law_at"]) (B : Bl mg) : Has P w K mg base (n + 1) "_law_cell" ["_law_script", "_law_at"] (spD K F__law_cell) := by
 have sc : FnScope ["_law_script", "_law_at"] ["_law_script", "_law_at"] (defScope (top 40)) := fsc
 exact dg_ok (fl := [.A, .A]) D sc (by decide) (by decide) fun f cdv A outer s H E hr => dss_cons (ds_if (dt_cmp op_lt b_lt (vP 1) (c_FC_P (de_blt call_len_seq b_len (by rfl) B.len_ PySem.boot_len (dq (vP 0) dz))) (nomark _)) (dss_one (ds_ret (c_FC_R (de_op op_modN b_mod (c_A_P (dx (vB 0) (vP 1))) iP)))) (dss_nil))
  (dss_cons (ds_if (dt_cmp (op_eqD hr.units) b_eq (vP 0) (c_FC_P (de_lstC dz)) (nomark _)) (dss_one (ds_ret (c_FC_R (de_op op_add b_add (c_FC_P (de_op op_mulG b_mul iP (vP 1))) iP)))) (dss_nil))
  (dss_one (ds_ret (c_FC_R (de_op op_add b_add (c_FC_P (de_op op_modN b_mod (c_A_P (dx (vB 0) (c_FC_P (de_op op_modN b_mod (c_FC_P (de_op op_mulG b_mul (vP 1) iP)) (c_FC_P (de_blt call_len_seq b_len (by rfl) B.len_ PySem.boot_len (dq (vP 0) dz))))))) iP)) (c_FC_P (de_op op_mulG b_mul iP (vP 1))))))))
theorem ok__law_part (D : Dg K mg "_law_part" (top 41) ["_law_script", "_law_at", "_law_k", "_law_many"]) (B : Bl mg) (h_law_cell : Has P w K mg base n "_law_cell" ["_law_script", "_law_at"] (spD K F__law_cell)) : Has P w K mg base (n + 1) "_law_part" ["_law_script", "_law_at", "_law_k", "_law_many"] (spD K F__law_part) := by
 have sc : FnScope ["_law_script", "_law_at", "_law_k", "_law_many", "_law_number", "_law_j"] ["_law_script", "_law_at", "_law_k", "_law_many"] (defScope (top 41)) := fsc
 exact dg_ok (fl := [.A, .A, .A, .A, .A, .A]) D sc (by decide) (by decide) fun f cdv A outer s H E hr => dss_cons (ds_if (dt_w (dw_and (dt_cmp op_lt b_lt (vP 1) (c_FC_P (de_blt call_len_seq b_len (by rfl) B.len_ PySem.boot_len (dq (vP 0) dz))) (nomark _)) (dw_and1 (dt_cmp op_ge b_ge (c_A_P (dx (vB 0) (vP 1))) (c_FC_P (de_op op_pow b_pow iP iP)) (nomark _))))) (dss_cons (sA (i := 4) sc.nd (dx (vB 0) (vP 1)))
  (dss_cons (ds_for (L := []) PassesOwn.never rfl (di_range1 (by rfl) B.range_ (da_of (dq (vP 2) dz))) (gN' (i := 5) sc.nd) (dss_one (sA (i := 4) sc.nd (c_FC_A (de_op op_divG b_div (vP 4) iP)))))
  (dss_one (ds_if (dt_cmp op_gt b_gt (vP 4) iP (nomark _)) (dss_one (ds_ret (c_FC_R (de_op op_modN b_mod (c_FC_P (de_op op_modN b_mod (vP 4) iP)) (vP 3))))) (dss_nil))))) (dss_nil))
  (dss_cons (sA (i := 4) sc.nd (c_FC_A (de_op op_modN b_mod (c_FC_P (de_op op_mulG b_mul (c_FC_P (de_op op_add b_add (c_FC_P (de_op op_add b_add (c_C_P (de_call h_law_cell hr (dq (vP 0) (dq (vP 1) dz)))) (c_FC_P (de_op op_mulG b_mul iP (vP 1))))) iP)) (c_FC_P (de_op op_add b_add iP (c_FC_P (de_op op_mulG b_mul iP (vP 2))))))) iP)))
  (dss_cons (sA (i := 4) sc.nd (c_FC_A (de_op op_add b_add (c_FC_P (de_op op_modN b_mod (c_FC_P (de_op op_mulG b_mul (vP 4) (vP 4))) iP)) iP)))
  (dss_one (ds_ret (c_FC_R (de_op op_modN b_mod (c_FC_P (de_op op_divG b_div (c_FC_P (de_op op_modN b_mod (c_FC_P (de_op op_mulG b_mul (vP 4) (vP 4))) iP)) iP)) (vP 3)))))))
theorem ok__law_row (D : Dg K mg "_law_row" (top 42) ["_law_script", "_law_at", "_law_many"]) (B : Bl mg) (h_law_part : Has P w K mg base n "_law_part" ["_law_script", "_law_at", "_law_k", "_law_many"] (spD K F__law_part)) : Has P w K mg base (n + 1) "_law_row" ["_law_script", "_law_at", "_law_many"] (spD K F__law_row) := by
 have sc : FnScope ["_law_script", "_law_at", "_law_many"] ["_law_script", "_law_at", "_law_many"] (defScope (top 42)) := fsc
 exact dg_ok (fl := [.A, .A, .A]) D sc (by decide) (by decide) fun f cdv A outer s H E hr => dss_one (ds_ret (c_FC_R (de_comp (L := []) (fl' := [.A, .A, .A]) rfl ["_law_k"] ["_law_script", "_law_at"] [0, 1] (di_range1 (by rfl) B.range_ (da_of (dq (vP 2) dz))) (fun _ _ _ _ _ => gN' (i := 0) (show (["_law_k", "_law_script", "_law_at"] : List Str).Nodup by decide +kernel)) (fun _ _ _ _ _ => pts_yes) (fun _ _ _ _ _ => de_call h_law_part hr (dq (vP 1) (dq (vP 2) (dq (vP 0) (dq (c_FC_P (de_op op_pow b_pow iP iP)) dz))))))))
theorem ok__law_free (D : Dg K mg "_law_free" (top 44) ["_law_script", "_law_nights"]) (B : Bl mg) (h_law_row : Has P w K mg base n "_law_row" ["_law_script", "_law_at", "_law_many"] (spD K F__law_row)) : Has P w K mg base (n + 1) "_law_free" ["_law_script", "_law_nights"] (spD K F__law_free) := by
 have sc : FnScope ["_law_script", "_law_nights", "_law_xs", "_law_ys", "_law_way", "_law_cut"] ["_law_script", "_law_nights"] (defScope (top 44)) := fsc
 exact dg_ok (fl := [.A, .A, .A, .A, .A, .A]) D sc (by decide) (by decide) fun f cdv A outer s H E hr => dss_cons (sA (i := 2) sc.nd (c_C_A (de_call h_law_row hr (dq (vP 0) (dq iP (dq iP dz))))))
  (dss_cons (sA (i := 3) sc.nd (c_C_A (de_call h_law_row hr (dq (vP 0) (dq iP (dq (vP 1) dz))))))
  (dss_cons (sA (i := 4) sc.nd (c_FC_A (de_op op_modN b_mod (c_A_P (dx (vB 2) iP)) iP)))
  (dss_cons (ds_if (dt_cmp (op_eqD hr.units) b_eq (vP 4) iP (nomark _)) (dss_one (ds_ret (c_FC_R (c_Ffl1 (de_rep (c_FC_F (de_lstC (dq (c_FC_C (de_op op_add b_add iP (c_FC_P (de_op op_modN b_mod (c_A_P (dx (vB 2) iP)) iP)))) dz))) (vP 1)))))) (dss_nil))
  (dss_cons (ds_if (dt_cmp (op_eqD hr.units) b_eq (vP 4) iP (nomark _)) (dss_one (ds_ret (c_FC_R (de_comp (L := []) (fl' := [.A, .A]) rfl ["_law_k"] ["_law_ys"] [3] (di_range1 (by rfl) B.range_ (da_of (dq (vP 1) dz))) (fun _ _ _ _ _ => gN' (i := 0) (show (["_law_k", "_law_ys"] : List Str).Nodup by decide +kernel)) (fun _ _ _ _ _ => pts_yes) (fun _ _ _ _ _ => c_FC_C (de_op op_modN b_mod (c_A_P (dx (vB 1) (vP 0))) iP)))))) (dss_nil))
  (dss_cons (ds_if (dt_cmp (op_eqD hr.units) b_eq (vP 4) iP (nomark _)) (dss_one (ds_ret (c_FC_R (de_comp (L := []) (fl' := [.A, .A]) rfl ["_law_k"] ["_law_ys"] [3] (di_range1 (by rfl) B.range_ (da_of (dq (vP 1) dz))) (fun _ _ _ _ _ => gN' (i := 0) (show (["_law_k", "_law_ys"] : List Str).Nodup by decide +kernel)) (fun _ _ _ _ _ => pts_yes) (fun _ _ _ _ _ => c_FC_C (c_flat (c_A_P (dx (c_A_B (c_FC_A (de_lstC (dq iC (dq iC (dq iC (dq iC (dq iC (dq iC dz))))))))) (c_FC_P (de_op op_modN b_mod (c_A_P (dx (vB 1) (vP 0))) iP)))))))))) (dss_nil))
  (dss_cons (sA (i := 5) sc.nd (c_FC_A (de_op op_modN b_mod (c_A_P (dx (vB 2) iP)) (c_FC_P (de_op op_add b_add (vP 1) iP)))))
  (dss_one (ds_ret (c_FC_R (c_Ffl1 (de_cat (c_A_B (c_F_A (de_rep (c_FC_F (de_lstC (dq (c_FC_C (de_op op_modN b_mod (c_A_P (dx (vB 2) iP)) iP)) dz))) (vP 5)))) (c_A_B (c_F_A (de_rep (c_FC_F (de_lstC (dq (c_FC_C (de_op op_modN b_mod (c_A_P (dx (vB 2) iP)) iP)) dz))) (c_FC_P (de_op op_sub b_sub (vP 1) (vP 5)))))))))))))))))
theorem ok__law_wishes (D : Dg K mg "_law_wishes" (top 45) ["_law_script", "_law_nights", "_law_many"]) (B : Bl mg) (h_law_row : Has P w K mg base n "_law_row" ["_law_script", "_law_at", "_law_many"] (spD K F__law_row)) : Has P w K mg base (n + 1) "_law_wishes" ["_law_script", "_law_nights", "_law_many"] (spD K F__law_wishes) := by
 have sc : FnScope ["_law_script", "_law_nights", "_law_many", "_law_wishes_here", "_law_k", "_law_xs", "_law_first", "_law_behind", "_law_some"] ["_law_script", "_law_nights", "_law_many"] (defScope (top 45)) := fsc
 exact dg_ok (fl := [.A, .A, .A, .O, .A, .A, .A, .A, .A]) D sc (by decide) (by decide) fun f cdv A outer s H E hr => dss_cons (ds_setO (i := 3) rfl sc.nd rfl (by first | exact Or.inl rfl | exact Or.inr rfl) (c_FC_F (de_lstC dz)))
  (dss_cons (ds_for (L := []) PassesOwn.never rfl (di_range1 (by rfl) B.range_ (da_of (dq (vP 2) dz))) (gN' (i := 4) sc.nd) (dss_cons (sA (i := 5) sc.nd (c_C_A (de_call h_law_row hr (dq (vP 0) (dq (c_FC_P (de_op op_add b_add iP (vP 4))) (dq iP dz))))))
  (dss_cons (sA (i := 6) sc.nd (c_FC_A (de_op op_modN b_mod (c_A_P (dx (vB 5) iP)) (vP 1))))
  (dss_cons (sA (i := 7) sc.nd (c_FC_A (de_blt (call_min2 rfl) b_min2 (by rfl) B.min_ PyProof.Rows.boot_min (dq (vP 1) (dq (c_FC_P (de_op op_add b_add (c_FC_P (de_op op_add b_add (vP 6) iP)) (c_FC_P (de_op op_modN b_mod (c_A_P (dx (vB 5) iP)) (c_A_P (dx (c_A_B (c_F_A (de_lstA (dq (c_FC_A (de_int)) (dq (vA 1) dz))))) (c_FC_P (de_op op_modN b_mod (c_A_P (dx (vB 5) iP)) iP)))))))) dz)))))
  (dss_cons (sA (i := 8) sc.nd (c_FC_A (de_lstC (dq (c_FC_C (de_op op_modN b_mod (c_A_P (dx (vB 5) iP)) iP)) (dq (c_FC_C (de_op op_mulG b_mul iP (c_FC_P (de_op op_sub b_sub (vP 7) (vP 6))))) (dq (c_FC_C (de_op op_modN b_mod (c_FC_P (de_op op_add b_add (c_FC_P (de_op op_mulG b_mul (c_A_P (dx (vB 5) iP)) (c_FC_P (de_op op_pow b_pow iP iP)))) (c_A_P (dx (vB 5) iP)))) (c_FC_P (de_op op_add b_add (c_FC_P (de_op op_pow b_pow iP iP)) iP)))) dz))))))
  (dss_cons (sA (i := 8) sc.nd (c_F_A (de_cat (vB 8) (c_A_B (c_FC_A (de_lstC (dq (c_FC_C (de_op op_pow b_pow iP iP)) (dq (c_FC_C (de_op op_add b_add iP (c_FC_P (de_op op_modN b_mod (c_A_P (dx (vB 5) iP)) iP)))) dz))))))))
  (dss_one (ds_if (dt_w (dw_and (dt_cmp (op_eqD hr.units) b_eq (c_FC_P (de_op op_modN b_mod (c_A_P (dx (vB 5) iP)) iP)) iP (nomark _)) (dw_and1 (dt_cmp (op_neD hr.units) b_ne (c_B_P (de_var 3)) (c_FC_P (de_lstC dz)) (nomark _))))) (dss_one (ds_append (i := 3) rfl (dx (de_var 3) (c_FC_P (de_op op_modN b_mod (c_A_P (dx (vB 5) iP)) (c_FC_P (de_blt call_len_seq b_len (by rfl) B.len_ PySem.boot_len (dq (c_B_P (de_var 3)) dz)))))) rfl)) (dss_one (ds_append (i := 3) rfl (de_tup rfl (dq (vA 6) (dq (vA 7) (dq (dx (vB 8) (c_FC_P (de_op op_modN b_mod (c_A_P (dx (vB 5) iP)) iP))) dz)))) rfl))))))))))
  (dss_one (ds_ret (de_varR 3 (by decide)))))
theorem ok__law_prices (D : Dg K mg "_law_prices" (top 46) ["_law_script", "_law_at", "_law_free_here"]) (B : Bl mg) (h_law_row : Has P w K mg base n "_law_row" ["_law_script", "_law_at", "_law_many"] (spD K F__law_row)) : Has P w K mg base (n + 1) "_law_prices" ["_law_script", "_law_at", "_law_free_here"] (spD K F__law_prices) := by
 have sc : FnScope ["_law_script", "_law_at", "_law_free_here", "_law_xs", "_law_prices_here", "_law_night", "_law_number", "_law_some"] ["_law_script", "_law_at", "_law_free_here"] (defScope (top 46)) := fsc
 exact dg_ok (fl := [.A, .A, .A, .A, .O, .A, .A, .A]) D sc (by decide) (by decide) fun f cdv A outer s H E hr => dss_cons (sA (i := 3) sc.nd (c_C_A (de_call h_law_row hr (dq (vP 0) (dq (vP 1) (dq (c_FC_P (de_op op_mulG b_mul iP (c_FC_P (de_blt call_len_seq b_len (by rfl) B.len_ PySem.boot_len (dq (vP 2) dz))))) dz))))))
  (dss_cons (ds_setO (i := 4) rfl sc.nd rfl (by first | exact Or.inl rfl | exact Or.inr rfl) (c_FC_F (de_lstC dz)))
  (dss_cons (ds_for (L := []) PassesOwn.never rfl (di_range1 (by rfl) B.range_ (da_of (dq (c_FC_P (de_blt call_len_seq b_len (by rfl) B.len_ PySem.boot_len (dq (vP 2) dz))) dz))) (gN' (i := 5) sc.nd) (dss_one (ds_if (dt_cmp op_gt b_gt (c_FC_P (de_op op_modN b_mod (c_A_P (dx (vB 3) (c_FC_P (de_op op_mulG b_mul iP (vP 5))))) iP)) iP (nomark _)) (dss_cons (sA (i := 6) sc.nd (c_FC_A (de_op op_add b_add (c_FC_P (de_op op_mulG b_mul (c_A_P (dx (vB 3) (c_FC_P (de_op op_add b_add (c_FC_P (de_op op_mulG b_mul iP (vP 5))) iP)))) (c_FC_P (de_op op_pow b_pow iP iP)))) (c_A_P (dx (vB 3) (c_FC_P (de_op op_add b_add (c_FC_P (de_op op_mulG b_mul iP (vP 5))) iP)))))))
  (dss_cons (sA (i := 7) sc.nd (c_FC_A (de_lstC (dq iC (dq (c_FC_C (de_op op_add b_add iP (c_FC_P (de_op op_modN b_mod (vP 6) iP)))) (dq (c_FC_C (de_op op_pow b_pow iP iP)) (dq (c_FC_C (de_op op_add b_add iP (c_FC_P (de_op op_modN b_mod (vP 6) (c_FC_P (de_op op_pow b_pow iP iP)))))) (dq (c_FC_C (de_op op_add b_add iP (c_FC_P (de_op op_modN b_mod (c_FC_P (de_op op_pow b_pow (vP 6) iP)) (c_FC_P (de_op op_pow b_pow iP iP)))))) dz))))))))
  (dss_one (ds_append (i := 4) rfl (de_tup rfl (dq (vA 5) (dq (dx (vB 7) (c_FC_P (de_op op_modN b_mod (c_FC_P (de_op op_divG b_div (vP 6) iP)) iP))) dz))) rfl)))) (dss_nil))))
  (dss_one (ds_ret (de_varR 4 (by decide))))))
theorem ok__law_cost (D : Dg K mg "_law_cost" (top 47) ["_law_prices_here", "_law_first", "_law_behind"]) (B : Bl mg) : Has P w K mg base (n + 1) "_law_cost" ["_law_prices_here", "_law_first", "_law_behind"] (spD K F__law_cost) := by
 have sc : FnScope ["_law_prices_here", "_law_first", "_law_behind"] ["_law_prices_here", "_law_first", "_law_behind"] (defScope (top 47)) := fsc
 exact dg_ok (fl := [.A, .A, .A]) D sc (by decide) (by decide) fun f cdv A outer s H E hr => dss_one (ds_ret (c_FC_R (de_blt (call_sumL rfl) b_sum (by rfl) B.sum_ PyProof.Rows.boot_sum (dq (c_FC_P (de_comp (L := []) (fl' := [.A, .A, .A, .A]) rfl ["_law_night", "_law_price"] ["_law_first", "_law_behind"] [1, 2] (di_list (vB 0)) (fun _ _ _ _ _ => dg_tup rfl (dgs_cons (gN' (i := 0) (show (["_law_night", "_law_price", "_law_first", "_law_behind"] : List Str).Nodup by decide +kernel)) (dgs_cons (gN' (i := 1) (show (["_law_night", "_law_price", "_law_first", "_law_behind"] : List Str).Nodup by decide +kernel)) (dgs_nil)))) (fun _ _ _ _ _ => pts_one (dt_w (dw_and (dt_cmp op_le b_le (vP 2) (vP 0) (nomark _)) (dw_and1 (dt_cmp op_lt b_lt (vP 0) (vP 3) (nomark _)))))) (fun _ _ _ _ _ => c_FC_C (c_flat (vP 1))))) dz))))
theorem ok__law_holds (D : Dg K mg "_law_holds" (top 48) ["_law_wishes_here", "_law_some", "_law_night"]) (B : Bl mg) : Has P w K mg base (n + 1) "_law_holds" ["_law_wishes_here", "_law_some", "_law_night"] (spD K F__law_holds) := by
 have sc : FnScope ["_law_wishes_here", "_law_some", "_law_night"] ["_law_wishes_here", "_law_some", "_law_night"] (defScope (top 48)) := fsc
 exact dg_ok (fl := [.A, .A, .A]) D sc (by decide) (by decide) fun f cdv A outer s H E hr => dss_one (ds_ret (c_FC_R (de_blt call_len_seq b_len (by rfl) B.len_ PySem.boot_len (dq (c_FC_P (de_comp (L := []) (fl' := [.A, .A, .A]) rfl ["_law_at"] ["_law_night", "_law_wishes_here"] [2, 0] (di_list (vB 1)) (fun _ _ _ _ _ => gN' (i := 0) (show (["_law_at", "_law_night", "_law_wishes_here"] : List Str).Nodup by decide +kernel)) (fun _ _ _ _ _ => pts_one (dt_w (dw_and (dt_cmp op_le b_le (c_A_P (dx (c_A_B (dx (vB 2) (vP 0))) iP)) (vP 1) (nomark _)) (dw_and1 (dt_cmp op_lt b_lt (vP 1) (c_A_P (dx (c_A_B (dx (vB 2) (vP 0))) iP)) (nomark _)))))) (fun _ _ _ _ _ => c_FC_C (c_flat (vP 0))))) dz))))
theorem ok__law_is_choice (D : Dg K mg "_law_is_choice" (top 49) ["_law_wishes_here", "_law_free_here", "_law_some"]) (B : Bl mg) (h_law_holds : Has P w K mg base n "_law_holds" ["_law_wishes_here", "_law_some", "_law_night"] (spD K F__law_holds)) : Has P w K mg base (n + 1) "_law_is_choice" ["_law_wishes_here", "_law_free_here", "_law_some"] (spD K F__law_is_choice) := by
 have sc : FnScope ["_law_wishes_here", "_law_free_here", "_law_some", "_law_k", "_law_night"] ["_law_wishes_here", "_law_free_here", "_law_some"] (defScope (top 49)) := fsc
 exact dg_ok (fl := [.A, .A, .A, .A, .A]) D sc (by decide) (by decide) fun f cdv A outer s H E hr => dss_cons (ds_for (L := []) PassesOwn.never rfl (di_range1 (by rfl) B.range_ (da_of (dq (c_FC_P (de_blt call_len_seq b_len (by rfl) B.len_ PySem.boot_len (dq (vP 2) dz))) dz))) (gN' (i := 3) sc.nd) (dss_one (ds_if (dt_w (dw_or (dt_not (dt_chain op_le op_lt b_le b_lt iP (c_A_P (dx (vB 2) (vP 3))) (c_FC_P (de_blt call_len_seq b_len (by rfl) B.len_ PySem.boot_len (dq (vP 0) dz))))) (dw_or1 (dt_w (dw_and (dt_cmp op_gt b_gt (vP 3) iP (nomark _)) (dw_and1 (dt_cmp op_le b_le (c_A_P (dx (vB 2) (vP 3))) (c_A_P (dx (vB 2) (c_FC_P (de_op op_sub b_sub (vP 3) iP)))) (nomark _)))))))) (dss_one (ds_ret (c_FC_R (de_bl)))) (dss_nil))))
  (dss_cons (ds_for (L := []) PassesOwn.never rfl (di_range1 (by rfl) B.range_ (da_of (dq (c_FC_P (de_blt call_len_seq b_len (by rfl) B.len_ PySem.boot_len (dq (vP 1) dz))) dz))) (gN' (i := 4) sc.nd) (dss_one (ds_if (dt_cmp op_gt b_gt (c_C_P (de_call h_law_holds hr (dq (vP 0) (dq (vP 2) (dq (vP 4) dz))))) (c_A_P (dx (vB 1) (vP 4))) (nomark _)) (dss_one (ds_ret (c_FC_R (de_bl)))) (dss_nil))))
  (dss_one (ds_ret (c_FC_R (de_bl)))))
theorem ok__law_is_best (D : Dg K mg "_law_is_best" (top 50) ["_law_wishes_here", "_law_free_here", "_law_choice", "_law_prices_here"]) (B : Bl mg) (h_law_cost : Has P w K mg base n "_law_cost" ["_law_prices_here", "_law_first", "_law_behind"] (spD K F__law_cost)) (h_law_holds : Has P w K mg base n "_law_holds" ["_law_wishes_here", "_law_some", "_law_night"] (spD K F__law_holds)) (h_law_is_choice : Has P w K mg base n "_law_is_choice" ["_law_wishes_here", "_law_free_here", "_law_some"] (spD K F__law_is_choice)) : Has P w K mg base (n + 1) "_law_is_best" ["_law_wishes_here", "_law_free_here", "_law_choice", "_law_prices_here"] (spD K F__law_is_best) := by
 have sc : FnScope ["_law_wishes_here", "_law_free_here", "_law_choice", "_law_prices_here", "_law_k", "_law_night", "_law_price", "_law_at", "_law_surplus"] ["_law_wishes_here", "_law_free_here", "_law_choice", "_law_prices_here"] (defScope (top 50)) := fsc
 exact dg_ok (fl := [.A, .A, .A, .A, .A, .A, .A, .A, .A]) D sc (by decide) (by decide) fun f cdv A outer s H E hr => dss_cons (ds_if (dt_not (dt_val (c_C_P (de_call h_law_is_choice hr (dq (vP 0) (dq (vP 1) (dq (vP 2) dz))))))) (dss_one (ds_ret (c_FC_R (de_bl)))) (dss_nil))
  (dss_cons (ds_for (L := []) PassesOwn.never rfl (di_range1 (by rfl) B.range_ (da_of (dq (c_FC_P (de_blt call_len_seq b_len (by rfl) B.len_ PySem.boot_len (dq (vP 3) dz))) dz))) (gN' (i := 4) sc.nd) (dss_cons (ds_asg (dx (vB 3) (vP 4)) (dg_tup rfl (dgs_cons (gN' (i := 5) sc.nd) (dgs_cons (gN' (i := 6) sc.nd) (dgs_nil)))))
  (dss_cons (ds_if (dt_w (dw_or (dt_not (dt_chain op_le op_lt b_le b_lt iP (vP 5) (c_FC_P (de_blt call_len_seq b_len (by rfl) B.len_ PySem.boot_len (dq (vP 1) dz))))) (dw_or (dt_cmp op_lt b_lt (vP 6) iP (nomark _)) (dw_or1 (dt_w (dw_and (dt_cmp op_gt b_gt (vP 4) iP (nomark _)) (dw_and1 (dt_cmp op_le b_le (vP 5) (c_A_P (dx (c_A_B (dx (vB 3) (c_FC_P (de_op op_sub b_sub (vP 4) iP)))) iP)) (nomark _))))))))) (dss_one (ds_ret (c_FC_R (de_bl)))) (dss_nil))
  (dss_one (ds_if (dt_cmp (op_neD hr.units) b_ne (c_C_P (de_call h_law_holds hr (dq (vP 0) (dq (vP 2) (dq (vP 5) dz))))) (c_A_P (dx (vB 1) (vP 5))) (nomark _)) (dss_one (ds_ret (c_FC_R (de_bl)))) (dss_nil))))))
  (dss_cons (ds_for (L := []) PassesOwn.never rfl (di_range1 (by rfl) B.range_ (da_of (dq (c_FC_P (de_blt call_len_seq b_len (by rfl) B.len_ PySem.boot_len (dq (vP 0) dz))) dz))) (gN' (i := 7) sc.nd) (dss_cons (sA (i := 8) sc.nd (c_FC_A (de_op op_sub b_sub (c_A_P (dx (c_A_B (dx (vB 0) (vP 7))) iP)) (c_C_P (de_call h_law_cost hr (dq (vP 3) (dq (c_A_P (dx (c_A_B (dx (vB 0) (vP 7))) iP)) (dq (c_A_P (dx (c_A_B (dx (vB 0) (vP 7))) iP)) dz))))))))
  (dss_one (ds_if (dt_w (dw_or (dt_w (dw_and (dt_cmp op_lt b_lt (vP 8) iP (nomark _)) (dw_and1 (dt_cmp (op_inD hr.units) b_in (vP 7) (vP 2) (by with_unfolding_all rfl))))) (dw_or1 (dt_w (dw_and (dt_cmp op_gt b_gt (vP 8) iP (nomark _)) (dw_and1 (dt_cmp (op_notinD hr.units) b_notin (vP 7) (vP 2) (by with_unfolding_all rfl)))))))) (dss_one (ds_ret (c_FC_R (de_bl)))) (dss_nil)))))
  (dss_one (ds_ret (c_FC_R (de_bl))))))
theorem ok__law_other_choice (D : Dg K mg "_law_other_choice" (top 51) ["_law_choice", "_law_many", "_law_xs"]) (B : Bl mg) : Has P w K mg base (n + 1) "_law_other_choice" ["_law_choice", "_law_many", "_law_xs"] (spD K F__law_other_choice) := by
 have sc : FnScope ["_law_choice", "_law_many", "_law_xs", "_law_some"] ["_law_choice", "_law_many", "_law_xs"] (defScope (top 51)) := fsc
 exact dg_ok (fl := [.A, .A, .A, .O]) D sc (by decide) (by decide) fun f cdv A outer s H E hr => dss_cons (ds_setO (i := 3) rfl sc.nd rfl (by first | exact Or.inl rfl | exact Or.inr rfl) (de_list (vB 0) (by rfl) B.list_))
  (dss_cons (ds_if (dt_w (dw_and (dt_cmp (op_eqD hr.units) b_eq (c_FC_P (de_op op_modN b_mod (c_A_P (dx (vB 2) iP)) iP)) iP (nomark _)) (dw_and1 (dt_cmp (op_neD hr.units) b_ne (c_B_P (de_var 3)) (c_FC_P (de_lstC dz)) (nomark _))))) (dss_one (ds_popI (i := 3) rfl (c_FC_P (de_op op_modN b_mod (c_A_P (dx (vB 2) iP)) (c_FC_P (de_blt call_len_seq b_len (by rfl) B.len_ PySem.boot_len (dq (c_B_P (de_var 3)) dz))))) rfl)) (dss_one (ds_if (dt_w (dw_and (dt_cmp (op_eqD hr.units) b_eq (c_FC_P (de_op op_modN b_mod (c_A_P (dx (vB 2) iP)) iP)) iP (nomark _)) (dw_and1 (dt_cmp op_gt b_gt (vP 1) iP (nomark _))))) (dss_one (ds_setO (i := 3) rfl sc.nd rfl (by first | exact Or.inl rfl | exact Or.inr rfl) (c_FC_F (de_sorted (dq (c_F_P (de_cat (de_var 3) (c_A_B (c_FC_A (de_lstC (dq (c_FC_C (de_op op_modN b_mod (c_A_P (dx (vB 2) iP)) (vP 1))) dz)))))) dz) (by rfl) B.sorted_)))) (dss_one (ds_if (dt_cmp op_gt b_gt (vP 1) iP (nomark _)) (dss_one (ds_setO (i := 3) rfl sc.nd rfl (by first | exact Or.inl rfl | exact Or.inr rfl) (c_FC_F (de_sorted (dq (c_FC_P (de_comp (L := []) (fl' := [.A, .A, .A, .A]) rfl ["_law_at"] ["_law_some", "_law_many", "_law_xs"] [3, 1, 2] (di_range1 (by rfl) B.range_ (da_of (dq (vP 1) dz))) (fun _ _ _ _ _ => gN' (i := 0) (show (["_law_at", "_law_some", "_law_many", "_law_xs"] : List Str).Nodup by decide +kernel)) (fun _ _ _ _ _ => pts_one (dt_cmp (op_neD hr.units) b_ne (c_FC_P (de_cmp (op_inD hr.units) b_in (vP 0) (vP 1) (by with_unfolding_all rfl))) (c_FC_P (de_cmp (op_eqD hr.units) b_eq (vP 0) (c_FC_P (de_op op_modN b_mod (c_A_P (dx (vB 3) iP)) (vP 2))) (nomark _))) (nomark _))) (fun _ _ _ _ _ => c_FC_C (c_flat (vP 0))))) dz) (by rfl) B.sorted_)))) (dss_nil))))))
  (dss_one (ds_ret (de_varR 3 (by decide)))))
theorem ok__law_other_prices (D : Dg K mg "_law_other_prices" (top 52) ["_law_prices_here", "_law_nights", "_law_xs"]) (B : Bl mg) : Has P w K mg base (n + 1) "_law_other_prices" ["_law_prices_here", "_law_nights", "_law_xs"] (spD K F__law_other_prices) := by
 have sc : FnScope ["_law_prices_here", "_law_nights", "_law_xs", "_law_some", "_law_way", "_law_at", "_law_night", "_law_price"] ["_law_prices_here", "_law_nights", "_law_xs"] (defScope (top 52)) := fsc
 exact dg_ok (fl := [.A, .A, .A, .O, .A, .A, .A, .A]) D sc (by decide) (by decide) fun f cdv A outer s H E hr => dss_cons (ds_setO (i := 3) rfl sc.nd rfl (by first | exact Or.inl rfl | exact Or.inr rfl) (de_list (vB 0) (by rfl) B.list_))
  (dss_cons (sA (i := 4) sc.nd (c_FC_A (de_op op_modN b_mod (c_A_P (dx (vB 2) iP)) iP)))
  (dss_cons (ds_if (dt_w (dw_or (dt_cmp (op_eqD hr.units) b_eq (vP 4) iP (nomark _)) (dw_or1 (dt_cmp (op_eqD hr.units) b_eq (c_B_P (de_var 3)) (c_FC_P (de_lstC dz)) (nomark _))))) (dss_cons (ds_ins (i := 3) rfl (c_FC_P (de_op op_modN b_mod (c_A_P (dx (vB 2) iP)) (c_FC_P (de_op op_add b_add (c_FC_P (de_blt call_len_seq b_len (by rfl) B.len_ PySem.boot_len (dq (c_B_P (de_var 3)) dz))) iP)))) (c_C_A (de_tup rfl (dq (c_FC_C (de_op op_modN b_mod (c_A_P (dx (vB 2) iP)) (c_FC_P (de_op op_add b_add (vP 1) iP)))) (dq (c_FC_C (de_op op_add b_add iP (c_FC_P (de_op op_modN b_mod (c_A_P (dx (vB 2) iP)) iP)))) dz)))) rfl)
  (dss_cons (ds_if (dt_cmp (op_eqD hr.units) b_eq (c_FC_P (de_op op_modN b_mod (c_FC_P (de_op op_divG b_div (c_A_P (dx (vB 2) iP)) iP)) iP)) iP (nomark _)) (dss_one (ds_setO (i := 3) rfl sc.nd rfl (by first | exact Or.inl rfl | exact Or.inr rfl) (c_FC_F (de_sortP (dq (c_B_P (de_var 3)) dz) (by rfl) B.sorted_)))) (dss_nil))
  (dss_one (ds_ret (de_varR 3 (by decide)))))) (dss_nil))
  (dss_cons (sA (i := 5) sc.nd (c_FC_A (de_op op_modN b_mod (c_A_P (dx (vB 2) iP)) (c_FC_P (de_blt call_len_seq b_len (by rfl) B.len_ PySem.boot_len (dq (c_B_P (de_var 3)) dz))))))
  (dss_cons (ds_asg (dx (de_var 3) (vP 5)) (dg_tup rfl (dgs_cons (gN' (i := 6) sc.nd) (dgs_cons (gN' (i := 7) sc.nd) (dgs_nil)))))
  (dss_cons (ds_if (dt_cmp op_lt b_lt (vP 4) iP (nomark _)) (dss_one (ds_put (i := 3) rfl (de_tup rfl (dq (vA 6) (dq (c_FC_A (de_op op_add b_add (vP 7) (c_A_P (dx (c_A_B (c_FC_A (de_lstC (dq iC (dq (c_FC_C (de_neg iP)) (dq (c_FC_C (de_neg (vP 7))) (dq (c_FC_C (de_op op_modN b_mod (c_A_P (dx (vB 2) iP)) (c_FC_P (de_op op_pow b_pow iP iP)))) dz))))))) (c_FC_P (de_op op_modN b_mod (c_A_P (dx (vB 2) iP)) iP)))))) dz))) (vP 5) rfl)) (dss_one (ds_if (dt_cmp (op_eqD hr.units) b_eq (vP 4) iP (nomark _)) (dss_one (ds_popI (i := 3) rfl (vP 5) rfl)) (dss_one (ds_if (dt_cmp (op_eqD hr.units) b_eq (vP 4) iP (nomark _)) (dss_one (ds_put (i := 3) rfl (de_tup rfl (dq (c_FC_A (de_op op_add b_add (vP 6) (c_A_P (dx (c_A_B (c_F_A (de_lstA (dq (c_FC_A (de_int)) (dq (c_FC_A (de_neg iP)) (dq (vA 1) (dq (c_FC_A (de_neg (vP 1))) dz))))))) (c_FC_P (de_op op_modN b_mod (c_A_P (dx (vB 2) iP)) iP)))))) (dq (vA 7) dz))) (vP 5) rfl)) (dss_one (ds_rev (i := 3) rfl rfl)))))))
  (dss_one (ds_ret (de_varR 3 (by decide)))))))))
theorem ok__law_told (D : Dg K mg "_law_told" (top 53) ["_law_wishes_here", "_law_free_here", "_law_choice", "_law_prices_here", "_law_due"]) (B : Bl mg) (his_best : Has P w K mg base n "is_best" ["wishes", "free", "choice", "prices"] (spD K F_is_best)) : Has P w K mg base (n + 1) "_law_told" ["_law_wishes_here", "_law_free_here", "_law_choice", "_law_prices_here", "_law_due"] (spD K F__law_told) := by
 have sc : FnScope ["_law_wishes_here", "_law_free_here", "_law_choice", "_law_prices_here", "_law_due", "_law_kept", "_law_handed", "_law_found"] ["_law_wishes_here", "_law_free_here", "_law_choice", "_law_prices_here", "_law_due"] (defScope (top 53)) := fsc
 exact dg_ok (fl := [.A, .A, .A, .A, .A, .A, .A, .A]) D sc (by decide) (by decide) fun f cdv A outer s H E hr => dss_cons (sA (i := 5) sc.nd (de_tup rfl (dq (c_F_A (de_list (vB 2) (by rfl) B.list_)) (dq (c_F_A (de_list (vB 3) (by rfl) B.list_)) dz))))
  (dss_cons (sA (i := 6) sc.nd (de_tup rfl (dq (c_F_A (de_list (vB 0) (by rfl) B.list_)) (dq (c_F_A (de_list (vB 1) (by rfl) B.list_)) dz))))
  (dss_cons (sA (i := 7) sc.nd (c_C_A (de_call his_best hr (dq (c_A_P (dx (vB 6) iP)) (dq (c_A_P (dx (vB 6) iP)) (dq (vP 2) (dq (vP 3) dz)))))))
  (dss_cons (ds_if (dt_w (dw_or (dt_cmp (op_neD hr.units) b_ne (vP 6) (c_A_P (de_tup rfl (dq (vA 0) (dq (vA 1) dz)))) (nomark _)) (dw_or1 (dt_cmp (op_neD hr.units) b_ne (vP 5) (c_A_P (de_tup rfl (dq (vA 2) (dq (vA 3) dz)))) (nomark _))))) (dss_one (ds_ret (c_FC_R (de_bl)))) (dss_nil))
  (dss_one (ds_ret (c_FC_R (de_and (c_FC_P (de_isi (T := "bool") (by decide) (vP 7) (by rfl) B.isinstance_ (by rfl) B.bool_ PyProof.Rows.boot_bool)) (de_one (de_cmp (op_eqD hr.units) b_eq (vP 7) (vP 4) (nomark _))))))))))
theorem ok__law_odd (D : Dg K mg "_law_odd" (top 54) ["_law_wishes_here", "_law_free_here", "_law_choice", "_law_prices_here"]) (B : Bl mg) (his_best : Has P w K mg base n "is_best" ["wishes", "free", "choice", "prices"] (spD K F_is_best)) : Has P w K mg base (n + 1) "_law_odd" ["_law_wishes_here", "_law_free_here", "_law_choice", "_law_prices_here"] (spD K F__law_odd) := by
 have sc : FnScope ["_law_wishes_here", "_law_free_here", "_law_choice", "_law_prices_here", "_law_thing"] ["_law_wishes_here", "_law_free_here", "_law_choice", "_law_prices_here"] (defScope (top 54)) := fsc
 exact dg_ok (fl := [.A, .A, .A, .A, .A]) D sc (by decide) (by decide) fun f cdv A outer s H E hr => dss_cons (ds_for (L := []) PassesOwn.never rfl (di_list (c_A_B (c_F_A (de_lstA (dq (c_FC_A (de_non)) (dq (c_FC_A (de_int)) (dq (c_FC_A (de_bl)) (dq (c_FC_A (de_str)) (dq (c_C_A (de_tup rfl dz)) (dq (c_C_A (c_T_C (de_dicT))) (dq (c_FC_A (de_lstC (dq (c_FC_C (de_non)) dz))) (dq (c_FC_A (de_lstC (dq (c_FC_C (de_bl)) dz))) (dq (c_FC_A (de_lstC (dq (c_FC_C (de_str)) dz))) (dq (c_FC_A (de_lstC (dq (c_FC_C (de_lstC (dq iC dz))) dz))) (dq (c_FC_A (de_lstC (dq (de_tup rfl (dq iC (dq iC dz))) dz))) (dq (de_tupL (vB 2) (by rfl) B.tuple_) dz)))))))))))))))) (gN' (i := 4) sc.nd) (dss_one (ds_if (dt_notF (c_C_P (de_call his_best hr (dq (vP 0) (dq (vP 1) (dq (vP 4) (dq (vP 3) dz))))))) (dss_one (ds_ret (c_FC_R (de_bl)))) (dss_nil))))
  (dss_cons (ds_for (L := []) PassesOwn.never rfl (di_list (c_A_B (c_FC_A (de_lstC (dq (c_FC_C (de_non)) (dq iC (dq (c_FC_C (de_str)) (dq (de_tup rfl dz) (dq (c_T_C (de_dicT)) (dq (c_FC_C (de_lstC (dq (c_FC_C (de_non)) dz))) (dq (c_FC_C (de_lstC (dq iC dz))) (dq (c_FC_C (de_lstC (dq (c_FC_C (de_lstC (dq iC (dq iC dz)))) dz))) (dq (c_FC_C (de_lstC (dq (de_tup rfl (dq iC dz)) dz))) (dq (c_FC_C (de_lstC (dq (de_tup rfl (dq iC (dq iC (dq iC dz)))) dz))) (dq (c_FC_C (de_lstC (dq (de_tup rfl (dq iC (dq (c_FC_C (de_bl)) dz))) dz))) (dq (c_FC_C (de_lstC (dq (de_tup rfl (dq (c_FC_C (de_bl)) (dq iC dz))) dz))) dz)))))))))))))))) (gN' (i := 4) sc.nd) (dss_one (ds_if (dt_notF (c_C_P (de_call his_best hr (dq (vP 0) (dq (vP 1) (dq (vP 2) (dq (vP 4) dz))))))) (dss_one (ds_ret (c_FC_R (de_bl)))) (dss_nil))))
  (dss_cons (ds_for (L := []) PassesOwn.never rfl (di_list (c_A_B (c_F_A (de_lstA (dq (de_tupL (vB 3) (by rfl) B.tuple_) (dq (c_C_A (de_dictL hr.hd (dq (vP 3) dz) (by rfl) B.dict_)) (dq (c_FC_A (de_lstC (dq (de_tup rfl (dq (c_FC_C (de_str)) (dq iC dz))) dz))) (dq (c_FC_A (de_lstC (dq (de_tup rfl (dq iC (dq (c_FC_C (de_non)) dz))) dz))) (dq (c_FC_A (de_lstC (dq (de_tup rfl (dq iC (dq (c_FC_C (de_str)) dz))) dz))) (dq (c_FC_A (de_lstC (dq (de_tup rfl (dq (c_FC_C (de_non)) (dq iC dz))) dz))) (dq (c_FC_A (de_lstC (dq (de_tup rfl (dq iC (dq (de_tup rfl (dq iC (dq iC dz))) dz))) dz))) dz))))))))))) (gN' (i := 4) sc.nd) (dss_one (ds_if (dt_notF (c_C_P (de_call his_best hr (dq (vP 0) (dq (vP 1) (dq (vP 2) (dq (vP 4) dz))))))) (dss_one (ds_ret (c_FC_R (de_bl)))) (dss_nil))))
  (dss_one (ds_ret (c_FC_R (de_bl))))))
theorem fn_law {f : Addr} {fd : FuncData} (Fn : FunD K "law" (top 55) f fd) (B : Bl mg) (his_best : Has P w K mg base n "is_best" ["wishes", "free", "choice", "prices"] (spD K F_is_best)) (hby_turns : Has P w K mg base n "by_turns" ["wishes", "free"] (spD K F_by_turns)) (hbest : Has P w K mg base n "best" ["wishes", "free"] (spL K F_best)) (h_law_row : Has P w K mg base n "_law_row" ["_law_script", "_law_at", "_law_many"] (spD K F__law_row)) (h_law_free : Has P w K mg base n "_law_free" ["_law_script", "_law_nights"] (spD K F__law_free)) (h_law_wishes : Has P w K mg base n "_law_wishes" ["_law_script", "_law_nights", "_law_many"] (spD K F__law_wishes)) (h_law_prices : Has P w K mg base n "_law_prices" ["_law_script", "_law_at", "_law_free_here"] (spD K F__law_prices)) (h_law_is_best : Has P w K mg base n "_law_is_best" ["_law_wishes_here", "_law_free_here", "_law_choice", "_law_prices_here"] (spD K F__law_is_best)) (h_law_other_choice : Has P w K mg base n "_law_other_choice" ["_law_choice", "_law_many", "_law_xs"] (spD K F__law_other_choice)) (h_law_other_prices : Has P w K mg base n "_law_other_prices" ["_law_prices_here", "_law_nights", "_law_xs"] (spD K F__law_other_prices)) (h_law_told : Has P w K mg base n "_law_told" ["_law_wishes_here", "_law_free_here", "_law_choice", "_law_prices_here", "_law_due"] (spD K F__law_told)) (h_law_odd : Has P w K mg base n "_law_odd" ["_law_wishes_here", "_law_free_here", "_law_choice", "_law_prices_here"] (spD K F__law_odd)) : FnOk P w K mg base CX0 (n + 1) f fd ["_law_script"] (spD K F_law) := by
 have sc : FnScope ["_law_script", "_law_xs", "_law_great", "_law_free_here", "_law_wishes_here", "_law_worth", "_law_choice", "_law_prices_here", "_law_some", "_law_k", "_law_other", "_law_others", "_law_one"] ["_law_script"] (defScope (top 55)) := fsc
 exact fun_ok (fl := [.A, .A, .A, .A, .A, .A, .A, .A, .A, .A, .A, .A, .A]) Fn sc (by decide) (by decide) fun f cdv A outer s H E hr => dss_cons (sA (i := 1) sc.nd (c_C_A (de_call h_law_row hr (dq (vP 0) (dq iP (dq iP dz))))))
  (dss_cons (sA (i := 2) sc.nd (c_FC_A (de_intc (dq (c_FC_P (de_cmp (op_eqD hr.units) b_eq (c_FC_P (de_op op_modN b_mod (c_A_P (dx (vB 1) iP)) iP)) iP (nomark _))) dz) (by rfl) B.int_)))
  (dss_cons (sA (i := 3) sc.nd (c_C_A (de_call h_law_free hr (dq (vP 0) (dq (c_A_P (dx (c_A_B (c_FC_A (de_lstC (dq (c_FC_C (de_op op_add b_add iP (c_FC_P (de_op op_modN b_mod (c_A_P (dx (vB 1) iP)) iP)))) (dq iC dz))))) (vP 2))) dz)))))
  (dss_cons (sA (i := 4) sc.nd (c_C_A (de_call h_law_wishes hr (dq (vP 0) (dq (c_FC_P (de_blt call_len_seq b_len (by rfl) B.len_ PySem.boot_len (dq (vP 3) dz))) (dq (c_A_P (dx (c_A_B (c_FC_A (de_lstC (dq (c_FC_C (de_op op_modN b_mod (c_A_P (dx (vB 1) iP)) iP)) (dq iC dz))))) (vP 2))) dz))))))
  (dss_cons (ds_asg (c_PA rfl (de_callL hbest hr (dq (vP 4) (dq (vP 3) dz)))) (dg_tup rfl (dgs_cons (gN' (i := 5) sc.nd) (dgs_cons (gN' (i := 6) sc.nd) (dgs_cons (gN' (i := 7) sc.nd) (dgs_nil))))))
  (dss_cons (sA (i := 8) sc.nd (c_F_A (de_lstA (dq (de_tup rfl (dq (vA 6) (dq (vA 7) dz))) (dq (c_C_A (de_tup rfl (dq (de_call hby_turns hr (dq (vP 4) (dq (vP 3) dz))) (dq (de_call h_law_prices hr (dq (vP 0) (dq iP (dq (vP 3) dz)))) dz)))) (dq (de_tup rfl (dq (vA 6) (dq (c_FC_A (de_lstC dz)) dz))) dz))))))
  (dss_cons (ds_for (L := []) PassesOwn.never rfl (di_range1 (by rfl) B.range_ (da_of (dq iP dz))) (gN' (i := 9) sc.nd) (dss_cons (sA (i := 10) sc.nd (c_C_A (de_call h_law_other_choice hr (dq (vP 6) (dq (c_FC_P (de_blt call_len_seq b_len (by rfl) B.len_ PySem.boot_len (dq (vP 4) dz))) (dq (c_F_P (de_sl (vB 1) (do_part (c_FC_P (de_op op_add b_add iP (c_FC_P (de_op op_mulG b_mul iP (vP 9)))))) do_none)) dz))))))
  (dss_cons (sA (i := 11) sc.nd (c_C_A (de_call h_law_other_prices hr (dq (vP 7) (dq (c_FC_P (de_blt call_len_seq b_len (by rfl) B.len_ PySem.boot_len (dq (vP 3) dz))) (dq (c_F_P (de_sl (vB 1) (do_part (c_FC_P (de_op op_add b_add iP (c_FC_P (de_op op_mulG b_mul iP (vP 9)))))) do_none)) dz))))))
  (dss_one (sA (i := 8) sc.nd (c_F_A (de_cat (vB 8) (c_A_B (c_F_A (de_lstA (dq (de_tup rfl (dq (vA 10) (dq (vA 7) dz))) (dq (de_tup rfl (dq (vA 6) (dq (vA 11) dz))) (dq (de_tup rfl (dq (vA 10) (dq (vA 11) dz))) dz)))))))))))))
  (dss_cons (ds_for (L := []) PassesOwn.never rfl (di_list (c_A_B (c_F_A (de_cat (vB 8) (c_A_B (c_F_A (de_back (vB 8) (c_FC_P (de_neg iP))))))))) (dg_tup rfl (dgs_cons (gN' (i := 12) sc.nd) (dgs_cons (gN' (i := 10) sc.nd) (dgs_nil)))) (dss_one (ds_if (dt_not (dt_val (c_C_P (de_call h_law_told hr (dq (vP 4) (dq (vP 3) (dq (vP 12) (dq (vP 10) (dq (c_C_P (de_call h_law_is_best hr (dq (vP 4) (dq (vP 3) (dq (vP 12) (dq (vP 10) dz)))))) dz))))))))) (dss_one (ds_ret (c_FC_R (de_bl)))) (dss_nil))))
  (dss_cons (ds_if (dt_w (dw_or (dt_notT (c_C_P (de_call his_best hr (dq (c_FC_P (de_lstC dz)) (dq (c_FC_P (de_lstC dz)) (dq (c_FC_P (de_lstC dz)) (dq (c_FC_P (de_lstC dz)) dz))))))) (dw_or1 (dt_notT (c_C_P (de_call his_best hr (dq (vP 4) (dq (vP 3) (dq (vP 6) (dq (vP 7) dz)))))))))) (dss_one (ds_ret (c_FC_R (de_bl)))) (dss_nil))
  (dss_one (ds_ret (c_C_R (de_call h_law_odd hr (dq (vP 4) (dq (vP 3) (dq (vP 6) (dq (vP 7) dz))))))))))))))))
end
end K55
namespace D3
theorem len0 {p : List PySem.Value → Prop} (h : p []) : ∀ us, us.length = 0 → p us := fun us hl => by
 cases us with
 | nil => exact h
 | cons _ _ => cases hl
theorem lenS {n : Nat} {p : List PySem.Value → Prop} (h : ∀ a us, us.length = n → p (a :: us)) : ∀ us, us.length = n + 1 → p us := fun us hl => by
 cases us with
 | nil => cases hl
 | cons a r => exact h a r (Nat.succ.inj hl)
end D3
namespace K55
open PySem L2 My D3
structure Txt (K : PySem.W.Frag) (mg : Str → Option Value) : Prop where
 d_is_whole : Dg K mg "is_whole" (top 4) ["thing"]
 d_all_whole : Dg K mg "all_whole" (top 5) ["things"]
 d_is_tuple_of : Dg K mg "is_tuple_of" (top 6) ["thing", "many"]
 d_is_pair : Dg K mg "is_pair" (top 7) ["thing"]
 d_is_whole_list : Dg K mg "is_whole_list" (top 8) ["thing"]
 d_is_rising : Dg K mg "is_rising" (top 9) ["numbers"]
 d_nights_of : Dg K mg "nights_of" (top 11) ["stay"]
 d_holds : Dg K mg "holds" (top 12) ["stretch", "night"]
 d_count_at : Dg K mg "count_at" (top 13) ["stretches", "night"]
 d_is_wish_for : Dg K mg "is_wish_for" (top 16) ["wish", "free"]
 d_check_wishes : Dg K mg "check_wishes" (top 17) ["wishes", "free"]
 d_cost : Dg K mg "cost" (top 18) ["prices", "first", "behind"]
 d_worth_of : Dg K mg "worth_of" (top 19) ["wishes", "choice"]
 d_held_at : Dg K mg "held_at" (top 20) ["wishes", "choice", "night"]
 d_fits : Dg K mg "fits" (top 21) ["wishes", "free", "choice"]
 d_is_place_list : Dg K mg "is_place_list" (top 22) ["wishes", "thing"]
 d_is_choice : Dg K mg "is_choice" (top 23) ["wishes", "free", "thing"]
 d_is_price : Dg K mg "is_price" (top 24) ["free", "thing"]
 d_is_price_list : Dg K mg "is_price_list" (top 25) ["free", "thing"]
 d_gain : Dg K mg "gain" (top 26) ["wish", "prices"]
 d_sold_out : Dg K mg "sold_out" (top 27) ["wishes", "free", "choice", "prices"]
 d_is_best : Dg K mg "is_best" (top 28) ["wishes", "free", "choice", "prices"]
 d_has_room : Dg K mg "has_room" (top 29) ["wishes", "free", "choice", "wish"]
 d_by_turns : Dg K mg "by_turns" (top 30) ["wishes", "free"]
 d_ways_of_wish : Dg K mg "ways_of_wish" (top 32) ["wish", "place", "choice"]
 d_all_ways : Dg K mg "all_ways" (top 33) ["wishes", "free", "choice"]
 d_cheapest : Dg K mg "cheapest" (top 34) ["costs", "ways"]
 d_places_on_the_way : Dg K mg "places_on_the_way" (top 35) ["came", "start", "goal"]
 d_with_one_more : Dg K mg "with_one_more" (top 36) ["wishes", "free", "choice", "place"]
 d_prices_of : Dg K mg "prices_of" (top 37) ["wishes", "free", "choice"]
 d_best : Dg K mg "best" (top 38) ["wishes", "free"]
 d__law_cell : Dg K mg "_law_cell" (top 40) ["_law_script", "_law_at"]
 d__law_part : Dg K mg "_law_part" (top 41) ["_law_script", "_law_at", "_law_k", "_law_many"]
 d__law_row : Dg K mg "_law_row" (top 42) ["_law_script", "_law_at", "_law_many"]
 d__law_free : Dg K mg "_law_free" (top 44) ["_law_script", "_law_nights"]
 d__law_wishes : Dg K mg "_law_wishes" (top 45) ["_law_script", "_law_nights", "_law_many"]
 d__law_prices : Dg K mg "_law_prices" (top 46) ["_law_script", "_law_at", "_law_free_here"]
 d__law_cost : Dg K mg "_law_cost" (top 47) ["_law_prices_here", "_law_first", "_law_behind"]
 d__law_holds : Dg K mg "_law_holds" (top 48) ["_law_wishes_here", "_law_some", "_law_night"]
 d__law_is_choice : Dg K mg "_law_is_choice" (top 49) ["_law_wishes_here", "_law_free_here", "_law_some"]
 d__law_is_best : Dg K mg "_law_is_best" (top 50) ["_law_wishes_here", "_law_free_here", "_law_choice", "_law_prices_here"]
 d__law_other_choice : Dg K mg "_law_other_choice" (top 51) ["_law_choice", "_law_many", "_law_xs"]
 d__law_other_prices : Dg K mg "_law_other_prices" (top 52) ["_law_prices_here", "_law_nights", "_law_xs"]
 d__law_told : Dg K mg "_law_told" (top 53) ["_law_wishes_here", "_law_free_here", "_law_choice", "_law_prices_here", "_law_due"]
 d__law_odd : Dg K mg "_law_odd" (top 54) ["_law_wishes_here", "_law_free_here", "_law_choice", "_law_prices_here"]
 d_law : Dl K mg "law" "_law_script" (top 55)
 blt : Bl mg
 c_MOST_WORTH : ∃ t, mg "MOST_WORTH" = some (.int 1000000000 t)
theorem law_fn {P : Program} {w : World} {K : PySem.W.Frag} {mg : Str → Option Value} {base : Heap} (T : Txt K mg) {f : Addr} {fd : FuncData} (F : FunD K "law" (top 55) f fd) : FnOk P w K mg base CX0 65 f fd ["_law_script"] (spLaw K) := by
 have h_is_whole := ok_is_whole (P := P) (w := w) (base := base) (n := 0) T.d_is_whole T.blt
 have h_is_rising := ok_is_rising (P := P) (w := w) (base := base) (n := 0) T.d_is_rising T.blt
 have h_nights_of := ok_nights_of (P := P) (w := w) (base := base) (n := 0) T.d_nights_of T.blt
 have h_holds := ok_holds (P := P) (w := w) (base := base) (n := 0) T.d_holds T.blt
 have h_is_wish_for := ok_is_wish_for (P := P) (w := w) (base := base) (n := 0) T.d_is_wish_for T.blt T.c_MOST_WORTH
 have h_cost := ok_cost (P := P) (w := w) (base := base) (n := 0) T.d_cost T.blt
 have h_worth_of := ok_worth_of (P := P) (w := w) (base := base) (n := 0) T.d_worth_of T.blt
 have h_ways_of_wish := ok_ways_of_wish (P := P) (w := w) (base := base) (n := 0) T.d_ways_of_wish T.blt
 have h_cheapest := ok_cheapest (P := P) (w := w) (base := base) (n := 0) T.d_cheapest T.blt
 have h_places_on_the_way := ok_places_on_the_way (P := P) (w := w) (base := base) (n := 0) T.d_places_on_the_way T.blt
 have h__law_cell := ok__law_cell (P := P) (w := w) (base := base) (n := 0) T.d__law_cell T.blt
 have h__law_cost := ok__law_cost (P := P) (w := w) (base := base) (n := 0) T.d__law_cost T.blt
 have h__law_holds := ok__law_holds (P := P) (w := w) (base := base) (n := 0) T.d__law_holds T.blt
 have h__law_other_choice := ok__law_other_choice (P := P) (w := w) (base := base) (n := 0) T.d__law_other_choice T.blt
 have h__law_other_prices := ok__law_other_prices (P := P) (w := w) (base := base) (n := 0) T.d__law_other_prices T.blt
 have h_all_whole := ok_all_whole (P := P) (w := w) (base := base) (n := 1) T.d_all_whole T.blt (h_is_whole.mono (by decide))
 have h_count_at := ok_count_at (P := P) (w := w) (base := base) (n := 1) T.d_count_at T.blt (h_holds.mono (by decide))
 have h_check_wishes := ok_check_wishes (P := P) (w := w) (base := base) (n := 1) T.d_check_wishes T.blt (h_is_wish_for.mono (by decide))
 have h_gain := ok_gain (P := P) (w := w) (base := base) (n := 1) T.d_gain T.blt (h_cost.mono (by decide))
 have h__law_part := ok__law_part (P := P) (w := w) (base := base) (n := 1) T.d__law_part T.blt (h__law_cell.mono (by decide))
 have h__law_is_choice := ok__law_is_choice (P := P) (w := w) (base := base) (n := 1) T.d__law_is_choice T.blt (h__law_holds.mono (by decide))
 have h_is_tuple_of := ok_is_tuple_of (P := P) (w := w) (base := base) (n := 2) T.d_is_tuple_of T.blt (h_all_whole.mono (by decide))
 have h_is_whole_list := ok_is_whole_list (P := P) (w := w) (base := base) (n := 2) T.d_is_whole_list T.blt (h_all_whole.mono (by decide))
 have h_held_at := ok_held_at (P := P) (w := w) (base := base) (n := 2) T.d_held_at T.blt (h_nights_of.mono (by decide)) (h_count_at.mono (by decide))
 have h__law_row := ok__law_row (P := P) (w := w) (base := base) (n := 2) T.d__law_row T.blt (h__law_part.mono (by decide))
 have h__law_is_best := ok__law_is_best (P := P) (w := w) (base := base) (n := 2) T.d__law_is_best T.blt (h__law_cost.mono (by decide)) (h__law_holds.mono (by decide)) (h__law_is_choice.mono (by decide))
 have h_is_pair := ok_is_pair (P := P) (w := w) (base := base) (n := 3) T.d_is_pair T.blt (h_is_tuple_of.mono (by decide))
 have h_fits := ok_fits (P := P) (w := w) (base := base) (n := 3) T.d_fits T.blt (h_held_at.mono (by decide))
 have h_is_place_list := ok_is_place_list (P := P) (w := w) (base := base) (n := 3) T.d_is_place_list T.blt (h_is_whole_list.mono (by decide)) (h_is_rising.mono (by decide))
 have h_sold_out := ok_sold_out (P := P) (w := w) (base := base) (n := 3) T.d_sold_out T.blt (h_held_at.mono (by decide))
 have h_has_room := ok_has_room (P := P) (w := w) (base := base) (n := 3) T.d_has_room T.blt (h_nights_of.mono (by decide)) (h_holds.mono (by decide)) (h_held_at.mono (by decide))
 have h_all_ways := ok_all_ways (P := P) (w := w) (base := base) (n := 3) T.d_all_ways T.blt (h_held_at.mono (by decide)) (h_ways_of_wish.mono (by decide))
 have h__law_free := ok__law_free (P := P) (w := w) (base := base) (n := 3) T.d__law_free T.blt (h__law_row.mono (by decide))
 have h__law_wishes := ok__law_wishes (P := P) (w := w) (base := base) (n := 3) T.d__law_wishes T.blt (h__law_row.mono (by decide))
 have h__law_prices := ok__law_prices (P := P) (w := w) (base := base) (n := 3) T.d__law_prices T.blt (h__law_row.mono (by decide))
 have h_is_choice := ok_is_choice (P := P) (w := w) (base := base) (n := 4) T.d_is_choice T.blt (h_check_wishes.mono (by decide)) (h_fits.mono (by decide)) (h_is_place_list.mono (by decide))
 have h_is_price := ok_is_price (P := P) (w := w) (base := base) (n := 4) T.d_is_price T.blt (h_is_pair.mono (by decide))
 have h_by_turns := ok_by_turns (P := P) (w := w) (base := base) (n := 4) T.d_by_turns T.blt (h_check_wishes.mono (by decide)) (h_has_room.mono (by decide))
 have h_with_one_more := ok_with_one_more (P := P) (w := w) (base := base) (n := 4) T.d_with_one_more T.blt (h_all_ways.mono (by decide)) (h_cheapest.mono (by decide)) (h_places_on_the_way.mono (by decide))
 have h_prices_of := ok_prices_of (P := P) (w := w) (base := base) (n := 4) T.d_prices_of T.blt (h_all_ways.mono (by decide)) (h_cheapest.mono (by decide))
 have h_is_price_list := ok_is_price_list (P := P) (w := w) (base := base) (n := 5) T.d_is_price_list T.blt (h_is_rising.mono (by decide)) (h_is_price.mono (by decide))
 have h_best := ok_best (P := P) (w := w) (base := base) (n := 5) T.d_best T.blt (h_check_wishes.mono (by decide)) (h_worth_of.mono (by decide)) (h_with_one_more.mono (by decide)) (h_prices_of.mono (by decide))
 have h_is_best := ok_is_best (P := P) (w := w) (base := base) (n := 6) T.d_is_best T.blt (h_is_choice.mono (by decide)) (h_is_price_list.mono (by decide)) (h_gain.mono (by decide)) (h_sold_out.mono (by decide))
 have h__law_told := ok__law_told (P := P) (w := w) (base := base) (n := 7) T.d__law_told T.blt (h_is_best.mono (by decide))
 have h__law_odd := ok__law_odd (P := P) (w := w) (base := base) (n := 7) T.d__law_odd T.blt (h_is_best.mono (by decide))
 exact ((fn_law (P := P) (w := w) (base := base) (n := 8) F T.blt (h_is_best.mono (by decide)) (h_by_turns.mono (by decide)) (h_best.mono (by decide)) (h__law_row.mono (by decide)) (h__law_free.mono (by decide)) (h__law_wishes.mono (by decide)) (h__law_prices.mono (by decide)) (h__law_is_best.mono (by decide)) (h__law_other_choice.mono (by decide)) (h__law_other_prices.mono (by decide)) (h__law_told.mono (by decide)) (h__law_odd.mono (by decide))).mono (by decide)).imp (law_imp K55.law_true)
end K55
def PySem.W.Fast.tw8185867955007618081 := 0
def PySem.W.Fast.tw12299670127254664329 := 0
def PySem.W.Fast.tw16769469949875340142 := 0
def PySem.W.Fast.tw10841251593845658283 := 0
def PySem.W.Fast.tw1877635478883184489 := 0
def PySem.W.Fast.tw8493218441037931767 := 0
def PySem.W.Fast.tw2115508059681561580 := 0
def PySem.W.Fast.tw13295242003985128217 := 0
def PySem.W.Fast.tw15541920460052750618 := 0
def PySem.W.Fast.tw16958606965877490836 := 0
def PySem.W.Fast.tw13484753505109626536 := 0
def PySem.W.Fast.tw7599792147767700143 := 0
def PySem.W.Fast.tw6105378674264113395 := 0
def PySem.W.Fast.tw11828437179797342135 := 0
def PySem.W.Fast.tw11872643670385062630 := 0
def PySem.W.Fast.tw16140112770817221137 := 0
def PySem.W.Fast.tw5311585923574066641 := 0
def PySem.W.Fast.tw10470886583060541632 := 0
open PySem PySem.W PyProof.Rows
set_option maxRecDepth 100000 in
set_option maxHeartbeats 0 in
theorem PySem.Challenge.cw_nightbook_k55_papers_looked_at_holds : PySem.Challenge.rw_nightbook_k55_papers_looked_at.Holds := by
 w_on; o_law; k_head; (case hw => w_witness2)
 k_fill
 refine L2.walk_ofK (l := PySem.Challenge.rw_nightbook_k55_papers_looked_at) (n := 63) (k := 65) (x := "_law_script") (CX := L2.CX0) (sp := D3.spLaw) rfl (by decide) rfl ⟨rfl, by decide, by decide⟩ (fun w h Y => PySem.W.kIn_of Y) ?F D3.tabs (fun _ _ _ => ⟨(fun _ h => nomatch (show _ ∈ ([] : List (Addr × Str × Pos)) from h)), (fun _ h => nomatch (show _ ∈ ([] : List (Addr × Str × Pos)) from h)), (fun _ h => nomatch (show _ ∈ ([] : List (Addr × Str × Pos)) from h))⟩) (fun _ h => nomatch (show _ ∈ ([] : List (Addr × Str × Pos)) from h)) ?S ?C
 case F =>
  intro w mg fa h KX G hmg
  have T : K55.Txt (L2.KOf KX) mg := by
   dsimp only [L2.KOf]
   have d_is_whole : D3.Dg (L2.KOf KX) mg "is_whole" (K55.top 4) ["thing"] := by
    dsimp only [L2.KOf]
    refine' D3.dg_mk KX G ?b ?a ?l ?c ?k
    (case a => k_is); (case l => k_is); (case c => k_is); (case k => k_is)
    (case b => exact fun _ _ _ _ _ _ => D3.lenS fun _ => D3.len0 rfl)
   have d_all_whole : D3.Dg (L2.KOf KX) mg "all_whole" (K55.top 5) ["things"] := by
    dsimp only [L2.KOf]
    refine' D3.dg_mk KX G ?b ?a ?l ?c ?k
    (case a => k_is); (case l => k_is); (case c => k_is); (case k => k_is)
    (case b => exact fun _ _ _ _ _ _ => D3.lenS fun _ => D3.len0 rfl)
   have d_is_tuple_of : D3.Dg (L2.KOf KX) mg "is_tuple_of" (K55.top 6) ["thing", "many"] := by
    dsimp only [L2.KOf]
    refine' D3.dg_mk KX G ?b ?a ?l ?c ?k
    (case a => k_is); (case l => k_is); (case c => k_is); (case k => k_is)
    (case b => exact fun _ _ _ _ _ _ => D3.lenS fun _ => D3.lenS fun _ => D3.len0 rfl)
   have d_is_pair : D3.Dg (L2.KOf KX) mg "is_pair" (K55.top 7) ["thing"] := by
    dsimp only [L2.KOf]
    refine' D3.dg_mk KX G ?b ?a ?l ?c ?k
    (case a => k_is); (case l => k_is); (case c => k_is); (case k => k_is)
    (case b => exact fun _ _ _ _ _ _ => D3.lenS fun _ => D3.len0 rfl)
   have d_is_whole_list : D3.Dg (L2.KOf KX) mg "is_whole_list" (K55.top 8) ["thing"] := by
    dsimp only [L2.KOf]
    refine' D3.dg_mk KX G ?b ?a ?l ?c ?k
    (case a => k_is); (case l => k_is); (case c => k_is); (case k => k_is)
    (case b => exact fun _ _ _ _ _ _ => D3.lenS fun _ => D3.len0 rfl)
   have d_is_rising : D3.Dg (L2.KOf KX) mg "is_rising" (K55.top 9) ["numbers"] := by
    dsimp only [L2.KOf]
    refine' D3.dg_mk KX G ?b ?a ?l ?c ?k
    (case a => k_is); (case l => k_is); (case c => k_is); (case k => k_is)
    (case b => exact fun _ _ _ _ _ _ => D3.lenS fun _ => D3.len0 rfl)
   have d_nights_of : D3.Dg (L2.KOf KX) mg "nights_of" (K55.top 11) ["stay"] := by
    dsimp only [L2.KOf]
    refine' D3.dg_mk KX G ?b ?a ?l ?c ?k
    (case a => k_is); (case l => k_is); (case c => k_is); (case k => k_is)
    (case b => exact fun _ _ _ _ _ _ => D3.lenS fun _ => D3.len0 rfl)
   have d_holds : D3.Dg (L2.KOf KX) mg "holds" (K55.top 12) ["stretch", "night"] := by
    dsimp only [L2.KOf]
    refine' D3.dg_mk KX G ?b ?a ?l ?c ?k
    (case a => k_is); (case l => k_is); (case c => k_is); (case k => k_is)
    (case b => exact fun _ _ _ _ _ _ => D3.lenS fun _ => D3.lenS fun _ => D3.len0 rfl)
   have d_count_at : D3.Dg (L2.KOf KX) mg "count_at" (K55.top 13) ["stretches", "night"] := by
    dsimp only [L2.KOf]
    refine' D3.dg_mk KX G ?b ?a ?l ?c ?k
    (case a => k_is); (case l => k_is); (case c => k_is); (case k => k_is)
    (case b => exact fun _ _ _ _ _ _ => D3.lenS fun _ => D3.lenS fun _ => D3.len0 rfl)
   have d_is_wish_for : D3.Dg (L2.KOf KX) mg "is_wish_for" (K55.top 16) ["wish", "free"] := by
    dsimp only [L2.KOf]
    refine' D3.dg_mk KX G ?b ?a ?l ?c ?k
    (case a => k_is); (case l => k_is); (case c => k_is); (case k => k_is)
    (case b => exact fun _ _ _ _ _ _ => D3.lenS fun _ => D3.lenS fun _ => D3.len0 rfl)
   have d_check_wishes : D3.Dg (L2.KOf KX) mg "check_wishes" (K55.top 17) ["wishes", "free"] := by
    dsimp only [L2.KOf]
    refine' D3.dg_mk KX G ?b ?a ?l ?c ?k
    (case a => k_is); (case l => k_is); (case c => k_is); (case k => k_is)
    (case b => exact fun _ _ _ _ _ _ => D3.lenS fun _ => D3.lenS fun _ => D3.len0 rfl)
   have d_cost : D3.Dg (L2.KOf KX) mg "cost" (K55.top 18) ["prices", "first", "behind"] := by
    dsimp only [L2.KOf]
    refine' D3.dg_mk KX G ?b ?a ?l ?c ?k
    (case a => k_is); (case l => k_is); (case c => k_is); (case k => k_is)
    (case b => exact fun _ _ _ _ _ _ => D3.lenS fun _ => D3.lenS fun _ => D3.lenS fun _ => D3.len0 rfl)
   have d_worth_of : D3.Dg (L2.KOf KX) mg "worth_of" (K55.top 19) ["wishes", "choice"] := by
    dsimp only [L2.KOf]
    refine' D3.dg_mk KX G ?b ?a ?l ?c ?k
    (case a => k_is); (case l => k_is); (case c => k_is); (case k => k_is)
    (case b => exact fun _ _ _ _ _ _ => D3.lenS fun _ => D3.lenS fun _ => D3.len0 rfl)
   have d_held_at : D3.Dg (L2.KOf KX) mg "held_at" (K55.top 20) ["wishes", "choice", "night"] := by
    dsimp only [L2.KOf]
    refine' D3.dg_mk KX G ?b ?a ?l ?c ?k
    (case a => k_is); (case l => k_is); (case c => k_is); (case k => k_is)
    (case b => exact fun _ _ _ _ _ _ => D3.lenS fun _ => D3.lenS fun _ => D3.lenS fun _ => D3.len0 rfl)
   have d_fits : D3.Dg (L2.KOf KX) mg "fits" (K55.top 21) ["wishes", "free", "choice"] := by
    dsimp only [L2.KOf]
    refine' D3.dg_mk KX G ?b ?a ?l ?c ?k
    (case a => k_is); (case l => k_is); (case c => k_is); (case k => k_is)
    (case b => exact fun _ _ _ _ _ _ => D3.lenS fun _ => D3.lenS fun _ => D3.lenS fun _ => D3.len0 rfl)
   have d_is_place_list : D3.Dg (L2.KOf KX) mg "is_place_list" (K55.top 22) ["wishes", "thing"] := by
    dsimp only [L2.KOf]
    refine' D3.dg_mk KX G ?b ?a ?l ?c ?k
    (case a => k_is); (case l => k_is); (case c => k_is); (case k => k_is)
    (case b => exact fun _ _ _ _ _ _ => D3.lenS fun _ => D3.lenS fun _ => D3.len0 rfl)
   have d_is_choice : D3.Dg (L2.KOf KX) mg "is_choice" (K55.top 23) ["wishes", "free", "thing"] := by
    dsimp only [L2.KOf]
    refine' D3.dg_mk KX G ?b ?a ?l ?c ?k
    (case a => k_is); (case l => k_is); (case c => k_is); (case k => k_is)
    (case b => exact fun _ _ _ _ _ _ => D3.lenS fun _ => D3.lenS fun _ => D3.lenS fun _ => D3.len0 rfl)
   have d_is_price : D3.Dg (L2.KOf KX) mg "is_price" (K55.top 24) ["free", "thing"] := by
    dsimp only [L2.KOf]
    refine' D3.dg_mk KX G ?b ?a ?l ?c ?k
    (case a => k_is); (case l => k_is); (case c => k_is); (case k => k_is)
    (case b => exact fun _ _ _ _ _ _ => D3.lenS fun _ => D3.lenS fun _ => D3.len0 rfl)
   have d_is_price_list : D3.Dg (L2.KOf KX) mg "is_price_list" (K55.top 25) ["free", "thing"] := by
    dsimp only [L2.KOf]
    refine' D3.dg_mk KX G ?b ?a ?l ?c ?k
    (case a => k_is); (case l => k_is); (case c => k_is); (case k => k_is)
    (case b => exact fun _ _ _ _ _ _ => D3.lenS fun _ => D3.lenS fun _ => D3.len0 rfl)
   have d_gain : D3.Dg (L2.KOf KX) mg "gain" (K55.top 26) ["wish", "prices"] := by
    dsimp only [L2.KOf]
    refine' D3.dg_mk KX G ?b ?a ?l ?c ?k
    (case a => k_is); (case l => k_is); (case c => k_is); (case k => k_is)
    (case b => exact fun _ _ _ _ _ _ => D3.lenS fun _ => D3.lenS fun _ => D3.len0 rfl)
   have d_sold_out : D3.Dg (L2.KOf KX) mg "sold_out" (K55.top 27) ["wishes", "free", "choice", "prices"] := by
    dsimp only [L2.KOf]
    refine' D3.dg_mk KX G ?b ?a ?l ?c ?k
    (case a => k_is); (case l => k_is); (case c => k_is); (case k => k_is)
    (case b => exact fun _ _ _ _ _ _ => D3.lenS fun _ => D3.lenS fun _ => D3.lenS fun _ => D3.lenS fun _ => D3.len0 rfl)
   have d_is_best : D3.Dg (L2.KOf KX) mg "is_best" (K55.top 28) ["wishes", "free", "choice", "prices"] := by
    dsimp only [L2.KOf]
    refine' D3.dg_mk KX G ?b ?a ?l ?c ?k
    (case a => k_is); (case l => k_is); (case c => k_is); (case k => k_is)
    (case b => exact fun _ _ _ _ _ _ => D3.lenS fun _ => D3.lenS fun _ => D3.lenS fun _ => D3.lenS fun _ => D3.len0 rfl)
   have d_has_room : D3.Dg (L2.KOf KX) mg "has_room" (K55.top 29) ["wishes", "free", "choice", "wish"] := by
    dsimp only [L2.KOf]
    refine' D3.dg_mk KX G ?b ?a ?l ?c ?k
    (case a => k_is); (case l => k_is); (case c => k_is); (case k => k_is)
    (case b => exact fun _ _ _ _ _ _ => D3.lenS fun _ => D3.lenS fun _ => D3.lenS fun _ => D3.lenS fun _ => D3.len0 rfl)
   have d_by_turns : D3.Dg (L2.KOf KX) mg "by_turns" (K55.top 30) ["wishes", "free"] := by
    dsimp only [L2.KOf]
    refine' D3.dg_mk KX G ?b ?a ?l ?c ?k
    (case a => k_is); (case l => k_is); (case c => k_is); (case k => k_is)
    (case b => exact fun _ _ _ _ _ _ => D3.lenS fun _ => D3.lenS fun _ => D3.len0 rfl)
   have d_ways_of_wish : D3.Dg (L2.KOf KX) mg "ways_of_wish" (K55.top 32) ["wish", "place", "choice"] := by
    dsimp only [L2.KOf]
    refine' D3.dg_mk KX G ?b ?a ?l ?c ?k
    (case a => k_is); (case l => k_is); (case c => k_is); (case k => k_is)
    (case b => exact fun _ _ _ _ _ _ => D3.lenS fun _ => D3.lenS fun _ => D3.lenS fun _ => D3.len0 rfl)
   have d_all_ways : D3.Dg (L2.KOf KX) mg "all_ways" (K55.top 33) ["wishes", "free", "choice"] := by
    dsimp only [L2.KOf]
    refine' D3.dg_mk KX G ?b ?a ?l ?c ?k
    (case a => k_is); (case l => k_is); (case c => k_is); (case k => k_is)
    (case b => exact fun _ _ _ _ _ _ => D3.lenS fun _ => D3.lenS fun _ => D3.lenS fun _ => D3.len0 rfl)
   have d_cheapest : D3.Dg (L2.KOf KX) mg "cheapest" (K55.top 34) ["costs", "ways"] := by
    dsimp only [L2.KOf]
    refine' D3.dg_mk KX G ?b ?a ?l ?c ?k
    (case a => k_is); (case l => k_is); (case c => k_is); (case k => k_is)
    (case b => exact fun _ _ _ _ _ _ => D3.lenS fun _ => D3.lenS fun _ => D3.len0 rfl)
   have d_places_on_the_way : D3.Dg (L2.KOf KX) mg "places_on_the_way" (K55.top 35) ["came", "start", "goal"] := by
    dsimp only [L2.KOf]
    refine' D3.dg_mk KX G ?b ?a ?l ?c ?k
    (case a => k_is); (case l => k_is); (case c => k_is); (case k => k_is)
    (case b => exact fun _ _ _ _ _ _ => D3.lenS fun _ => D3.lenS fun _ => D3.lenS fun _ => D3.len0 rfl)
   have d_with_one_more : D3.Dg (L2.KOf KX) mg "with_one_more" (K55.top 36) ["wishes", "free", "choice", "place"] := by
    dsimp only [L2.KOf]
    refine' D3.dg_mk KX G ?b ?a ?l ?c ?k
    (case a => k_is); (case l => k_is); (case c => k_is); (case k => k_is)
    (case b => exact fun _ _ _ _ _ _ => D3.lenS fun _ => D3.lenS fun _ => D3.lenS fun _ => D3.lenS fun _ => D3.len0 rfl)
   have d_prices_of : D3.Dg (L2.KOf KX) mg "prices_of" (K55.top 37) ["wishes", "free", "choice"] := by
    dsimp only [L2.KOf]
    refine' D3.dg_mk KX G ?b ?a ?l ?c ?k
    (case a => k_is); (case l => k_is); (case c => k_is); (case k => k_is)
    (case b => exact fun _ _ _ _ _ _ => D3.lenS fun _ => D3.lenS fun _ => D3.lenS fun _ => D3.len0 rfl)
   have d_best : D3.Dg (L2.KOf KX) mg "best" (K55.top 38) ["wishes", "free"] := by
    dsimp only [L2.KOf]
    refine' D3.dg_mk KX G ?b ?a ?l ?c ?k
    (case a => k_is); (case l => k_is); (case c => k_is); (case k => k_is)
    (case b => exact fun _ _ _ _ _ _ => D3.lenS fun _ => D3.lenS fun _ => D3.len0 rfl)
   have d__law_cell : D3.Dg (L2.KOf KX) mg "_law_cell" (K55.top 40) ["_law_script", "_law_at"] := by
    dsimp only [L2.KOf]
    refine' D3.dg_mk KX G ?b ?a ?l ?c ?k
    (case a => k_is); (case l => k_is); (case c => k_is); (case k => k_is)
    (case b => exact fun _ _ _ _ _ _ => D3.lenS fun _ => D3.lenS fun _ => D3.len0 rfl)
   have d__law_part : D3.Dg (L2.KOf KX) mg "_law_part" (K55.top 41) ["_law_script", "_law_at", "_law_k", "_law_many"] := by
    dsimp only [L2.KOf]
    refine' D3.dg_mk KX G ?b ?a ?l ?c ?k
    (case a => k_is); (case l => k_is); (case c => k_is); (case k => k_is)
    (case b => exact fun _ _ _ _ _ _ => D3.lenS fun _ => D3.lenS fun _ => D3.lenS fun _ => D3.lenS fun _ => D3.len0 rfl)
   have d__law_row : D3.Dg (L2.KOf KX) mg "_law_row" (K55.top 42) ["_law_script", "_law_at", "_law_many"] := by
    dsimp only [L2.KOf]
    refine' D3.dg_mk KX G ?b ?a ?l ?c ?k
    (case a => k_is); (case l => k_is); (case c => k_is); (case k => k_is)
    (case b => exact fun _ _ _ _ _ _ => D3.lenS fun _ => D3.lenS fun _ => D3.lenS fun _ => D3.len0 rfl)
   have d__law_free : D3.Dg (L2.KOf KX) mg "_law_free" (K55.top 44) ["_law_script", "_law_nights"] := by
    dsimp only [L2.KOf]
    refine' D3.dg_mk KX G ?b ?a ?l ?c ?k
    (case a => k_is); (case l => k_is); (case c => k_is); (case k => k_is)
    (case b => exact fun _ _ _ _ _ _ => D3.lenS fun _ => D3.lenS fun _ => D3.len0 rfl)
   have d__law_wishes : D3.Dg (L2.KOf KX) mg "_law_wishes" (K55.top 45) ["_law_script", "_law_nights", "_law_many"] := by
    dsimp only [L2.KOf]
    refine' D3.dg_mk KX G ?b ?a ?l ?c ?k
    (case a => k_is); (case l => k_is); (case c => k_is); (case k => k_is)
    (case b => exact fun _ _ _ _ _ _ => D3.lenS fun _ => D3.lenS fun _ => D3.lenS fun _ => D3.len0 rfl)
   have d__law_prices : D3.Dg (L2.KOf KX) mg "_law_prices" (K55.top 46) ["_law_script", "_law_at", "_law_free_here"] := by
    dsimp only [L2.KOf]
    refine' D3.dg_mk KX G ?b ?a ?l ?c ?k
    (case a => k_is); (case l => k_is); (case c => k_is); (case k => k_is)
    (case b => exact fun _ _ _ _ _ _ => D3.lenS fun _ => D3.lenS fun _ => D3.lenS fun _ => D3.len0 rfl)
   have d__law_cost : D3.Dg (L2.KOf KX) mg "_law_cost" (K55.top 47) ["_law_prices_here", "_law_first", "_law_behind"] := by
    dsimp only [L2.KOf]
    refine' D3.dg_mk KX G ?b ?a ?l ?c ?k
    (case a => k_is); (case l => k_is); (case c => k_is); (case k => k_is)
    (case b => exact fun _ _ _ _ _ _ => D3.lenS fun _ => D3.lenS fun _ => D3.lenS fun _ => D3.len0 rfl)
   have d__law_holds : D3.Dg (L2.KOf KX) mg "_law_holds" (K55.top 48) ["_law_wishes_here", "_law_some", "_law_night"] := by
    dsimp only [L2.KOf]
    refine' D3.dg_mk KX G ?b ?a ?l ?c ?k
    (case a => k_is); (case l => k_is); (case c => k_is); (case k => k_is)
    (case b => exact fun _ _ _ _ _ _ => D3.lenS fun _ => D3.lenS fun _ => D3.lenS fun _ => D3.len0 rfl)
   have d__law_is_choice : D3.Dg (L2.KOf KX) mg "_law_is_choice" (K55.top 49) ["_law_wishes_here", "_law_free_here", "_law_some"] := by
    dsimp only [L2.KOf]
    refine' D3.dg_mk KX G ?b ?a ?l ?c ?k
    (case a => k_is); (case l => k_is); (case c => k_is); (case k => k_is)
    (case b => exact fun _ _ _ _ _ _ => D3.lenS fun _ => D3.lenS fun _ => D3.lenS fun _ => D3.len0 rfl)
   have d__law_is_best : D3.Dg (L2.KOf KX) mg "_law_is_best" (K55.top 50) ["_law_wishes_here", "_law_free_here", "_law_choice", "_law_prices_here"] := by
    dsimp only [L2.KOf]
    refine' D3.dg_mk KX G ?b ?a ?l ?c ?k
    (case a => k_is); (case l => k_is); (case c => k_is); (case k => k_is)
    (case b => exact fun _ _ _ _ _ _ => D3.lenS fun _ => D3.lenS fun _ => D3.lenS fun _ => D3.lenS fun _ => D3.len0 rfl)
   have d__law_other_choice : D3.Dg (L2.KOf KX) mg "_law_other_choice" (K55.top 51) ["_law_choice", "_law_many", "_law_xs"] := by
    dsimp only [L2.KOf]
    refine' D3.dg_mk KX G ?b ?a ?l ?c ?k
    (case a => k_is); (case l => k_is); (case c => k_is); (case k => k_is)
    (case b => exact fun _ _ _ _ _ _ => D3.lenS fun _ => D3.lenS fun _ => D3.lenS fun _ => D3.len0 rfl)
   have d__law_other_prices : D3.Dg (L2.KOf KX) mg "_law_other_prices" (K55.top 52) ["_law_prices_here", "_law_nights", "_law_xs"] := by
    dsimp only [L2.KOf]
    refine' D3.dg_mk KX G ?b ?a ?l ?c ?k
    (case a => k_is); (case l => k_is); (case c => k_is); (case k => k_is)
    (case b => exact fun _ _ _ _ _ _ => D3.lenS fun _ => D3.lenS fun _ => D3.lenS fun _ => D3.len0 rfl)
   have d__law_told : D3.Dg (L2.KOf KX) mg "_law_told" (K55.top 53) ["_law_wishes_here", "_law_free_here", "_law_choice", "_law_prices_here", "_law_due"] := by
    dsimp only [L2.KOf]
    refine' D3.dg_mk KX G ?b ?a ?l ?c ?k
    (case a => k_is); (case l => k_is); (case c => k_is); (case k => k_is)
    (case b => exact fun _ _ _ _ _ _ => D3.lenS fun _ => D3.lenS fun _ => D3.lenS fun _ => D3.lenS fun _ => D3.lenS fun _ => D3.len0 rfl)
   have d__law_odd : D3.Dg (L2.KOf KX) mg "_law_odd" (K55.top 54) ["_law_wishes_here", "_law_free_here", "_law_choice", "_law_prices_here"] := by
    dsimp only [L2.KOf]
    refine' D3.dg_mk KX G ?b ?a ?l ?c ?k
    (case a => k_is); (case l => k_is); (case c => k_is); (case k => k_is)
    (case b => exact fun _ _ _ _ _ _ => D3.lenS fun _ => D3.lenS fun _ => D3.lenS fun _ => D3.lenS fun _ => D3.len0 rfl)
   have d_law : D3.Dl (L2.KOf KX) mg "law" "_law_script" (K55.top 55) := by
    dsimp only [L2.KOf]
    refine' D3.dl_mk KX G ?b ?a ?l ?c ?k
    (case a => k_is); (case l => k_is); (case c => k_is); (case k => k_is)
    (case b => exact fun _ _ _ _ _ _ u => rfl)
   have b_len : mg "len" = none := by
    refine' PySem.W.mg_none_of KX G ?z
    (case z => k_is)
   have b_range : mg "range" = none := by
    refine' PySem.W.mg_none_of KX G ?z
    (case z => k_is)
   have b_abs : mg "abs" = none := by
    refine' PySem.W.mg_none_of KX G ?z
    (case z => k_is)
   have b_isinstance : mg "isinstance" = none := by
    refine' PySem.W.mg_none_of KX G ?z
    (case z => k_is)
   have b_int : mg "int" = none := by
    refine' PySem.W.mg_none_of KX G ?z
    (case z => k_is)
   have b_bool : mg "bool" = none := by
    refine' PySem.W.mg_none_of KX G ?z
    (case z => k_is)
   have b_tuple : mg "tuple" = none := by
    refine' PySem.W.mg_none_of KX G ?z
    (case z => k_is)
   have b_list : mg "list" = none := by
    refine' PySem.W.mg_none_of KX G ?z
    (case z => k_is)
   have b_str : mg "str" = none := by
    refine' PySem.W.mg_none_of KX G ?z
    (case z => k_is)
   have b_max : mg "max" = none := by
    refine' PySem.W.mg_none_of KX G ?z
    (case z => k_is)
   have b_min : mg "min" = none := by
    refine' PySem.W.mg_none_of KX G ?z
    (case z => k_is)
   have b_sorted : mg "sorted" = none := by
    refine' PySem.W.mg_none_of KX G ?z
    (case z => k_is)
   have b_sum : mg "sum" = none := by
    refine' PySem.W.mg_none_of KX G ?z
    (case z => k_is)
   have b_reversed : mg "reversed" = none := by
    refine' PySem.W.mg_none_of KX G ?z
    (case z => k_is)
   have b_enumerate : mg "enumerate" = none := by
    refine' PySem.W.mg_none_of KX G ?z
    (case z => k_is)
   have b_zip : mg "zip" = none := by
    refine' PySem.W.mg_none_of KX G ?z
    (case z => k_is)
   have b_set : mg "set" = none := by
    refine' PySem.W.mg_none_of KX G ?z
    (case z => k_is)
   have b_any : mg "any" = none := by
    refine' PySem.W.mg_none_of KX G ?z
    (case z => k_is)
   have b_all : mg "all" = none := by
    refine' PySem.W.mg_none_of KX G ?z
    (case z => k_is)
   have b_dict : mg "dict" = none := by
    refine' PySem.W.mg_none_of KX G ?z
    (case z => k_is)
   have c_MOST_WORTH : ∃ t, mg "MOST_WORTH" = some (.int 1000000000 t) := by
    refine' ⟨?t_MOST_WORTH, PySem.W.mg_of KX G ?z⟩
    (case z => rfl)
   exact ⟨d_is_whole, d_all_whole, d_is_tuple_of, d_is_pair, d_is_whole_list, d_is_rising, d_nights_of, d_holds, d_count_at, d_is_wish_for, d_check_wishes, d_cost, d_worth_of, d_held_at, d_fits, d_is_place_list, d_is_choice, d_is_price, d_is_price_list, d_gain, d_sold_out, d_is_best, d_has_room, d_by_turns, d_ways_of_wish, d_all_ways, d_cheapest, d_places_on_the_way, d_with_one_more, d_prices_of, d_best, d__law_cell, d__law_part, d__law_row, d__law_free, d__law_wishes, d__law_prices, d__law_cost, d__law_holds, d__law_is_choice, d__law_is_best, d__law_other_choice, d__law_other_prices, d__law_told, d__law_odd, d_law, ⟨b_len, b_range, b_abs, b_isinstance, b_int, b_bool, b_tuple, b_list, b_str, b_max, b_min, b_sorted, b_sum, b_reversed, b_enumerate, b_zip, b_set, b_any, b_all, b_dict⟩, c_MOST_WORTH⟩
  obtain ⟨f, fd, F, b, m⟩ := T.d_law.ex
  have e0 := hmg.symm.trans m
  cases e0
  exact ⟨fd, b, fun base kb nb => K55.law_fn T F⟩
 case S => exact fun K H a ns hl hO hS => ⟨a, ns, hO, rfl, hS, hl, fun _ => rfl⟩
 case C => exact fun _ _ _ _ z => z
