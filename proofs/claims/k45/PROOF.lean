import PyProof.Rows.All
import Wide.All
import OpenK.AllK
import Wide.FinOn
import Lean
import PyProof.EqAt
import PyProof.EqKinds
import PyProof.TupleCall
import PyProof.EqLayable
import KE.KIsAll
import PyProof.ExcAttrAll.ValueError
import PyProof.ExcInit
import PyProof.ExcClass2
import PyProof.InstStore
import PyProof.RaisesMany
import PyProof.RulesTry
import PyProof.ExcBaseAll.ValueError
import PyProof.InstStoreFacts
import PyProof.RulesAs
import KE.KSortTup
import PyProof.AttrMissHeap
import KE.KDictOf
import PySem.Challenge.RW_nightbook_k45_exchanged
set_option Elab.async false
set_option linter.all false
set_option maxRecDepth 100000
set_option maxHeartbeats 4000000
set_option exponentiation.threshold 40000
namespace L2
open PySem PySem.Spec PyProof.Rows
abbrev Key := Sum Int Str
def keyIs : Key → Value → Bool
  | .inl k, v => Value.isInt k v
  | .inr x, v => Value.isStrOf x v
def keyH (w : World) : Key → Int
  | .inl k => hashInt k
  | .inr x => hashStr w x
theorem keyIs_shape : ∀ {k : Key} {v : Value}, keyIs k v = true → (∃ i t, k = Sum.inl i ∧ v = Value.int i t) ∨ (∃ x t, k = Sum.inr x ∧ v = Value.str x t)
  | .inl i, v, h => by
    obtain ⟨t, e⟩ := Value.isInt_shape (k := i) (v := v) h
    exact .inl ⟨i, t, rfl, e⟩
  | .inr x, v, h => by
    obtain ⟨t, e⟩ := Value.isStrOf_shape (x := x) (v := v) h
    exact .inr ⟨x, t, rfl, e⟩
theorem key_ll (a b : Int) : decide ((Sum.inl a : Key) = Sum.inl b) = (a == b) := by
  by_cases e : a = b
  · subst e; simp
  · have h : ¬ (Sum.inl a : Key) = Sum.inl b := fun q => e (Sum.inl.inj q)
    rw [decide_eq_false h]
    exact (beq_eq_false_iff_ne.mpr e).symm
theorem key_rr (a b : Str) : decide ((Sum.inr a : Key) = Sum.inr b) = decide (a = b) := by
  by_cases e : a = b
  · subst e; simp
  · have h : ¬ (Sum.inr a : Key) = Sum.inr b := fun q => e (Sum.inr.inj q)
    rw [decide_eq_false h, decide_eq_false e]
theorem key_lr (a : Int) (b : Str) : decide ((Sum.inl a : Key) = Sum.inr b) = false := decide_eq_false (fun q => nomatch q)
theorem key_rl (a : Str) (b : Int) : decide ((Sum.inr a : Key) = Sum.inl b) = false := decide_eq_false (fun q => nomatch q)
def mixKind (prog : Program) (w : World) : PySem.KeyKind prog w Key where
  is := keyIs
  hash := keyH w
  inj := fun v a b ha hb => by
    rcases keyIs_shape ha with ⟨i, t, rfl, rfl⟩ | ⟨x, t, rfl, rfl⟩
    · rcases keyIs_shape hb with ⟨j, u, rfl, e⟩ | ⟨y, u, rfl, e⟩
      · injection e with e1 _; rw [e1]
      · exact nomatch e
    · rcases keyIs_shape hb with ⟨j, u, rfl, e⟩ | ⟨y, u, rfl, e⟩
      · exact nomatch e
      · injection e with e1 _; rw [e1]
  byValue := fun k v h => by
    rcases keyIs_shape h with ⟨i, t, rfl, rfl⟩ | ⟨x, t, rfl, rfl⟩ <;> rfl
  pyHash := fun hv h => by
    rcases keyIs_shape hv with ⟨i, t, rfl, rfl⟩ | ⟨x, t, rfl, rfl⟩
    · exact wpAny_pyHash_int h
    · exact wpAny_pyHash_str h
  eqBool := fun hu hv h => by
    rcases keyIs_shape hu with ⟨i, t, rfl, rfl⟩ | ⟨x, t, rfl, rfl⟩
    · rcases keyIs_shape hv with ⟨j, u, rfl, rfl⟩ | ⟨y, u, rfl, rfl⟩
      · rw [key_ll] at h; exact wpAny_eqBool_int h
      · rw [key_lr] at h; exact SeqAt.EqAt.int_str i t y u _ _ _ _ h
    · rcases keyIs_shape hv with ⟨j, u, rfl, rfl⟩ | ⟨y, u, rfl, rfl⟩
      · rw [key_rl] at h; exact SeqAt.EqAt.str_int x t j u _ _ _ _ h
      · rw [key_rr] at h; exact wpAny_eqBool_str h
  «strs» := fun k x t v h => by
    rcases keyIs_shape h with ⟨i, u, rfl, e⟩ | ⟨y, u, rfl, e⟩
    · exact nomatch e
    · injection e with e1 _
      subst e1
      cases v <;> rfl
end L2
namespace L2
open PySem PySem.Spec PyProof.Rows
inductive V where
  | non | bl (b : Bool) | int (i : Int) | str (x : Str) | byt (b : Array UInt8) | flt (b : UInt64) | ref (a : Addr) | ty (n : String)
  deriving DecidableEq
def RelV : V → Value → Prop
  | .non, u => u = Value.none
  | .bl b, u => u = Value.bool b
  | .int i, u => ∃ t, u = Value.int i t
  | .str x, u => ∃ t, u = Value.str x t
  | .byt b, u => ∃ t, u = Value.bytes b t
  | .flt b, u => ∃ t, u = Value.float b t
  | .ref a, u => u = Value.ref a
  | .ty n, u => u = Value.type n
abbrev Vals : List V → List Value → Prop := Paired RelV
theorem Vals.length {xs : List V} {us : List Value} (r : Vals xs us) : xs.length = us.length := Paired.length r
theorem Vals.get : ∀ {xs : List V} {us : List Value} {i : Nat} {x : V}, Vals xs us → xs[i]? = some x → ∃ u, us[i]? = some u ∧ RelV x u
  | _, _, _, _, .nil, e => by simp at e
  | _, _, 0, _, .cons r _, e => by simp at e; subst e; exact ⟨_, rfl, r⟩
  | _, _, i + 1, x, .cons _ t, e => by
    obtain ⟨u, h1, h2⟩ := Vals.get (i := i) (x := x) t (by simpa using e)
    exact ⟨u, by simpa using h1, h2⟩
theorem Vals.set {x : V} {u : Value} (r : RelV x u) : ∀ {xs : List V} {us : List Value} (i : Nat), Vals xs us → Vals (xs.set i x) (us.set i u)
  | _, _, _, .nil => .nil
  | _, _, 0, .cons _ t => .cons r t
  | _, _, i + 1, .cons q t => .cons q (Vals.set r i t)
theorem Vals.append : ∀ {xs ys : List V} {us ws : List Value}, Vals xs us → Vals ys ws → Vals (xs ++ ys) (us ++ ws)
  | _, _, _, _, .nil, s => s
  | _, _, _, _, .cons r t, s => .cons r (Vals.append t s)
theorem Vals.take : ∀ {xs : List V} {us : List Value} (n : Nat), Vals xs us → Vals (xs.take n) (us.take n)
  | _, _, 0, _ => .nil
  | _, _, _ + 1, .nil => .nil
  | _, _, n + 1, .cons r t => .cons r (Vals.take n t)
theorem Vals.drop : ∀ {xs : List V} {us : List Value} (n : Nat), Vals xs us → Vals (xs.drop n) (us.drop n)
  | _, _, 0, r => r
  | _, _, _ + 1, .nil => .nil
  | _, _, n + 1, .cons _ t => Vals.drop n t
def RelO : Option V → Option Value → Prop
  | some v, some u => RelV v u
  | none, none => True
  | _, _ => False
def KV {κ : Type} : List (κ × V) → List (κ × Value) → Prop := Paired fun (p : κ × V) (q : κ × Value) => p.1 = q.1 ∧ RelV p.2 q.2
def kV : Key → V
  | .inl i => .int i
  | .inr x => .str x
inductive HO where
  /-- a list -/
  | lst (xs : List V)
  /-- a tuple (never changes) -/
  | tup (xs : List V)
  /-- a dict whose keys are ints and texts; one whose keys are tuples of ints and texts (the empty one is both) -/
  | dK (kvs : List (Key × V)) | dT (kvs : List (List Key × V))
  /-- a set of ints: its members, its size -/
  | set (S : Int → Bool) (n : Nat)
  /-- an instance of the class at C, its dict at dx, its attributes -/
  | ins (C dx : Addr) (fs : List (Str × V))
  /-- the dict of the instance at x -/
  | own (x : Addr)
  /-- the dict of an exception -/
  | xd (fs : List (Str × V))
  /-- a bound method, f of x -/
  | met (f x : Addr)
  /-- a range object lo, lo + 1, .. below hi -/
  | rng (lo hi : Int)
  /-- a thing that is known to the object (the script; a dict while a loop walks it): read, never written while it is so -/
  | frz (o : Obj) (u : HO)
  /-- a code object's table -/
  | tbl (q : Str) (p : Pos)
  /-- any other thing, by what is true of its one object (a def of one's own: SetO a S n := HO.ext fun h => ..) -/
  | ext (φ : Heap → Prop)
abbrev Hp := Addr → Option HO
def upd (H : Hp) (a : Addr) (o : HO) : Hp := fun b => if b = a then some o else H b
theorem upd_same {H : Hp} {a : Addr} {o : HO} : upd H a o a = some o := by unfold upd; rw [if_pos rfl]
theorem upd_ne {H : Hp} {a b : Addr} {o : HO} (h : b ≠ a) : upd H a o b = H b := by unfold upd; rw [if_neg h]
theorem ne_of {H : Hp} {a b : Addr} {o u : HO} (h : H a = some o) (h' : H b = some u) (d : o ≠ u) : a ≠ b := by
  intro e; subst e; rw [h] at h'; exact d (Option.some.inj h')
theorem ne_of_none {H : Hp} {a b : Addr} {o : HO} (h : H a = some o) (h' : H b = none) : a ≠ b := by
  intro e; subst e; rw [h] at h'; cases h'
section
variable (P : Program) (w : World)
def ObjOk (H : Hp) (h : Heap) (a : Addr) : HO → Prop
  | .lst xs => xs.length ≤ sizeLine ∧ ∃ (its : List Value) (n : Nat), Vals xs its ∧ h.get? a = some { cls := .type "list", data := .seq its.toArray n }
  | .tup xs => xs.length ≤ sizeLine ∧ ∃ its : List Value, Vals xs its ∧ IsTup h a its.toArray
  | .dK kvs => kvs.length ≤ sizeLine ∧ (a == sysModules) = false ∧ ∃ vs, KV kvs vs ∧ h.DictOf (mixKind P w) a vs
  | .dT kvs => kvs.length ≤ sizeLine ∧ (a == sysModules) = false ∧ ∃ xs : List (List Key × Addr × Value),
      Paired (fun (p : List Key × V) (q : List Key × Addr × Value) => p.1 = q.1 ∧ H q.2.1 = some (.tup (p.1.map kV)) ∧ RelV p.2 q.2.2) kvs xs ∧
      ∃ o es ep, h.get? a = some o ∧ o.ExactDict ∧ o.data = .dict es ep ∧ es.toList = xs.map (entryOfKey (tupleKind (mixKind P w))) ∧ (xs.map (·.1)).Nodup
  | .set S n => h.SetOf (intKind P w) a S n
  | .ins C dx fs => H dx = some (.own a) ∧ fs.length ≤ 1000 ∧ dx ≠ a ∧ h.get? a = some (PySem.W.instObj C dx) ∧
      ∃ mA, h.Ns1 dx mA ∧ (∀ f, RelO (fs.lookup f) (mA f)) ∧ PySem.Within mA (fs.map (·.1))
  | .own _ => ∃ o, h.get? a = some o
  | .xd fs => ∃ mA, h.Ns1 a mA ∧ ∀ f, RelO (fs.lookup f) (mA f)
  | .rng lo hi => ∃ t u v, h.get? a = some { cls := .type "range", data := .fields #[.int lo t, .int hi u, .int 1 v] }
  | .frz o u => h.get? a = some o ∧ ObjOk H h a u
  | .tbl q p => ∃ ps, h.get? a = some { cls := .none, data := .fields ps } ∧ (ps = #[] ∨ ∃ c', ps = #[rawInt p.line, rawInt p.col, .ref c'] ∧ H c' = some (.own a) ∧ h.CodeRec (.ref c') q)
  | .met f x => h.get? a = some (PySem.W.methodObj (.ref f) (.ref x))
  | .ext φ => φ h ∧ (∃ o, h.get? a = some o) ∧ ∀ h1 h2 : Heap, φ h1 → (∀ o, h1.get? a = some o → h2.get? a = some o) → φ h2
def HOk (H : Hp) (h : Heap) : Prop := ∀ a o, H a = some o → ObjOk P w H h a o
end
section
variable {P : Program} {w : World} {H H' : Hp} {h h' : Heap} {a : Addr} {o : HO}
theorem ObjOk.lt (x : ObjOk P w H h a o) : a < h.objs.size := by
  cases o with
  | lst xs => obtain ⟨_, _, _, _, e⟩ := x; exact Heap.lt_size e
  | tup xs => obtain ⟨_, _, _, p⟩ := x; exact p.lt
  | dK kvs => obtain ⟨_, _, _, _, o, _, _, e, _⟩ := x; exact Heap.lt_size e
  | dT kvs => obtain ⟨_, _, _, _, o, _, _, e, _⟩ := x; exact Heap.lt_size e
  | set S n => obtain ⟨o, _, _, _, e, _⟩ := x; exact Heap.lt_size e
  | ins C dx fs => obtain ⟨_, _, _, e, _⟩ := x; exact Heap.lt_size e
  | own y => obtain ⟨_, e⟩ := x; exact Heap.lt_size e
  | xd fs => obtain ⟨_, ⟨_, _, _, e, _⟩, _⟩ := x; exact Heap.lt_size e
  | rng lo hi => obtain ⟨_, _, _, e⟩ := x; exact Heap.lt_size e
  | frz ob u => obtain ⟨e, _⟩ := x; exact Heap.lt_size e
  | tbl q p => obtain ⟨_, e, _⟩ := x; exact Heap.lt_size e
  | met f y => exact Heap.lt_size (show h.get? a = some _ from x)
  | ext φ => obtain ⟨_, ⟨_, e⟩, _⟩ := x; exact Heap.lt_size e
theorem Paired.mapP {α β : Type} {F G : α → β → Prop} : ∀ {l₁ : List α} {l₂ : List β}, Paired F l₁ l₂ → (∀ a b, F a b → G a b) → Paired G l₁ l₂
  | _, _, .nil, _ => .nil
  | _, _, .cons r t, f => .cons (f _ _ r) (Paired.mapP t f)
theorem ObjOk.stay (x : ObjOk P w H h a o) (k : ∀ b u, (b = a ∨ H b = some (.own a)) → h.get? b = some u → h'.get? b = some u)
    (ho : ∀ b, H b = some (.own a) → H' b = some (.own a)) (ht : ∀ b xs, H b = some (.tup xs) → H' b = some (.tup xs)) : ObjOk P w H' h' a o := by
  induction o with
  | lst xs => obtain ⟨z, its, n, r, e⟩ := x; exact ⟨z, its, n, r, k _ _ (.inl rfl) e⟩
  | tup xs => obtain ⟨z, its, r, ob, e, c⟩ := x; exact ⟨z, its, r, ob, k _ _ (.inl rfl) e, c⟩
  | dK kvs => obtain ⟨z, y, vs, r, ob, es, ep, e, c⟩ := x; exact ⟨z, y, vs, r, ob, es, ep, k _ _ (.inl rfl) e, c⟩
  | dT kvs =>
    obtain ⟨z, y, xs, r, ob, es, ep, e, c⟩ := x
    exact ⟨z, y, xs, Paired.mapP r fun p q z => ⟨z.1, ht _ _ z.2.1, z.2.2⟩, ob, es, ep, k _ _ (.inl rfl) e, c⟩
  | set S n => obtain ⟨ob, es, ep, t, e, c⟩ := x; exact ⟨ob, es, ep, t, k _ _ (.inl rfl) e, c⟩
  | ins C dx fs =>
    obtain ⟨d, z, ne, e, mA, ⟨od, es, ep, e2, c⟩, r⟩ := x
    exact ⟨ho _ d, z, ne, k _ _ (.inl rfl) e, mA, ⟨od, es, ep, k _ _ (.inr d) e2, c⟩, r⟩
  | own y => obtain ⟨ob, e⟩ := x; exact ⟨ob, k _ _ (.inl rfl) e⟩
  | xd fs => obtain ⟨mA, ⟨od, es, ep, e, c⟩, r⟩ := x; exact ⟨mA, ⟨od, es, ep, k _ _ (.inl rfl) e, c⟩, r⟩
  | rng lo hi => obtain ⟨t, u, v, e⟩ := x; exact ⟨t, u, v, k _ _ (.inl rfl) e⟩
  | frz ob u ih => obtain ⟨e, q⟩ := x; exact ⟨k _ _ (.inl rfl) e, ih q⟩
  | tbl q p =>
    obtain ⟨ps, e, z⟩ := x
    refine ⟨ps, k a _ (.inl rfl) e, ?_⟩
    rcases z with z | ⟨c', z1, z2, z3⟩
    · exact .inl z
    · obtain ⟨c, oc, vs, tq, hc, hoc, hdc, hq⟩ := z3
      have hc' : c' = c := by injection hc
      exact .inr ⟨c', z1, ho _ z2, c, oc, vs, tq, hc, k _ _ (.inr (hc' ▸ z2)) hoc, hdc, hq⟩
  | met f y =>
    have e : h.get? a = some (PySem.W.methodObj (.ref f) (.ref y)) := x
    show h'.get? a = some (PySem.W.methodObj (.ref f) (.ref y))
    exact k a _ (.inl rfl) e
  | ext φ => obtain ⟨p, ⟨o, e⟩, st⟩ := x; exact ⟨st _ _ p fun o q => k _ _ (.inl rfl) q, ⟨o, k _ _ (.inl rfl) e⟩, st⟩
theorem HOk.lt (x : HOk P w H h) (e : H a = some o) : a < h.objs.size := (x a o e).lt
theorem HOk.fresh (x : HOk P w H h) (e : h.objs.size ≤ a) : H a = none := by
  cases q : H a with
  | none => rfl
  | some u => exact absurd (Nat.lt_of_lt_of_le (x.lt q) e) (Nat.lt_irrefl _)
theorem HOk.kept (x : HOk P w H h) (k : ∀ b u, h.get? b = some u → h'.get? b = some u) : HOk P w H h' := fun a o e =>
  (x a o e).stay (fun b u _ q => k b u q) (fun _ q => q) fun _ _ q => q
theorem HOk.laid (x : HOk P w H h) (k : ∀ b u, h.get? b = some u → h'.get? b = some u) (hp : h.objs.size ≤ a) (new : ObjOk P w (upd H a o) h' a o) : HOk P w (upd H a o) h' := fun b u e => by
  have hn := x.fresh hp
  by_cases hb : b = a
  · subst hb; rw [upd_same] at e; cases e; exact new
  · rw [upd_ne hb] at e
    exact (x b u e).stay (fun c v _ q => k c v q) (fun c q => by rw [upd_ne (ne_of_none q hn)]; exact q) fun c xs q => by rw [upd_ne (ne_of_none q hn)]; exact q
end
def Rd (H : Hp) (a : Addr) (u : HO) : Prop := H a = some u ∨ ∃ o, H a = some (.frz o u)
theorem Rd.of {H : Hp} {a : Addr} {u : HO} (h : H a = some u) : Rd H a u := .inl h
theorem Rd.ok {P : Program} {w : World} {H : Hp} {h : Heap} {a : Addr} {u : HO} (r : Rd H a u) (x : HOk P w H h) : ObjOk P w H h a u := by
  rcases r with r | ⟨o, r⟩
  · exact x a u r
  · obtain ⟨_, q⟩ := x a _ r
    exact q
def Mut : Option HO → Prop
  | some (.lst _) => True
  | some (.dK _) => True
  | some (.dT _) => True
  | some (.set _ _) => True
  | some (.ins _ _ _) => True
  | some (.ext _) => True
  | _ => False
section
variable {P : Program} {w : World} {H : Hp} {h h' : Heap} {x e : Addr} {o' : HO}
theorem HOk.write (ok : HOk P w H h) (mu : Mut (H x)) (he : e = x ∨ H e = some (.own x)) (k : ∀ b u, b ≠ e → h.get? b = some u → h'.get? b = some u) (heo : ∃ u, h'.get? e = some u)
    (new : ObjOk P w (upd H x o') h' x o') : HOk P w (upd H x o') h' := fun b u q => by
  have nown : ∀ c y, H c = some (.own y) → c ≠ x := fun c y r z => by subst z; rw [r] at mu; exact mu
  have ntup : ∀ c xs, H c = some (.tup xs) → c ≠ x := fun c xs r z => by subst z; rw [r] at mu; exact mu
  by_cases hb : b = x
  · subst hb; rw [upd_same] at q; cases q; exact new
  · rw [upd_ne hb] at q
    by_cases hbe : b = e
    · have q' : H b = some (.own x) := by
        rcases he with z | z
        · exact absurd (hbe.trans z) hb
        · rw [hbe]; exact z
      rw [q] at q'; cases q'
      obtain ⟨v, hv⟩ := heo
      exact ⟨v, by rw [hbe]; exact hv⟩
    · refine (ok b u q).stay (fun c v hc r => k c v ?_ r) (fun c r => by rw [upd_ne (nown c b r)]; exact r) fun c xs r => by rw [upd_ne (ntup c xs r)]; exact r
      rcases hc with rfl | hc
      · exact hbe
      · rintro rfl
        rcases he with z | z
        · exact nown c b hc z
        · rw [hc] at z; cases z; exact hb rfl
end
structure Un (fs ex : List Addr) (H H' : Hp) (h h' : Heap) : Prop where
  keep : ∀ b o, h.get? b = some o → H b = none → b ∉ fs → b ∉ ex → h'.get? b = some o
  slot : ∀ b o, h.get? b = some o → H b = none → b ∈ fs → b ∉ ex → ∃ sl, h'.get? b = some { o with slots := sl }
  free : ∀ b o, h.get? b = some o → H b = none → b ∉ ex → H' b = none
  there : ∀ b o, h.get? b = some o → b ∉ ex → ∃ o', h'.get? b = some o'
  tups : ∀ b xs, H b = some (.tup xs) → H' b = some (.tup xs)
  frzs : ∀ b o u, H b = some (.frz o u) → H' b = some (.frz o u)
  tbls : ∀ b q p, H b = some (.tbl q p) → H' b = some (.tbl q p)
section
variable {fs fs' ex ex' : List Addr} {H H1 H2 : Hp} {h h1 h2 h' : Heap} {a x e : Addr} {o : HO}
theorem Un.any (u : Un fs ex H H1 h h1) {b : Addr} {ob : Obj} (q : h.get? b = some ob) (n : H b = none) (hx : b ∉ ex) : ∃ sl, h1.get? b = some { ob with slots := sl } := by
  by_cases hb : b ∈ fs
  · exact u.slot b ob q n hb hx
  · exact ⟨ob.slots, u.keep b ob q n hb hx⟩
theorem Un.trans (a : Un fs ex H H1 h h1) (b : Un fs ex H1 H2 h1 h2) : Un fs ex H H2 h h2 where
  keep := fun c ob q n hc hx => b.keep c ob (a.keep c ob q n hc hx) (a.free c ob q n hx) hc hx
  slot := fun c ob q n hc hx => by
    obtain ⟨sl, e1⟩ := a.slot c ob q n hc hx
    obtain ⟨sl', e2⟩ := b.slot c _ e1 (a.free c ob q n hx) hc hx
    exact ⟨sl', e2⟩
  free := fun c ob q n hx => by
    obtain ⟨o', e1⟩ := a.there c ob q hx
    exact b.free c o' e1 (a.free c ob q n hx) hx
  there := fun c ob q hx => by
    obtain ⟨o', e1⟩ := a.there c ob q hx
    exact b.there c o' e1 hx
  tups := fun c xs q => b.tups c xs (a.tups c xs q)
  frzs := fun c ob xs q => b.frzs c ob xs (a.frzs c ob xs q)
  tbls := fun c q p e => b.tbls c q p (a.tbls c q p e)
theorem Un.kept (k : ∀ b u, h.get? b = some u → h'.get? b = some u) : Un fs ex H H h h' :=
  ⟨fun b ob q _ _ _ => k b ob q, fun b ob q _ _ _ => ⟨ob.slots, k b ob q⟩, fun _ _ _ n _ => n, fun b ob q _ => ⟨ob, k b ob q⟩, fun _ _ q => q, fun _ _ _ q => q, fun _ _ _ q => q⟩
theorem Un.refl : Un fs ex H H h h := Un.kept fun _ _ q => q
theorem Un.laid (k : ∀ b u, h.get? b = some u → h'.get? b = some u) (hp : h.objs.size ≤ a) (hn : H a = none) : Un fs ex H (upd H a o) h h' where
  keep := fun b u q _ _ _ => k b u q
  slot := fun b u q _ _ _ => ⟨u.slots, k b u q⟩
  free := fun b u q n _ => by rw [upd_ne (Nat.ne_of_lt (Nat.lt_of_lt_of_le (Heap.lt_size q) hp))]; exact n
  there := fun b u q _ => ⟨u, k b u q⟩
  tups := fun b xs q => by rw [upd_ne (ne_of_none q hn)]; exact q
  frzs := fun b u xs q => by rw [upd_ne (ne_of_none q hn)]; exact q
  tbls := fun b q p e => by rw [upd_ne (ne_of_none e hn)]; exact e
theorem Un.write (mu : Mut (H x)) (he : e = x ∨ H e = some (.own x)) (k : ∀ b u, b ≠ e → h.get? b = some u → h'.get? b = some u) (heo : ∃ u, h'.get? e = some u) : Un fs ex H (upd H x o) h h' := by
  have hx : ∀ b, H b = none → b ≠ x := fun b n z => by subst z; rw [n] at mu; exact mu
  have hb : ∀ b, H b = none → b ≠ e := fun b n z => by
    subst z
    rcases he with r | r
    · exact hx b n r
    · rw [n] at r; cases r
  have hm : ∀ b u, H b = some u → ¬ Mut (some u) → b ≠ x := fun b u q nm z => by subst z; rw [q] at mu; exact nm mu
  refine ⟨fun b u q n _ _ => k b u (hb b n) q, fun b u q n _ _ => ⟨u.slots, k b u (hb b n) q⟩, fun b u q n _ => by rw [upd_ne (hx b n)]; exact n, fun b u q _ => ?_,
    fun b xs q => by rw [upd_ne (hm b _ q fun z => z)]; exact q, fun b u xs q => by rw [upd_ne (hm b _ q fun z => z)]; exact q, fun b q p e => by rw [upd_ne (hm b _ e fun z => z)]; exact e⟩
  by_cases hbe : b = e
  · subst hbe; exact heo
  · exact ⟨u, k b u hbe q⟩
theorem Un.mono (u : Un fs ex H H1 h h1) (hs : ∀ b ∈ fs, b ∈ fs') (hx : ∀ b ∈ ex, b ∈ ex') : Un fs' ex' H H1 h h1 :=
  ⟨fun b ob q n hb he => u.keep b ob q n (fun z => hb (hs b z)) fun z => he (hx b z), fun _ _ q n _ he => u.any q n fun z => he (hx _ z), fun b ob q n he => u.free b ob q n fun z => he (hx b z), fun b ob q he => u.there b ob q fun z => he (hx b z), u.tups, u.frzs, u.tbls⟩
end
def trk (h : Heap) (H : Hp) : List Addr := (List.range h.objs.size).filter fun a => (H a).isSome
def hidT (h : Heap) (H : Hp) : Heap := PySem.W.hideAll h (trk h H)
theorem hidT_size (h : Heap) (H : Hp) : (hidT h H).objs.size = h.objs.size := PySem.W.hideAll_size _ _
theorem hidT_get {h : Heap} {H : Hp} {b : Addr} {o : Obj} (e : h.get? b = some o) (n : H b = none) : (hidT h H).get? b = some o :=
  PySem.W.hideAll_get _ e fun hm => by
    have q : (H b).isSome = true := (List.mem_filter.mp hm).2
    rw [n] at q; simp at q
theorem of_hidT {h : Heap} {H : Hp} {b : Addr} {o : Obj} (e : (hidT h H).get? b = some o) : h.get? b = some o ∧ H b = none := by
  have e' : h.get? b = some o := PySem.W.of_hideAll (trk h H) e
  refine ⟨e', ?_⟩
  cases q : H b with
  | none => rfl
  | some x =>
    have hm : b ∈ trk h H := List.mem_filter.mpr ⟨List.mem_range.mpr (Heap.lt_size e'), by simp [q]⟩
    have z : (hidT h H).get? b = none := PySem.W.hideAll_none (trk h H) hm
    rw [z] at e; cases e
def allNews (g h : Heap) (L : Addr) : List (Addr × Obj) := (List.range h.objs.size).filterMap fun a => if a = L ∨ (g.get? a).isSome = true then none else (h.get? a).map fun o => (a, o)
theorem mem_allNews {g h : Heap} {L a : Addr} {o : Obj} (h1 : a ≠ L) (h2 : g.get? a = none) (h3 : h.get? a = some o) : (a, o) ∈ allNews g h L :=
  List.mem_filterMap.mpr ⟨a, List.mem_range.mpr (Heap.lt_size h3), by simp [h1, h2, h3]⟩
theorem of_mem_allNews {g h : Heap} {L : Addr} {p : Addr × Obj} (hp : p ∈ allNews g h L) : p.1 ≠ L ∧ g.get? p.1 = none ∧ h.get? p.1 = some p.2 := by
  obtain ⟨b, _, e⟩ := List.mem_filterMap.mp hp
  split at e
  · cases e
  · rename_i hn
    cases q : h.get? b with
    | none => rw [q] at e; simp at e
    | some u =>
      rw [q] at e
      simp only [Option.map_some, Option.some.injEq] at e
      subst e
      refine ⟨fun z => hn (.inl z), ?_, q⟩
      show g.get? b = none
      cases r : g.get? b with
      | none => rfl
      | some v => exact (hn (.inr (by simp [r]))).elim
def rest (g h : Heap) (L d : Addr) : List (Addr × Obj) := (allNews g h L).filter fun p => decide (p.1 ≠ d)
theorem news_all {g h : Heap} {L : Addr} : News g L h (allNews g h L) := fun p hp => let ⟨a, b, c⟩ := of_mem_allNews hp; ⟨c, a, b⟩
end L2
namespace L2
open PySem PySem.Spec PyProof.Rows
structure Mod (K : PySem.W.Frag) (mg : Str → Option Value) (base : Heap) : Prop where
  kin : K.In base
  glob : base.Ns mainGlobals mg
  blt : ∃ mb, base.Ns builtinsNs mb ∧ ∀ x : Str, x ≠ "__name__" → mb x = bootBuiltins x
  nolimit : base.NoLimit
  bm : ∃ bm ob, mg "__builtins__" = some (.ref bm) ∧ bm ≠ builtinsNs ∧ base.get? bm = some ob ∧ ob.cls = .type "module" ∧ ob.dict = some builtinsNs ∧ ob.data = .plain
structure Cx where
  prog : Program
  w : World
  K : PySem.W.Frag
  mg : Str → Option Value
  base : Heap
  A : Around
  N : List Str
  s₀ : Shared
  H₀ : Hp
  env : Env
  outer : List Env
  stack : List Env
  ex : List Addr
  fn : Str → Bool
  calm : Bool
  pn : List (Addr × Obj)
  xe : Value → Shared → Prop
def frs (l : List Env) : List Addr := l.filterMap (·.frame)
abbrev Cx.fs (X : Cx) : List Addr := frs X.outer
def Vis (sc : Scope) (x : Str) : Prop := sc.names.lookup x = some .local ∨ sc.names.lookup x = some .cell ∨ sc.names.lookup x = some .free
def Loc (sc : Scope) (x : Str) : Prop := sc.names.lookup x = some .local ∨ sc.names.lookup x = some .cell
def Look (env : Env) (h : Heap) (m : Str → Option Value) (x : Str) (u : Value) : Prop :=
  (env.kindOf x = some .local ∧ m x = some u) ∨ ((env.kindOf x = some .cell ∨ env.kindOf x = some .free) ∧ ∃ c, env.cells.lookup x = some c ∧ h.IsCell c (some u))
structure Cx.Ok (X : Cx) : Prop where
  mod : Mod X.K X.mg X.base
  kind : X.env.scope.kind = .function
  glob : X.env.globals = mainGlobals
  blt : X.env.builtins = builtinsNs
  above : X.s₀.heap.objs.size ≤ X.env.locals
  inj : ∀ x y c, X.env.cells.lookup x = some c → X.env.cells.lookup y = some c → x = y
  has : ∀ x, (X.env.kindOf x = some .cell ∨ X.env.kindOf x = some .free) → ∃ c, X.env.cells.lookup x = some c
  cab : ∀ x c, X.fn x = true → X.env.cells.lookup x = some c → X.s₀.heap.objs.size ≤ c
  hd : X.calm = true → X.A.handled = none
  frames : X.A.frames = some X.stack
  stk : X.stack = X.outer ∨ (X.stack = X.env :: X.outer ∧ X.env.frame = some X.env.locals)
  exf : ∀ b ∈ X.ex, b ≠ X.env.locals ∧ ∀ x c, X.env.cells.lookup x = some c → c ≠ b
  bs : ∀ b o, X.base.get? b = some o → X.s₀.heap.get? b = some o ∧ X.H₀ b = none
  bsz : X.base.objs.size ≤ X.s₀.heap.objs.size
  noex : ∀ b o, X.base.get? b = some o → b ∉ X.ex
  exfs : ∀ b ∈ X.ex, b ∉ X.fs
  funs : X.s₀.heap.FunFrames X.base X.outer
  frf : ∀ b ∈ X.fs, X.H₀ b = none
structure Inv (X : Cx) (pins : List (Addr × Obj)) (σ : List (Option V)) (H : Hp) (s : Shared) : Prop where
  ok : X.Ok
  os : s.os = X.s₀.os
  bare : AllBare s.gens
  base : Un X.fs X.ex X.H₀ H X.s₀.heap s.heap
  loc : ∃ m, s.heap.Ns X.env.locals m ∧ ∀ (i : Nat) (x : Str) (v : V), X.N[i]? = some x → σ[i]? = some (some v) → Vis X.env.scope x → ∃ u, RelV v u ∧ Look X.env s.heap m x u
  cell : ∀ x c, X.env.cells.lookup x = some c → ∃ v, s.heap.IsCell c v
  free : H X.env.locals = none
  freeC : ∀ x c, X.env.cells.lookup x = some c → H c = none
  pin : ∀ p ∈ X.pn ++ pins, s.heap.get? p.1 = some p.2 ∧ H p.1 = none ∧ p.1 ≠ X.env.locals ∧ p.1 ∉ X.fs ∧ ∀ v, p.2.data ≠ .cell v
  hok : HOk X.prog X.w H s.heap
  len : σ.length = X.N.length
section
variable {X : Cx} {pins : List (Addr × Obj)} {σ : List (Option V)} {H H' : Hp} {s : Shared} {h' : Heap}
theorem Cx.Ok.nofr (ok : X.Ok) {b : Addr} {o : Obj} (e : X.base.get? b = some o) : b ∉ X.fs := fun hb => by
  have := (ok.funs.mem hb).1
  rw [e] at this; cases this
theorem Inv.bs (I : Inv X pins σ H s) : ∀ b o, X.base.get? b = some o → s.heap.get? b = some o ∧ H b = none := fun b o e =>
  ⟨I.base.keep b o (I.ok.bs b o e).1 (I.ok.bs b o e).2 (I.ok.nofr e) (I.ok.noex b o e), I.base.free b o (I.ok.bs b o e).1 (I.ok.bs b o e).2 (I.ok.noex b o e)⟩
theorem Inv.bk (I : Inv X pins σ H s) : ∀ b o, X.base.get? b = some o → s.heap.get? b = some o := fun b o e => (I.bs b o e).1
theorem Inv.mod (I : Inv X pins σ H s) : Mod X.K X.mg X.base := I.ok.mod
theorem Inv.kIn (I : Inv X pins σ H s) : X.K.In s.heap := I.ok.mod.kin.keeps I.bk
theorem Inv.nolimit (I : Inv X pins σ H s) : s.heap.NoLimit := I.ok.mod.nolimit.keeps I.bk
theorem Inv.fr (I : Inv X pins σ H s) : ∃ m, Fr X.base X.env.locals s.heap m :=
  let ⟨m, hn, _⟩ := I.loc
  ⟨m, hn, I.bk, Nat.le_trans I.ok.bsz I.ok.above⟩
theorem Inv.lt (I : Inv X pins σ H s) : X.env.locals < s.heap.objs.size := let ⟨_, hn, _⟩ := I.loc; hn.lt
theorem Inv.sz (I : Inv X pins σ H s) : X.s₀.heap.objs.size ≤ s.heap.objs.size := Nat.le_trans I.ok.above (Nat.le_of_lt I.lt)
theorem Inv.nofs (I : Inv X pins σ H s) {a : Addr} (h : s.heap.objs.size ≤ a) : a ∉ X.fs := fun hb => by
  obtain ⟨_, o, ho, _⟩ := I.ok.funs.mem hb
  exact absurd (Nat.lt_of_lt_of_le (Heap.lt_size ho) (Nat.le_trans I.sz h)) (Nat.lt_irrefl _)
theorem Inv.cne (I : Inv X pins σ H s) : ∀ x c, X.env.cells.lookup x = some c → c ≠ X.env.locals := fun x c e z => by
  obtain ⟨v, o, ho, hd⟩ := I.cell x c e
  obtain ⟨m, ⟨o', es, ep, ho', hd', _⟩, _⟩ := I.loc
  rw [z, ho'] at ho; cases ho; rw [hd'] at hd; cases hd
theorem Inv.funs (I : Inv X pins σ H s) : s.heap.FunFrames X.base X.outer := by
  have all : ∀ (l : List Env), (∀ b ∈ frs l, b ∈ X.fs) → X.s₀.heap.FunFrames X.base l → s.heap.FunFrames X.base l := by
    intro l
    induction l with
    | nil => intro _ _; trivial
    | cons env r ih =>
      intro hs hl
      obtain ⟨hk, ⟨L, o, hf, hn, ho, hd⟩, hr⟩ := hl
      have hL : L ∈ X.fs := hs L (by unfold frs; rw [List.filterMap_cons, hf]; exact List.mem_cons_self)
      obtain ⟨sl, e⟩ := I.base.slot L o ho (I.ok.frf L hL) hL fun z => I.ok.exfs L z hL
      exact ⟨hk, ⟨L, _, hf, hn, e, hd⟩, ih (fun b hb => hs b (by unfold frs; rw [List.filterMap_cons, hf]; exact List.mem_cons_of_mem _ hb)) hr⟩
  exact all X.outer (fun _ hb => hb) I.ok.funs
theorem Inv.stack (I : Inv X pins σ H s) : s.heap.FunFrames X.base X.stack := by
  rcases I.ok.stk with e | ⟨e, hf⟩
  · rw [e]; exact I.funs
  · rw [e]
    obtain ⟨m, hn, _⟩ := I.loc
    refine .cons (by rw [I.ok.kind]; decide) hf hn ?_ I.funs
    exact Heap.get?_none_of_le (Nat.le_trans I.ok.bsz I.ok.above)
theorem Inv.stkSub (I : Inv X pins σ H s) : ∀ b ∈ frs X.stack, b ∈ X.env.locals :: X.fs := fun b hb => by
  rcases I.ok.stk with e | ⟨e, hf⟩
  · rw [e] at hb; exact List.mem_cons_of_mem _ hb
  · rw [e] at hb
    unfold frs at hb
    rw [List.filterMap_cons, hf] at hb
    exact hb
theorem Inv.stkFree (I : Inv X pins σ H s) : ∀ b ∈ frs X.stack, H b = none := fun b hb => by
  rcases List.mem_cons.mp (I.stkSub b hb) with e | hb
  · rw [e]; exact I.free
  · obtain ⟨_, o, ho, _⟩ := I.ok.funs.mem hb
    exact I.base.free b o ho (I.ok.frf b hb) fun z => I.ok.exfs b z hb
theorem Inv.step {g' : Array GenState} {t' : Nat} {d' : Drawn} {ch : List Addr} (I : Inv X pins σ H s)
    (hch : ∀ b ∈ ch, (b ∈ X.ex ∨ X.s₀.heap.objs.size ≤ b) ∧ b ≠ X.env.locals ∧ (∀ x c, X.env.cells.lookup x = some c → c ≠ b) ∧ ∀ p ∈ X.pn ++ pins, p.1 ≠ b)
    (keep : ∀ b o, b ≠ X.env.locals → b ∉ X.fs → b ∉ ch → s.heap.get? b = some o → H b = none → h'.get? b = some o)
    (slot : ∀ b o, b ≠ X.env.locals → b ∈ X.fs → b ∉ ch → s.heap.get? b = some o → H b = none → ∃ sl, h'.get? b = some { o with slots := sl }) (free : ∀ b o, b ∉ ch → s.heap.get? b = some o → H b = none → H' b = none)
    (there : ∀ b o, b ∉ ch → s.heap.get? b = some o → ∃ o', h'.get? b = some o')
    (tups : ∀ b xs, H b = some (.tup xs) → H' b = some (.tup xs)) (frzs : ∀ b o u, H b = some (.frz o u) → H' b = some (.frz o u)) (tbls : ∀ b q p, H b = some (.tbl q p) → H' b = some (.tbl q p))
    (ns : ∀ m, s.heap.Ns X.env.locals m → h'.Ns X.env.locals m) (hok : HOk X.prog X.w H' h') (hg : AllBare g') :
    Inv X pins σ H' { s with heap := h', gens := g', drawn := d', toks := t' } := by
  have neL : ∀ b o, X.s₀.heap.get? b = some o → b ≠ X.env.locals := fun b o e => Nat.ne_of_lt (Nat.lt_of_lt_of_le (Heap.lt_size e) I.ok.above)
  have neC : ∀ b o, X.s₀.heap.get? b = some o → b ∉ X.ex → b ∉ ch := fun b o e hx hb => by
    rcases (hch b hb).1 with z | z
    · exact hx z
    · exact absurd (Nat.lt_of_lt_of_le (Heap.lt_size e) z) (Nat.lt_irrefl _)
  have cellK : ∀ x c, X.env.cells.lookup x = some c → ∀ v, s.heap.IsCell c v → h'.IsCell c v := fun x c e v ⟨o, ho, hd⟩ => by
    have nch : c ∉ ch := fun z => (hch c z).2.2.1 x c e rfl
    by_cases hc : c ∈ X.fs
    · obtain ⟨sl, q⟩ := slot c o (I.cne x c e) hc nch ho (I.freeC x c e)
      exact ⟨_, q, hd⟩
    · exact ⟨o, keep c o (I.cne x c e) hc nch ho (I.freeC x c e), hd⟩
  refine ⟨I.ok, I.os, hg, ⟨fun b o e n hb hx => ?_, fun b o e n hb hx => ?_, fun b o e n hx => ?_, fun b o e hx => ?_, fun b xs e => tups b xs (I.base.tups b xs e), fun b o xs e => frzs b o xs (I.base.frzs b o xs e), fun b q p e => tbls b q p (I.base.tbls b q p e)⟩, ?_, fun x c e => ?_, ?_, fun x c e => ?_, fun p hp => ?_, hok, I.len⟩
  · exact keep b o (neL b o e) hb (neC b o e hx) (I.base.keep b o e n hb hx) (I.base.free b o e n hx)
  · obtain ⟨sl, e1⟩ := I.base.slot b o e n hb hx
    obtain ⟨sl', e2⟩ := slot b _ (neL b o e) hb (neC b o e hx) e1 (I.base.free b o e n hx)
    exact ⟨sl', e2⟩
  · obtain ⟨o', e1⟩ := I.base.there b o e hx
    exact free b o' (neC b o e hx) e1 (I.base.free b o e n hx)
  · obtain ⟨o', e1⟩ := I.base.there b o e hx
    exact there b o' (neC b o e hx) e1
  · obtain ⟨m, hn, hl⟩ := I.loc
    refine ⟨m, ns m hn, fun i x v e1 e2 e3 => ?_⟩
    obtain ⟨u, r, l⟩ := hl i x v e1 e2 e3
    refine ⟨u, r, ?_⟩
    rcases l with l | ⟨k, c, e, z⟩
    · exact .inl l
    · exact .inr ⟨k, c, e, cellK x c e _ z⟩
  · obtain ⟨v, z⟩ := I.cell x c e
    exact ⟨v, cellK x c e v z⟩
  · obtain ⟨m, ⟨o, _, _, ho, _⟩, _⟩ := I.loc
    exact free _ o (fun z => (hch _ z).2.1 rfl) ho I.free
  · obtain ⟨v, o, ho, hd⟩ := I.cell x c e
    exact free c o (fun z => (hch c z).2.2.1 x c e rfl) ho (I.freeC x c e)
  · obtain ⟨e, n, ne, nf, d⟩ := I.pin p hp
    have nch : p.1 ∉ ch := fun z => (hch p.1 z).2.2.2 p hp rfl
    exact ⟨keep p.1 p.2 ne nf nch e n, free p.1 p.2 nch e n, ne, nf, d⟩
theorem Inv.un {t' : Nat} (I : Inv X pins σ H s) (u : Un X.fs [] H H' s.heap h') (hok : HOk X.prog X.w H' h') : Inv X pins σ H' { s with heap := h', toks := t' } := by
  obtain ⟨m, ⟨o, es, ep, ho, r⟩, _⟩ := id I.loc
  obtain ⟨sl, hL⟩ := u.any ho I.free (by simp)
  exact I.step (g' := s.gens) (d' := s.drawn) (ch := []) (fun _ z => nomatch z) (fun b o _ hb _ e n => u.keep b o e n hb (by simp)) (fun b o _ hb _ e n => u.slot b o e n hb (by simp)) (fun b o _ e n => u.free b o e n (by simp)) (fun b o _ e => u.there b o e (by simp)) u.tups u.frzs u.tbls (fun m' hm => by
    obtain ⟨o', es', ep', ho', r'⟩ := hm
    rw [ho] at ho'; cases ho'
    exact ⟨_, es', ep', hL, r'⟩) hok I.bare
theorem Inv.call {g' : Array GenState} {t' : Nat} {d' : Drawn} {ch : List Addr} (I : Inv X pins σ H s) (u : Un (frs X.stack) ch H H' s.heap h') (hok : HOk X.prog X.w H' h') (hg : AllBare g')
    (hch : ∀ b ∈ ch, (b ∈ X.ex ∨ X.s₀.heap.objs.size ≤ b) ∧ b ≠ X.env.locals ∧ (∀ x c, X.env.cells.lookup x = some c → c ≠ b) ∧ ∀ p ∈ X.pn ++ pins, p.1 ≠ b) :
    Inv X pins σ H' { s with heap := h', gens := g', drawn := d', toks := t' } := by
  obtain ⟨m, ⟨o, es, ep, ho, r⟩, _⟩ := id I.loc
  obtain ⟨sl, hL⟩ := u.any ho I.free fun z => (hch _ z).2.1 rfl
  exact I.step (ch := ch) hch (fun b o hL hb hc e n => u.keep b o e n (fun z => (List.mem_cons.mp (I.stkSub b z)).elim hL hb) hc) (fun b o _ _ hc e n => u.any e n hc) (fun b o hc e n => u.free b o e n hc) (fun b o hc e => u.there b o e hc) u.tups u.frzs u.tbls (fun m' hm => by
    obtain ⟨o', es', ep', ho', r'⟩ := hm
    rw [ho] at ho'; cases ho'
    exact ⟨_, es', ep', hL, r'⟩) hok hg
theorem Inv.turned {t' : Nat} {it : Addr} (I : Inv X pins σ H s) (k : ∀ b o, b ≠ it → s.heap.get? b = some o → h'.get? b = some o) (hn : H it = none) (hL : it ≠ X.env.locals)
    (h1 : it ∈ X.ex ∨ X.s₀.heap.objs.size ≤ it) (h2 : ∀ x c, X.env.cells.lookup x = some c → c ≠ it) (h3 : ∀ p ∈ X.pn ++ pins, p.1 ≠ it) : Inv X pins σ H { s with heap := h', toks := t' } := by
  have nit : ∀ b u, H b = some u → b ≠ it := fun b u e z => by rw [z, hn] at e; cases e
  refine I.step (g' := s.gens) (d' := s.drawn) (ch := [it]) (fun b hb => ?_) (fun b o _ _ hc e _ => k b o (fun z => hc (by simp [z])) e) (fun b o _ _ hc e _ => ⟨o.slots, k b o (fun z => hc (by simp [z])) e⟩) (fun _ _ _ _ n => n)
    (fun b o hc e => ⟨o, k b o (fun z => hc (by simp [z])) e⟩) (fun _ _ e => e) (fun _ _ _ e => e) (fun _ _ _ e => e) (fun m hm => ?_) (fun b u e => ?_) I.bare
  · have e : b = it := by simpa using hb
    subst e
    exact ⟨h1, hL, h2, h3⟩
  · obtain ⟨o, es, ep, ho, r⟩ := hm
    exact ⟨o, es, ep, k _ o (Ne.symm hL) ho, r⟩
  · refine (I.hok b u e).stay (fun c v hc q => k c v ?_ q) (fun _ q => q) fun _ _ q => q
    rcases hc with z | z
    · rw [z]; exact nit b u e
    · exact nit c _ z
theorem Inv.tok (I : Inv X pins σ H s) (t : Nat) : Inv X pins σ H { s with toks := t } := I.un (h' := s.heap) (t' := t) Un.refl I.hok
theorem Inv.kept {t' : Nat} (I : Inv X pins σ H s) (k : ∀ b u, s.heap.get? b = some u → h'.get? b = some u) : Inv X pins σ H { s with heap := h', toks := t' } := I.un (Un.kept k) (I.hok.kept k)
theorem Inv.laid {a : Addr} {o : HO} {t' : Nat} (I : Inv X pins σ H s) (k : ∀ b u, s.heap.get? b = some u → h'.get? b = some u) (hp : s.heap.objs.size ≤ a) (new : ObjOk X.prog X.w (upd H a o) h' a o) :
    Inv X pins σ (upd H a o) { s with heap := h', toks := t' } := I.un (Un.laid k hp (I.hok.fresh hp)) (I.hok.laid k hp new)
theorem Inv.write {x e : Addr} {o : HO} {t' : Nat} (I : Inv X pins σ H s) (mu : Mut (H x)) (he : e = x ∨ H e = some (.own x)) (k : ∀ b u, b ≠ e → s.heap.get? b = some u → h'.get? b = some u) (heo : ∃ u, h'.get? e = some u)
    (new : ObjOk X.prog X.w (upd H x o) h' x o) : Inv X pins σ (upd H x o) { s with heap := h', toks := t' } := I.un (Un.write mu he k heo) (I.hok.write mu he k heo new)
theorem Inv.pins_of {pins' : List (Addr × Obj)} (I : Inv X pins σ H s) (h : ∀ p ∈ pins', s.heap.get? p.1 = some p.2 ∧ H p.1 = none ∧ p.1 ≠ X.env.locals ∧ p.1 ∉ X.fs ∧ ∀ v, p.2.data ≠ .cell v) : Inv X pins' σ H s :=
  ⟨I.ok, I.os, I.bare, I.base, I.loc, I.cell, I.free, I.freeC, fun p hp => (List.mem_append.mp hp).elim (fun z => I.pin p (List.mem_append_left _ z)) (h p), I.hok, I.len⟩
theorem nodup_ix {N : List Str} (hN : N.Nodup) {i j : Nat} {x : Str} (a : N[i]? = some x) (b : N[j]? = some x) : i = j := by
  obtain ⟨h1, e1⟩ := List.getElem?_eq_some_iff.mp a
  obtain ⟨h2, e2⟩ := List.getElem?_eq_some_iff.mp b
  exact (List.getElem_inj hN).mp (e1.trans e2.symm)
theorem store_ok2 {M : Model} {A : Around} {E : Value → Shared → Prop} {i : Nat} {x : Str} {v : V} {u : Value} {Q : Unit → Shared → Prop} (I : Inv X pins σ H s) (hN : X.N.Nodup) (hi : X.N[i]? = some x) (hx : Loc X.env.scope x) (r : RelV v u)
    (h : ∀ s', Inv X pins (σ.set i (some v)) H s' → (∃ a, Heap.SameBut a s.heap s'.heap ∧ (a = X.env.locals ∨ X.env.cells.lookup x = some a)) → Q () s') (hf : X.fn x = true ∨ X.env.scope.names.lookup x = some .local := by first | exact .inl rfl | exact .inr rfl | assumption) : wpAny M A (storeName X.env x u) Q E s := by
  obtain ⟨m, hn, hl⟩ := id I.loc
  have hcls : (X.env.scope.kind == .class || (X.env.scope.kind == .module && X.env.locals != X.env.globals)) = false := by rw [I.ok.kind]; rfl
  have hiσ : i < σ.length := by rw [I.len]; exact (List.getElem?_eq_some_iff.mp hi).1
  have cne := I.cne
  have tracked : ∀ {a : Addr} {h' : Heap}, (∃ o, s.heap.get? a = some o ∧ H a = none) → Heap.SameBut a s.heap h' → HOk X.prog X.w H h' := fun {a h'} ha hs b ob e => by
    obtain ⟨_, _, hfree⟩ := ha
    refine (I.hok b ob e).stay (fun c w' hc q => (hs.2 c ?_).trans q) (fun _ q => q) fun _ _ q => q
    rintro rfl
    rcases hc with rfl | hc
    · rw [hfree] at e; cases e
    · rw [hfree] at hc; cases hc
  rcases hx with hk | hk
  · refine wpAny_storeName_local hk hn (fun h' hn' hs => ?_) hcls
    obtain ⟨oL, _, _, hoL, _⟩ := id hn
    refine h _ ⟨I.ok, I.os, I.bare, ⟨fun b o e n hb hx => ?_, fun b o e n hb hx => ?_, I.base.free, fun b o e hx => ?_, I.base.tups, I.base.frzs, I.base.tbls⟩, ⟨_, hn', fun j y v' e1 e2 e3 => ?_⟩, fun y c e => ?_, I.free, I.freeC, fun p hp => ?_, tracked ⟨oL, hoL, I.free⟩ hs, by simpa using I.len⟩ ⟨_, hs, .inl rfl⟩
    · exact (hs.2 b (Nat.ne_of_lt (Nat.lt_of_lt_of_le (Heap.lt_size e) I.ok.above))).trans (I.base.keep b o e n hb hx)
    · obtain ⟨sl, e1⟩ := I.base.slot b o e n hb hx
      exact ⟨sl, (hs.2 b (Nat.ne_of_lt (Nat.lt_of_lt_of_le (Heap.lt_size e) I.ok.above))).trans e1⟩
    · obtain ⟨o', e1⟩ := I.base.there b o e hx
      exact ⟨o', (hs.2 b (Nat.ne_of_lt (Nat.lt_of_lt_of_le (Heap.lt_size e) I.ok.above))).trans e1⟩
    · by_cases hj : j = i
      · subst hj
        rw [hi] at e1; cases e1
        rw [List.getElem?_set_self hiσ] at e2
        cases e2
        exact ⟨u, r, .inl ⟨hk, by simp⟩⟩
      · rw [List.getElem?_set_ne (Ne.symm hj)] at e2
        obtain ⟨u', r', q⟩ := hl j y v' e1 e2 e3
        refine ⟨u', r', ?_⟩
        rcases q with ⟨k, e⟩ | ⟨k, c, e, z⟩
        · refine .inl ⟨k, ?_⟩
          have : y ≠ x := fun e => hj (nodup_ix hN e1 (e ▸ hi))
          simp [this, e]
        · exact .inr ⟨k, c, e, z.sameBut hs (cne y c e)⟩
    · obtain ⟨w', z⟩ := I.cell y c e
      exact ⟨w', z.sameBut hs (cne y c e)⟩
    · obtain ⟨e, n, ne, nf, d⟩ := I.pin p hp
      exact ⟨(hs.2 p.1 ne).trans e, n, ne, nf, d⟩
  · have hfn : X.fn x = true := by
      rcases hf with z | z
      · exact z
      · rw [z] at hk; cases hk
    obtain ⟨c, hc⟩ := I.ok.has x (.inl hk)
    obtain ⟨w', z⟩ := I.cell x c hc
    refine wpAny_storeName_cell I.ok.kind hk hc z (fun h' hc' hs => ?_)
    obtain ⟨oc, hoc, hocd⟩ := id z
    refine h { s with heap := h' } ⟨I.ok, I.os, I.bare, ⟨fun b o e n hb hx => ?_, fun b o e n hb hx => ?_, I.base.free, fun b o e hx => ?_, I.base.tups, I.base.frzs, I.base.tbls⟩, ⟨m, hn.sameBut hs (Ne.symm (cne x c hc)), fun j y v' e1 e2 e3 => ?_⟩, fun y c' e => ?_, I.free, I.freeC, fun p hp => ?_, tracked ⟨oc, hoc, I.freeC x c hc⟩ hs, by simpa using I.len⟩ ⟨c, hs, .inr hc⟩
    · exact (hs.2 b (Nat.ne_of_lt (Nat.lt_of_lt_of_le (Heap.lt_size e) (I.ok.cab x c hfn hc)))).trans (I.base.keep b o e n hb hx)
    · obtain ⟨sl, e1⟩ := I.base.slot b o e n hb hx
      exact ⟨sl, (hs.2 b (Nat.ne_of_lt (Nat.lt_of_lt_of_le (Heap.lt_size e) (I.ok.cab x c hfn hc)))).trans e1⟩
    · obtain ⟨o', e1⟩ := I.base.there b o e hx
      exact ⟨o', (hs.2 b (Nat.ne_of_lt (Nat.lt_of_lt_of_le (Heap.lt_size e) (I.ok.cab x c hfn hc)))).trans e1⟩
    · by_cases hj : j = i
      · subst hj
        rw [hi] at e1; cases e1
        rw [List.getElem?_set_self hiσ] at e2
        cases e2
        exact ⟨u, r, .inr ⟨.inl hk, c, hc, hc'⟩⟩
      · rw [List.getElem?_set_ne (Ne.symm hj)] at e2
        obtain ⟨u', r', q⟩ := hl j y v' e1 e2 e3
        refine ⟨u', r', ?_⟩
        rcases q with q | ⟨k, c', e, z'⟩
        · exact .inl q
        · refine .inr ⟨k, c', e, z'.sameBut hs ?_⟩
          rintro rfl
          exact hj (nodup_ix hN e1 (I.ok.inj _ _ _ e hc ▸ hi))
    · by_cases hcc : c' = c
      · subst hcc; exact ⟨_, hc'⟩
      · obtain ⟨w2, z2⟩ := I.cell y c' e
        exact ⟨w2, z2.sameBut hs hcc⟩
    · obtain ⟨e, n, ne, nf, d⟩ := I.pin p hp
      refine ⟨(hs.2 p.1 ?_).trans e, n, ne, nf, d⟩
      intro q
      rw [q, hoc] at e
      have q' : oc = p.2 := Option.some.inj e
      exact d w' (by rw [← q']; exact hocd)
theorem store_ok {M : Model} {A : Around} {E : Value → Shared → Prop} {i : Nat} {x : Str} {v : V} {u : Value} {Q : Unit → Shared → Prop} (I : Inv X pins σ H s) (hN : X.N.Nodup) (hi : X.N[i]? = some x) (hx : Loc X.env.scope x) (r : RelV v u)
    (h : ∀ s', Inv X pins (σ.set i (some v)) H s' → Q () s') (hf : X.fn x = true ∨ X.env.scope.names.lookup x = some .local := by first | exact .inl rfl | exact .inr rfl | assumption) : wpAny M A (storeName X.env x u) Q E s :=
  store_ok2 I hN hi hx r (fun s' I' _ => h s' I') hf
theorem Inv.call' {s' : Shared} {ch : List Addr} (I : Inv X pins σ H s) (ho : s'.os = s.os) (u : Un (frs X.stack) ch H H' s.heap s'.heap) (hok : HOk X.prog X.w H' s'.heap) (hg : AllBare s'.gens)
    (hch : ∀ b ∈ ch, (b ∈ X.ex ∨ X.s₀.heap.objs.size ≤ b) ∧ b ≠ X.env.locals ∧ (∀ x c, X.env.cells.lookup x = some c → c ≠ b) ∧ ∀ p ∈ X.pn ++ pins, p.1 ≠ b) : Inv X pins σ H' s' := by
  obtain ⟨h', g', d', t', o'⟩ := s'
  have e : o' = s.os := ho
  subst e
  exact I.call (g' := g') (t' := t') (d' := d') u hok hg hch
end
abbrev XK := Value → Option Addr → Hp → Prop
abbrev St := List (Option V)
abbrev VK := V → Hp → Prop
abbrev TE := St → Hp → VK → Prop
abbrev TT := St → Hp → (Bool → Hp → Prop) → Prop
abbrev TA := St → Hp → (List V → Hp → Prop) → Prop
structure Ends where
  nx : St → Hp → Prop
  rt : VK
  bk : St → Hp → Prop := fun _ _ => False
  ct : St → Hp → Prop := fun _ _ => False
abbrev TS := Ends → St → Hp → Prop
def EP (X : Cx) (pins : List (Addr × Obj)) (σ : St) (Q : VK) (u : Value) (s' : Shared) : Prop := ∃ v H', Inv X pins σ H' s' ∧ RelV v u ∧ Q v H'
def TP (X : Cx) (pins : List (Addr × Obj)) (σ : St) (Q : Bool → Hp → Prop) (b : Bool) (s' : Shared) : Prop := ∃ H', Inv X pins σ H' s' ∧ Q b H'
def AP (X : Cx) (pins : List (Addr × Obj)) (σ : St) (Q : List V → Hp → Prop) (us : List Value) (s' : Shared) : Prop := ∃ vs H', Inv X pins σ H' s' ∧ Vals vs us ∧ Q vs H'
def SP (X : Cx) (pins : List (Addr × Obj)) (D : Ends) (f : Flow) (s' : Shared) : Prop :=
  match f with
  | .next => ∃ σ' H', Inv X pins σ' H' s' ∧ D.nx σ' H'
  | .brk => ∃ σ' H', Inv X pins σ' H' s' ∧ D.bk σ' H'
  | .cont => ∃ σ' H', Inv X pins σ' H' s' ∧ D.ct σ' H'
  | .ret u => ∃ v σ' H', Inv X pins σ' H' s' ∧ RelV v u ∧ D.rt v H'
def PE (X : Cx) (e : Expr) (t : TE) : Prop :=
  ∀ (pins : List (Addr × Obj)) (s : Shared) (σ : St) (H : Hp) (Q : VK), Inv X pins σ H s → t σ H Q → wpAny (model X.prog X.w) X.A (eval e X.env) (EP X pins σ Q) X.xe s
def PT (X : Cx) (e : Expr) (t : TT) : Prop :=
  ∀ (pins : List (Addr × Obj)) (s : Shared) (σ : St) (H : Hp) (Q : Bool → Hp → Prop), Inv X pins σ H s → t σ H Q → wpAny (model X.prog X.w) X.A (isTrue e X.env (eval e X.env)) (TP X pins σ Q) X.xe s
def PW (X : Cx) (e : Expr) (t : TT) : Prop :=
  ∀ (whole : Sem Value) (pins : List (Addr × Obj)) (s : Shared) (σ : St) (H : Hp) (Q : Bool → Hp → Prop), Inv X pins σ H s → t σ H Q → wpAny (model X.prog X.w) X.A (isTrue e X.env whole) (TP X pins σ Q) X.xe s
theorem PW.pt {X : Cx} {e : Expr} {t : TT} (h : PW X e t) : PT X e t := h _
def PA (X : Cx) (es : List Expr) (t : TA) : Prop :=
  ∀ (pos : Pos) (pins : List (Addr × Obj)) (s : Shared) (σ : St) (H : Hp) (Q : List V → Hp → Prop), Inv X pins σ H s → t σ H Q → wpAny (model X.prog X.w) X.A (spliced (backTo pos (starEach es X.env))) (AP X pins σ Q) X.xe s
def PS (X : Cx) (st : Stmt) (t : TS) : Prop :=
  ∀ (pins : List (Addr × Obj)) (s : Shared) (σ : St) (H : Hp) (D : Ends), Inv X pins σ H s → t D σ H → wpAny (model X.prog X.w) X.A (exec st X.env) (SP X pins D) X.xe s
def PSs (X : Cx) (st : List Stmt) (t : TS) : Prop :=
  ∀ (pins : List (Addr × Obj)) (s : Shared) (σ : St) (H : Hp) (D : Ends), Inv X pins σ H s → t D σ H → wpAny (model X.prog X.w) X.A (execs st X.env) (SP X pins D) X.xe s
theorem thn {α : Type} {t : Sem α} {Q Q' : α → Shared → Prop} {M : Model} {A : Around} {E : Value → Shared → Prop} {s : Shared} (h : wpAny M A t Q E s) (hQ : ∀ a s, Q a s → Q' a s) : wpAny M A t Q' E s := wpAny_mono h hQ fun _ _ x => x
end L2
namespace L2
open PySem PySem.Spec PyProof.Rows
section
variable {X : Cx}
def tVar (i : Nat) : TE := fun σ H Q => ∃ v, σ[i]? = some (some v) ∧ Q v H
def tC (v : V) : TE := fun _ H Q => Q v H
theorem pe_var {i : Nat} {x : Str} {pos : Pos} (hN : X.N[i]? = some x) (hv : Vis X.env.scope x) (hd : (x == ("__debug__" : Str)) = false := by decide) (hcd : (x == ("__classdict__" : Str)) = false := by decide) : PE X (.Name x pos) (tVar i) := by
  intro pins s σ H Q I h
  obtain ⟨v, e, h⟩ := h
  obtain ⟨m, hn, hl⟩ := I.loc
  obtain ⟨u, r, l⟩ := hl i x v hN e hv
  have fin : EP X pins σ Q u s := ⟨v, H, I, r, h⟩
  rcases l with ⟨hk, hm⟩ | ⟨hk, c, hc, hcell⟩
  · exact wpAny_Name (wpAny_loadName_local I.ok.kind hk hn hm fin) hd
  · rcases hk with hk | hk
    · exact wpAny_Name (wpAny_loadName_cell I.ok.kind hk hc hcell fin) hd
    · exact wpAny_Name (wpAny_loadName_free I.ok.kind hk hc hcell fin hcd) hd
theorem pe_int {i j pos} : PE X (.Constant (.int i) j pos) (tC (.int i)) := fun _ _ _ H _ I h => wpAny_Constant_int ⟨.int i, H, I.tok _, ⟨_, rfl⟩, h⟩
theorem pe_bl {b j pos} : PE X (.Constant (.bool b) j pos) (tC (.bl b)) := fun _ _ _ H _ I h => Constant_bool ⟨.bl b, H, I, rfl, h⟩
theorem pe_non {j pos} : PE X (.Constant .none j pos) (tC .non) := fun _ _ _ H _ I h => Constant_none ⟨.non, H, I, rfl, h⟩
theorem pe_str {x j pos} : PE X (.Constant (.str x) j pos) (tC (.str x)) := fun _ _ _ H _ I h => Calls.Constant_str ⟨.str x, H, I.tok _, ⟨_, rfl⟩, h⟩
def Gl (X : Cx) (x : Str) : Prop := X.env.kindOf x = some .globalImplicit
theorem ld_glob {E : Value → Shared → Prop} {pins : List (Addr × Obj)} {s : Shared} {σ : St} {H : Hp} {x : Str} {u : Value} {pos : Pos} {Q : Value → Shared → Prop} (I : Inv X pins σ H s) (hg : Gl X x) (hm : X.mg x = some u) (h : Q u s)
    (hd : (x == ("__debug__" : Str)) = false := by decide) : wpAny (model X.prog X.w) X.A (eval (.Name x pos) X.env) Q E s :=
  Calls.Name_function_global I.ok.kind hg (Calls.loadGlobal_global (by rw [I.ok.glob]; exact I.mod.glob.keeps I.bk) hm h) hd
theorem ld_blt {E : Value → Shared → Prop} {pins : List (Addr × Obj)} {s : Shared} {σ : St} {H : Hp} {x : Str} {u : Value} {pos : Pos} {Q : Value → Shared → Prop} (I : Inv X pins σ H s) (hg : Gl X x) (hm : X.mg x = none) (hv : bootBuiltins x = some u) (h : Q u s)
    (hn : x ≠ "__name__" := by decide) (hd : (x == ("__debug__" : Str)) = false := by decide) : wpAny (model X.prog X.w) X.A (eval (.Name x pos) X.env) Q E s := by
  obtain ⟨mb, h1, h2⟩ := I.mod.blt
  exact Calls.Name_function_global I.ok.kind hg (Calls.loadGlobal_builtin (by rw [I.ok.glob]; exact I.mod.glob.keeps I.bk) hm (by rw [I.ok.blt]; exact h1.keeps I.bk) ((h2 x hn).trans hv) h) hd
theorem pe_glob {x : Str} {v : V} {u : Value} {pos : Pos} (hg : Gl X x) (hm : X.mg x = some u) (r : RelV v u) (hd : (x == ("__debug__" : Str)) = false := by decide) : PE X (.Name x pos) (tC v) :=
  fun _ _ _ H _ I h => ld_glob I hg hm ⟨v, H, I, r, h⟩ hd
theorem pe_bltn {x : Str} {v : V} {u : Value} {pos : Pos} (hg : Gl X x) (hm : X.mg x = none) (hv : bootBuiltins x = some u) (r : RelV v u) (hn : x ≠ "__name__" := by decide) (hd : (x == ("__debug__" : Str)) = false := by decide) : PE X (.Name x pos) (tC v) :=
  fun _ _ _ H _ I h => ld_blt I hg hm hv ⟨v, H, I, r, h⟩ hn hd
variable {a b : Expr} {ta tb : TE} {pos : Pos}
def PC (X : Cx) (op : CmpOp) (a b : Expr) (t : TE) : Prop :=
  ∀ (pins : List (Addr × Obj)) (s : Shared) (σ : St) (H : Hp) (Q : VK), Inv X pins σ H s → t σ H Q →
    wpAny (model X.prog X.w) X.A (eval a X.env) (fun v s₁ => wpAny (model X.prog X.w) X.A (eval b X.env) (fun u s₂ => wpAny (model X.prog X.w) X.A (compareOp op v u) (EP X pins σ Q) X.xe s₂) X.xe s₁) X.xe s
theorem nobehind (b : Expr) {op : CmpOp} (h : op ≠ .In) (h2 : op ≠ .NotIn) : behindInMarks op b = false := by
  have e1 : (op == CmpOp.In) = false := by cases op <;> first | rfl | exact absurd rfl h
  have e2 : (op == CmpOp.NotIn) = false := by cases op <;> first | rfl | exact absurd rfl h2
  cases b <;> simp [behindInMarks, e1, e2]
def tIsN (ta : TE) : TE := fun σ H Q => ta σ H fun x H1 => Q (.bl (decide (x = .non))) H1
def tNotN (ta : TE) : TE := fun σ H Q => ta σ H fun x H1 => Q (.bl (!decide (x = .non))) H1
theorem RelV.none_iff {x : V} {v : Value} (r : RelV x v) : (v == Value.none) = decide (x = .non) := by
  cases x with
  | non => cases r; rfl
  | bl _ => cases r; rfl
  | int _ => obtain ⟨t, rfl⟩ := r; rfl
  | str _ => obtain ⟨t, rfl⟩ := r; rfl
  | byt _ => obtain ⟨t, rfl⟩ := r; rfl
  | flt _ => obtain ⟨t, rfl⟩ := r; rfl
  | ref _ => cases r; rfl
  | ty _ => cases r; rfl
theorem pc_isN {j pos'} (ha : PE X a ta) : PC X .Is a (.Constant .none j pos') (tIsN ta) := by
  intro pins s σ H Q I h
  refine thn (ha pins s σ H _ I h) fun v s1 ⟨x, H1, I1, r1, q1⟩ => ?_
  exact Constant_none (is_none_gen ⟨.bl _, H1, I1, by rw [r1.none_iff]; rfl, q1⟩)
theorem pc_notN {j pos'} (ha : PE X a ta) : PC X .IsNot a (.Constant .none j pos') (tNotN ta) := by
  intro pins s σ H Q I h
  refine thn (ha pins s σ H _ I h) fun v s1 ⟨x, H1, I1, r1, q1⟩ => ?_
  exact Constant_none (isnot_none_gen ⟨.bl _, H1, I1, by rw [r1.none_iff]; rfl, q1⟩)
def tB (t : TE) : TT := fun σ H Q => t σ H fun x H1 => ∃ c, x = .bl c ∧ Q c H1
theorem pe_cmp {op : CmpOp} {t : TE} (h : PC X op a b t) (h1 : behindInMarks op b = false := by first | exact nobehind _ (by decide) (by decide) | rfl) : PE X (.Compare a [op] [b] pos) t := fun pins s σ H Q I hw => wpAny_Compare1 (h pins s σ H Q I hw) h1
theorem pt_cmp {op : CmpOp} {t : TE} (h : PC X op a b t) (h1 : behindInMarks op b = false := by first | exact nobehind _ (by decide) (by decide) | rfl) : PT X (.Compare a [op] [b] pos) (tB t) := by
  intro pins s σ H Q I hw
  refine wpAny_isTrue_Compare1 (thn (h pins s σ H _ I hw) fun v s1 h1 => thn h1 fun u s2 h2 => thn h2 fun c s3 ⟨x, H1, I1, r1, q1⟩ => ?_) h1
  obtain ⟨d, rfl, q⟩ := q1
  cases r1
  exact wpAny_truthy_bool ⟨H1, I1, q⟩
theorem pt_val {e : Expr} {t : TE} (h : PE X e t) (he : ∀ whole, isTrue e X.env whole = (do let v ← whole; standAt e.pos; holding [v] (truthy v)) := by intro _; rfl) : PT X e (tB t) := by
  intro pins s σ H Q I hw
  refine isTrue_plain (thn (h pins s σ H _ I hw) fun v s1 ⟨x, H1, I1, r1, q1⟩ => ?_) (he _)
  obtain ⟨d, rfl, q⟩ := q1
  cases r1
  exact wpAny_truthy_bool ⟨H1, I1, q⟩
variable {tA tB' : TT} {rest : List Expr}
def tAnd (t u : TT) : TT := fun σ H Q => t σ H fun c H1 => if c = true then u σ H1 Q else Q false H1
def tOr (t u : TT) : TT := fun σ H Q => t σ H fun c H1 => if c = true then Q true H1 else u σ H1 Q
def tNot (t : TT) : TT := fun σ H Q => t σ H fun c H1 => Q (!c) H1
theorem pw_and1 (ha : PT X a tA) : PW X (.BoolOp .And [a] pos) tA := by
  intro wh pins s σ H Q I h
  refine isTrue_and (thn (ha pins s σ H Q I h) fun c s1 e => ?_)
  cases c with
  | true => exact isTrue_and_nil e
  | false => exact e
theorem pw_or1 (ha : PT X a tA) : PW X (.BoolOp .Or [a] pos) tA := by
  intro wh pins s σ H Q I h
  refine isTrue_or (thn (ha pins s σ H Q I h) fun c s1 e => ?_)
  cases c with
  | false => exact isTrue_or_nil e
  | true => exact e
theorem pw_and (ha : PT X a tA) (hb : PW X (.BoolOp .And (b :: rest) pos) tB') : PW X (.BoolOp .And (a :: b :: rest) pos) (tAnd tA tB') := by
  intro wh pins s σ H Q I h
  refine isTrue_and (thn (ha pins s σ H _ I h) fun c s1 ⟨H1, I1, q1⟩ => ?_)
  cases c with
  | true => exact hb wh pins s1 σ H1 Q I1 q1
  | false => exact ⟨H1, I1, q1⟩
theorem pw_or (ha : PT X a tA) (hb : PW X (.BoolOp .Or (b :: rest) pos) tB') : PW X (.BoolOp .Or (a :: b :: rest) pos) (tOr tA tB') := by
  intro wh pins s σ H Q I h
  refine isTrue_or (thn (ha pins s σ H _ I h) fun c s1 ⟨H1, I1, q1⟩ => ?_)
  cases c with
  | true => exact ⟨H1, I1, q1⟩
  | false => exact hb wh pins s1 σ H1 Q I1 q1
theorem pt_not (ha : PT X a tA) : PT X (.UnaryOp .Not a pos) (tNot tA) := by
  intro pins s σ H Q I h
  exact isTrue_not (ha pins s σ H (fun c H1 => Q (!c) H1) I h)
def tAndV (ta tb : TE) : TE := fun σ H Q => ta σ H fun x H1 => ∃ c, x = .bl c ∧ if c = true then tb σ H1 Q else Q (.bl false) H1
def tOrV (ta tb : TE) : TE := fun σ H Q => ta σ H fun x H1 => ∃ c, x = .bl c ∧ if c = true then Q (.bl true) H1 else tb σ H1 Q
def tNotV (ta : TE) : TE := fun σ H Q => ta σ H fun x H1 => ∃ c, x = .bl c ∧ Q (.bl (!c)) H1
theorem pe_one {op} {t : TE} (h : PE X a t) : PE X (.BoolOp op [a] pos) t := fun pins s σ H Q I hw => BoolOp_one (h pins s σ H Q I hw)
theorem pe_and (ha : PE X a ta) (hb : PE X (.BoolOp .And (b :: rest) pos) tb) : PE X (.BoolOp .And (a :: b :: rest) pos) (tAndV ta tb) := by
  intro pins s σ H Q I h
  refine BoolOp_and (thn (ha pins s σ H _ I h) fun v s1 ⟨x, H1, I1, r1, q1⟩ => ?_)
  obtain ⟨c, rfl, q1⟩ := q1
  cases r1
  refine wpAny_truthy_bool ?_
  cases c with
  | true => exact hb pins s1 σ H1 Q I1 q1
  | false => exact ⟨.bl false, H1, I1, rfl, q1⟩
theorem pe_or (ha : PE X a ta) (hb : PE X (.BoolOp .Or (b :: rest) pos) tb) : PE X (.BoolOp .Or (a :: b :: rest) pos) (tOrV ta tb) := by
  intro pins s σ H Q I h
  refine BoolOp_or (thn (ha pins s σ H _ I h) fun v s1 ⟨x, H1, I1, r1, q1⟩ => ?_)
  obtain ⟨c, rfl, q1⟩ := q1
  cases r1
  refine wpAny_truthy_bool ?_
  cases c with
  | false => exact hb pins s1 σ H1 Q I1 q1
  | true => exact ⟨.bl true, H1, I1, rfl, q1⟩
theorem pe_not (ha : PE X a ta) : PE X (.UnaryOp .Not a pos) (tNotV ta) := by
  intro pins s σ H Q I h
  refine UnaryOp_ (thn (ha pins s σ H _ I h) fun v s1 ⟨x, H1, I1, r1, q1⟩ => ?_)
  obtain ⟨c, rfl, q1⟩ := q1
  cases r1
  exact not_of (wpAny_truthy_bool ⟨.bl (!c), H1, I1, rfl, q1⟩)
end
end L2
namespace L2
open PySem PySem.Spec PyProof.Rows
def SqL (K : PySem.W.Frag) (H : Hp) (a : Addr) (xs : List V) : Prop :=
  Rd H a (.lst xs) ∨
    ∃ (o : Obj) (its : Array Value) (n : Nat), K.lookup a = some o ∧ o.cls = .type "list" ∧ o.dict = none ∧ o.data = .seq its n ∧ its.size ≤ sizeLine ∧ Vals xs its.toList
def SqT (K : PySem.W.Frag) (H : Hp) (a : Addr) (xs : List V) : Prop :=
  Rd H a (.tup xs) ∨
    ∃ (o : Obj) (its : Array Value) (n : Nat), K.lookup a = some o ∧ o.cls = .type "tuple" ∧ o.data = .seq its n ∧ its.size ≤ sizeLine ∧ Vals xs its.toList
def absV : Value → Option V
  | .none => some .non
  | .bool b => some (.bl b)
  | .int i _ => some (.int i)
  | .str x _ => some (.str x)
  | .bytes b _ => some (.byt b)
  | .float b _ => some (.flt b)
  | .ref a => some (.ref a)
  | .type n => some (.ty n)
  | _ => none
theorem RelV.abs {x : V} {u : Value} (r : RelV x u) : absV u = some x := by
  cases x with
  | non => cases r; rfl
  | bl _ => cases r; rfl
  | int _ => obtain ⟨t, rfl⟩ := r; rfl
  | str _ => obtain ⟨t, rfl⟩ := r; rfl
  | byt _ => obtain ⟨t, rfl⟩ := r; rfl
  | flt _ => obtain ⟨t, rfl⟩ := r; rfl
  | ref _ => cases r; rfl
  | ty _ => cases r; rfl
theorem RelV.inj {x y : V} {u : Value} (r : RelV x u) (q : RelV y u) : x = y := Option.some.inj (r.abs.symm.trans q.abs)
theorem Vals.inj : ∀ {xs ys : List V} {us : List Value}, Vals xs us → Vals ys us → xs = ys
  | _, _, _, .nil, .nil => rfl
  | _, _, _, .cons r t, .cons r' t' => by rw [r.inj r', Vals.inj t t']
section
variable {X : Cx} {pins : List (Addr × Obj)} {σ : St} {H : Hp} {s : Shared} {a : Addr} {xs ys : List V}
theorem SqL.of {K : PySem.W.Frag} (h : H a = some (.lst xs)) : SqL K H a xs := .inl (.inl h)
theorem SqT.of {K : PySem.W.Frag} (h : H a = some (.tup xs)) : SqT K H a xs := .inl (.inl h)
theorem Inv.list (I : Inv X pins σ H s) (h : SqL X.K H a xs) : ∃ its : List Value, Vals xs its ∧ PlainL s.heap a its.toArray ∧ xs.length ≤ sizeLine := by
  rcases h with h | ⟨o, its, n, hk, hc, hd, hs, hz, r⟩
  · obtain ⟨z, its, n, r, e⟩ := h.ok I.hok
    exact ⟨its, r, ⟨_, n, e, rfl, rfl, rfl⟩, z⟩
  · refine ⟨its.toList, r, ⟨o, n, I.kIn a o hk, hc, hd, by simpa using hs⟩, ?_⟩
    have e := r.length
    simp only [Array.length_toList] at e
    omega
theorem Inv.tuple (I : Inv X pins σ H s) (h : SqT X.K H a xs) : ∃ its : List Value, Vals xs its ∧ IsTup s.heap a its.toArray ∧ xs.length ≤ sizeLine := by
  rcases h with h | ⟨o, its, n, hk, hc, hs, hz, r⟩
  · obtain ⟨z, its, r, p⟩ := h.ok I.hok
    exact ⟨its, r, p, z⟩
  · refine ⟨its.toList, r, ⟨o, I.kIn a o hk, hc, n, by simpa using hs⟩, ?_⟩
    have e := r.length
    simp only [Array.length_toList] at e
    omega
theorem Inv.list_inj (I : Inv X pins σ H s) (h : SqL X.K H a xs) (h' : SqL X.K H a ys) : xs = ys := by
  obtain ⟨its, r, ⟨o, n, e, _, _, d⟩, _⟩ := I.list h
  obtain ⟨its', r', ⟨o', n', e', _, _, d'⟩, _⟩ := I.list h'
  rw [e] at e'; cases e'
  rw [d] at d'
  injection d' with d1 _
  have : its = its' := by simpa using congrArg Array.toList d1
  subst this
  exact r.inj r'
end
abbrev Cx.wish (X : Cx) (E : Value → Shared → Prop) : Cx := { X with xe := E }
abbrev Cx.nox (X : Cx) : Cx := X.wish fun _ _ => False
theorem Cx.Ok.wish {X : Cx} (ok : X.Ok) (E : Value → Shared → Prop) : (X.wish E).Ok :=
  ⟨ok.mod, ok.kind, ok.glob, ok.blt, ok.above, ok.inj, ok.has, ok.cab, ok.hd, ok.frames, ok.stk, ok.exf, ok.bs, ok.bsz, ok.noex, ok.exfs, ok.funs, ok.frf⟩
theorem Cx.Ok.unwish {X : Cx} {E : Value → Shared → Prop} (ok : (X.wish E).Ok) : X.Ok :=
  ⟨ok.mod, ok.kind, ok.glob, ok.blt, ok.above, ok.inj, ok.has, ok.cab, ok.hd, ok.frames, ok.stk, ok.exf, ok.bs, ok.bsz, ok.noex, ok.exfs, ok.funs, ok.frf⟩
section
variable {X : Cx} {pins : List (Addr × Obj)} {σ : St} {H : Hp} {s : Shared} {E : Value → Shared → Prop}
theorem Inv.wish (I : Inv X pins σ H s) (E : Value → Shared → Prop) : Inv (X.wish E) pins σ H s := ⟨I.ok.wish E, I.os, I.bare, I.base, I.loc, I.cell, I.free, I.freeC, I.pin, I.hok, I.len⟩
theorem Inv.unwish (I : Inv (X.wish E) pins σ H s) : Inv X pins σ H s := ⟨I.ok.unwish, I.os, I.bare, I.base, I.loc, I.cell, I.free, I.freeC, I.pin, I.hok, I.len⟩
theorem SP.unwish {D : Ends} {f : Flow} {s' : Shared} (h : SP (X.wish E) pins D f s') : SP X pins D f s' := by
  cases f with
  | next => obtain ⟨σ', H', I, q⟩ := h; exact ⟨σ', H', I.unwish, q⟩
  | brk => obtain ⟨σ', H', I, q⟩ := h; exact ⟨σ', H', I.unwish, q⟩
  | cont => obtain ⟨σ', H', I, q⟩ := h; exact ⟨σ', H', I.unwish, q⟩
  | ret u => obtain ⟨v, σ', H', I, r, q⟩ := h; exact ⟨v, σ', H', I.unwish, r, q⟩
theorem PE.nox {e : Expr} {t : TE} (h : PE X.nox e t) : PE X e t := fun pins s σ H Q I hw =>
  wpAny_mono (h pins s σ H Q (I.wish _) hw) (fun _ _ ⟨v, H', I', r, q⟩ => ⟨v, H', I'.unwish, r, q⟩) fun _ _ z => False.elim z
theorem PT.nox {e : Expr} {t : TT} (h : PT X.nox e t) : PT X e t := fun pins s σ H Q I hw =>
  wpAny_mono (h pins s σ H Q (I.wish _) hw) (fun _ _ ⟨H', I', q⟩ => ⟨H', I'.unwish, q⟩) fun _ _ z => False.elim z
theorem PSs.nox {st : List Stmt} {t : TS} (h : PSs X.nox st t) : PSs X st t := fun pins s σ H D I hw =>
  wpAny_mono (h pins s σ H D (I.wish _) hw) (fun _ _ q => q.unwish) fun _ _ z => False.elim z
end
section
variable {X : Cx} {st : Stmt} {rest : List Stmt} {t u : TS} {e : Expr} {te : TE} {pos : Pos}
def tNext : TS := fun D σ H => D.nx σ H
def tSeq (t u : TS) : TS := fun D σ H => t { D with nx := u D } σ H
theorem pss_nil : PSs X [] tNext := fun _ _ σ H _ I h => wpAny_execs_nil ⟨σ, H, I, h⟩
theorem pss_cons (h1 : PS X st t) (h2 : PSs X rest u) : PSs X (st :: rest) (tSeq t u) := by
  intro pins s σ H D I h
  refine wpAny_execs_cons (thn (h1 pins s σ H { D with nx := u D } I h) fun f s1 q => ?_)
  cases f with
  | next =>
    obtain ⟨σ', H', I', q⟩ := q
    exact h2 pins s1 σ' H' D I' q
  | ret v => exact q
  | brk => exact q
  | cont => exact q
theorem pss_one (h1 : PS X st t) : PSs X [st] t := by
  intro pins s σ H D I h
  refine wpAny_execs_cons (thn (h1 pins s σ H D I h) fun f s1 q => ?_)
  cases f with
  | next => exact wpAny_execs_nil q
  | ret v => exact q
  | brk => exact q
  | cont => exact q
theorem Inv.quiet {pins : List (Addr × Obj)} {σ : St} {H : Hp} {s : Shared} (I : Inv X pins σ H s) : interactive X.env = false := by simp [interactive, I.ok.kind]
def tDrop (te : TE) : TS := fun D σ H => te σ H fun _ H1 => D.nx σ H1
theorem ps_expr (he : PE X e te) (hs : swapsWith e none pos.line X.env = pure false := by rfl) : PS X (.Expr e pos) (tDrop te) := by
  intro pins s σ H D I h
  exact wpAny_Expr_any (thn (he pins s σ H _ I h) fun v s1 ⟨x, H1, I1, r1, q1⟩ => ⟨σ, H1, I1, q1⟩) I.quiet hs
def tRet (te : TE) : TS := fun D σ H => te σ H D.rt
theorem ps_ret (he : PE X e te) : PS X (.Return (some e) pos) (tRet te) := by
  intro pins s σ H D I h
  exact wpAny_Return_some (thn (he pins s σ H _ I h) fun v s1 ⟨x, H1, I1, r1, q1⟩ => ⟨x, σ, H1, I1, r1, q1⟩)
def tIfS (c : TT) (t u : TS) : TS := fun D σ H => c σ H fun b H1 => if b = true then t D σ H1 else u D σ H1
theorem ps_if {c : Expr} {a b : List Stmt} {tc : TT} (hc : PT X c tc) (ha : PSs X a t) (hb : PSs X b u) : PS X (.If c a b pos) (tIfS tc t u) := by
  intro pins s σ H D I h
  refine wpAny_If (thn (hc pins s σ H _ I h) fun d s1 ⟨H1, I1, q1⟩ => ?_)
  cases d with
  | true => exact ha pins s1 σ H1 D I1 q1
  | false => exact hb pins s1 σ H1 D I1 q1
end
abbrev TG := V → St → Hp → (St → Hp → Prop) → Prop
abbrev TGs := List V → St → Hp → (St → Hp → Prop) → Prop
def PG (X : Cx) (target : Expr) (t : TG) : Prop :=
  ∀ (pins : List (Addr × Obj)) (s : Shared) (σ : St) (H : Hp) (v : V) (u : Value) (Q : St → Hp → Prop), Inv X pins σ H s → RelV v u → t v σ H Q →
    wpAny (model X.prog X.w) X.A (assign target X.env u) (fun _ s' => ∃ σ' H', Inv X pins σ' H' s' ∧ Q σ' H') X.xe s
def PGs (X : Cx) (ts : List Expr) (t : TGs) : Prop :=
  ∀ (pins : List (Addr × Obj)) (s : Shared) (σ : St) (H : Hp) (vs : List V) (us : List Value) (Q : St → Hp → Prop), Inv X pins σ H s → Vals vs us → t vs σ H Q →
    wpAny (model X.prog X.w) X.A (assignInOrder ((assignEach ts X.env).map (·.2)) us) (fun _ s' => ∃ σ' H', Inv X pins σ' H' s' ∧ Q σ' H') X.xe s
abbrev TSet := V → V → V → Hp → (Hp → Prop) → Prop
def PSet (X : Cx) (t : TSet) : Prop :=
  ∀ (pins : List (Addr × Obj)) (s : Shared) (σ : St) (H : Hp) (o i v : V) (ov iv u : Value) (Q : Hp → Prop), Inv X pins σ H s → RelV o ov → RelV i iv → RelV v u → t o i v H Q →
    wpAny (model X.prog X.w) X.A (setItem ov iv u) (fun _ s' => ∃ H', Inv X pins σ H' s' ∧ Q H') X.xe s
section
variable {X : Cx} {pos : Pos}
def gName (i : Nat) : TG := fun v σ H Q => Q (σ.set i (some v)) H
theorem pg_name {i : Nat} {x : Str} (hN : X.N.Nodup) (hi : X.N[i]? = some x) (hx : Loc X.env.scope x) (hf : X.fn x = true ∨ X.env.scope.names.lookup x = some .local := by first | exact .inl rfl | exact .inr rfl | assumption) : PG X (.Name x pos) (gName i) := by
  intro pins s σ H v u Q I r h
  exact wpAny_assign_Name (store_ok I hN hi hx r (fun s' I' => ⟨_, H, I', h⟩) hf)
def gNil : TGs := fun vs σ H Q => vs = [] ∧ Q σ H
def gCons (t : TG) (u : TGs) : TGs := fun vs σ H Q => ∃ v r, vs = v :: r ∧ t v σ H fun σ' H' => u r σ' H' Q
theorem pgs_nil : PGs X [] gNil := by
  intro pins s σ H vs us Q I r h
  obtain ⟨e, h⟩ := h
  subst e
  cases r
  exact assignInOrder_nil ⟨σ, H, I, h⟩
theorem pgs_cons {e : Expr} {es : List Expr} {t : TG} {u : TGs} (h1 : PG X e t) (h2 : PGs X es u)
    (hs : (assignEach (e :: es) X.env).map (·.2) = assign e X.env :: (assignEach es X.env).map (·.2) := by rfl) : PGs X (e :: es) (gCons t u) := by
  intro pins s σ H vs us Q I r h
  obtain ⟨v, vr, e1, h⟩ := h
  subst e1
  cases r with
  | cons r rr =>
    rw [hs]
    refine assignInOrder_cons (thn (h1 pins s σ H _ _ _ I r h) fun _ s1 ⟨σ1, H1, I1, q1⟩ => ?_)
    exact h2 pins s1 σ1 H1 _ _ Q I1 rr q1
def gTup (K : PySem.W.Frag) (n : Nat) (t : TGs) : TG := fun v σ H Q => ∃ a xs, v = .ref a ∧ SqT K H a xs ∧ xs.length = n ∧ t xs σ H Q
theorem pg_tup {es : List Expr} {k : Nat} {t : TGs} {n : Nat} (hc : X.calm = true) (h : PGs X es t)
    (hn : (assignEach es X.env).length = n := by rfl) (hst : (assignEach es X.env).findIdx? (·.1) = none := by rfl) : PG X (.Tuple es k pos) (gTup X.K n t) := by
  intro pins s σ H v u Q I r hw
  obtain ⟨a, xs, e1, hq, hl, hw⟩ := hw
  subst e1
  cases r
  obtain ⟨its, rv, ht, hz⟩ := I.tuple hq
  refine assign_Tuple_tuple (I.ok.hd hc) ht (by simp [hn, ← hl, rv.length]) hst fun h' hx => ?_
  have I1 : Inv X pins σ H { s with heap := h' } := I.kept (t' := s.toks) fun b o e => hx b o (Nat.ne_of_lt (Heap.lt_size e)) e
  exact h pins _ σ H xs _ Q I1 (by simpa using rv) hw
def gSub (to ti : TE) (t : TSet) : TG := fun v σ H Q => to σ H fun o H1 => ti σ H1 fun i H2 => t o i v H2 fun H3 => Q σ H3
theorem pg_sub {o i : Expr} {to ti : TE} {t : TSet} (ho : PE X o to) (hi : PE X i ti) (hs : PSet X t)
    (ha : ∀ v, assign (.Subscript o i pos) X.env v = (do
      let ov ← holding [v] (eval o X.env)
      let iv ← holding [v, ov] (eval i X.env)
      standAt pos
      holding [v, ov, iv] (setItem ov iv v)
      release [v, ov, iv] []) := by intro _; rfl) : PG X (.Subscript o i pos) (gSub to ti t) := by
  intro pins s σ H v u Q I r h
  rw [ha]
  refine wpAny_bind (wpAny_holding (thn (ho pins s σ H _ I h) fun ov s1 ⟨x, H1, I1, r1, q1⟩ => ?_))
  refine wpAny_bind (wpAny_holding (thn (hi pins s1 σ H1 _ I1 q1) fun iv s2 ⟨y, H2, I2, r2, q2⟩ => ?_))
  refine wpAny_bind (wpAny_standAt (wpAny_bind (wpAny_holding (thn (hs pins s2 σ H2 x y v ov iv u _ I2 r1 r2 r q2) fun _ s3 ⟨H3, I3, q3⟩ => ?_))))
  exact wpAny_release ⟨σ, H3, I3, q3⟩
def tAsg (te : TE) (g : TG) : TS := fun D σ H => te σ H fun x H1 => g x σ H1 D.nx
theorem ps_asg {tg e : Expr} {te : TE} {g : TG} (he : PE X e te) (hg : PG X tg g) (hs : swapsWithSole [tg] e pos.line X.env = pure false := by rfl) (hw : swappedStores [tg] e X.env = pure none := by rfl)
    (h1 : (assignEach [tg] X.env).map (·.2) = [assign tg X.env] := by rfl) : PS X (.Assign [tg] e pos) (tAsg te g) := by
  intro pins s σ H D I h
  refine wpAny_Assign_stores (thn (he pins s σ H _ I h) fun v s1 ⟨x, H1, I1, r1, q1⟩ => ?_) hs hw
  rw [h1]
  exact thn (hg pins s1 σ H1 x v _ I1 r1 q1) fun _ s2 q => q
theorem ps_set {i : Nat} {x : Str} {e : Expr} {te : TE} {pos' : Pos} (hN : X.N.Nodup) (hi : X.N[i]? = some x) (hx : Loc X.env.scope x) (he : PE X e te) (hs : swapsWith e (some (.Name x pos')) pos.line X.env = pure false := by rfl) (hf : X.fn x = true ∨ X.env.scope.names.lookup x = some .local := by first | exact .inl rfl | exact .inr rfl | assumption) :
    PS X (.Assign [.Name x pos'] e pos) (tAsg te (gName i)) := by
  intro pins s σ H D I h
  refine wpAny_Assign_Name (thn (he pins s σ H _ I h) fun v s1 ⟨y, H1, I1, r1, q1⟩ => ?_) hs
  exact store_ok I1 hN hi hx r1 (fun s2 I2 => ⟨_, H1, I2, q1⟩) hf
end
section
variable {X : Cx} {pos : Pos}
end
structure It where
  go : Nat → Hp → Prop
  yld : Nat → Hp → V → Hp → Prop
  stop : Nat → Hp → Prop
def FpOk (X : Cx) (pins : List (Addr × Obj)) (H : Hp) (b : Addr) : Prop :=
  H b = none ∧ b ≠ X.env.locals ∧ b ∉ X.fs ∧ (b ∈ X.ex ∨ X.s₀.heap.objs.size ≤ b) ∧ (∀ x c, X.env.cells.lookup x = some c → c ≠ b) ∧ ∀ p ∈ X.pn ++ pins, p.1 ≠ b
theorem Inv.fpOk {X : Cx} {pins : List (Addr × Obj)} {σ : St} {H H' : Hp} {s : Shared} {b : Addr} (I : Inv X pins σ H s) (hb : s.heap.objs.size ≤ b) (hn : H' b = none) : FpOk X pins H' b := by
  refine ⟨hn, Nat.ne_of_gt (Nat.lt_of_lt_of_le I.lt hb), I.nofs hb, .inr (Nat.le_trans I.sz hb), fun x c e z => ?_, fun p hp z => ?_⟩
  · obtain ⟨v, q⟩ := I.cell x c e
    exact absurd (Nat.lt_of_lt_of_le q.lt (by rw [z]; exact hb)) (Nat.lt_irrefl _)
  · exact absurd (Nat.lt_of_lt_of_le (Heap.lt_size (I.pin p hp).1) (by rw [z]; exact hb)) (Nat.lt_irrefl _)
structure Turn (P : Program) (w : World) (K : PySem.W.Frag) (tg : Expr) (J : It) (fp : List Addr) (it : Addr) (tn : Nat → Heap → Prop) : Prop where
  mem : it ∈ fp
  obj : ∀ i h, tn i h → ∀ b ∈ fp, ∃ o, h.get? b = some o ∧ ∀ v, o.data ≠ .cell v
  keep : ∀ i h h', tn i h → (∀ b ∈ fp, ∀ o, h.get? b = some o → h'.get? b = some o) → tn i h'
  item : ∀ (X : Cx), X.prog = P → X.w = w → X.K = K → X.calm = true → ∀ (i : Nat) (pins : List (Addr × Obj)) (s : Shared) (σ : St) (H : Hp) (E : Value → Shared → Prop), Inv X pins σ H s → (∀ b ∈ fp, FpOk X pins H b) → tn i s.heap → J.go i H →
    wpAny (model P w) X.A (pyNext (.ref it)) (fun r s1 => ∃ u, r = some u ∧
      wpAny (model P w) X.A (letOwnedTupleGo tg (.ref it) u) (fun _ s2 => ∃ x H', Inv X pins σ H' s2 ∧ RelV x u ∧ J.yld i H x H' ∧ tn (i + 1) s2.heap ∧ ∀ b ∈ fp, H' b = none) E s1) E s
  done : ∀ (X : Cx), X.prog = P → X.w = w → X.K = K → X.calm = true → ∀ (i : Nat) (pins : List (Addr × Obj)) (s : Shared) (σ : St) (H : Hp) (E : Value → Shared → Prop), Inv X pins σ H s → (∀ b ∈ fp, FpOk X pins H b) → tn i s.heap → J.stop i H →
    wpAny (model P w) X.A (pyNext (.ref it)) (fun r s1 => r = none ∧ Inv X pins σ H s1) E s
  self : ∀ (A : Around) (i : Nat) (s : Shared) (Q : Value → Shared → Prop) (E : Value → Shared → Prop), tn i s.heap → Q (.ref it) s → wpAny (model P w) A (pyIter (.ref it)) Q E s
abbrev TI := St → Hp → (It → Hp → Prop) → Prop
def PIE (X : Cx) (pins : List (Addr × Obj)) (σ : St) (tg : Expr) (R : It → Hp → Prop) (itv : Value) (s2 : Shared) : Prop :=
  ∃ (it : Addr) (fp : List Addr) (tn : Nat → Heap → Prop) (J : It) (H' : Hp), itv = .ref it ∧ Inv X pins σ H' s2 ∧ Turn X.prog X.w X.K tg J fp it tn ∧ tn 0 s2.heap ∧ (∀ b ∈ fp, FpOk X pins H' b) ∧ R J H'
def PI (X : Cx) (tg iter : Expr) (wi : TI) : Prop :=
  ∀ (pins : List (Addr × Obj)) (s : Shared) (σ : St) (H : Hp) (R : It → Hp → Prop), Inv X pins σ H s → wi σ H R →
    wpAny (model X.prog X.w) X.A (eval iter X.env) (fun v s1 => wpAny (model X.prog X.w) X.A (pyIter v) (PIE X pins σ tg R) X.xe s1) X.xe s
theorem go_of {M : Model} {A : Around} {E : Value → Shared → Prop} {s : Shared} {tg : Expr} {it : Addr} {u : Value} {o : Obj} {n : String} {vs : Array Value} {Q : Unit → Shared → Prop} (ho : s.heap.get? it = some o) (hc : o.cls = .type n) (hd : o.data = .fields vs)
    (hn : ["enumerate", "zip", "dict_itemiterator", "dict_reverseitemiterator", "odict_iterator", "itertools.zip_longest", "itertools.pairwise"].contains n = false) (hQ : Q () s) : wpAny M A (letOwnedTupleGo tg (.ref it) u) Q E s := by
  unfold letOwnedTupleGo
  cases tg <;> first
    | exact wpAny_pure hQ
    | (cases u <;> first
        | exact wpAny_pure hQ
        | (refine wpAny_bind (wpAny_load ho ?_)
           rw [hc, hd]
           show wpAny M A (if (["enumerate", "zip", "dict_itemiterator", "dict_reverseitemiterator", "odict_iterator", "itertools.zip_longest", "itertools.pairwise"].contains n && vs[0]? == some (rawInt _)) = true then _ else _) Q E s
           rw [if_neg (by intro h; rw [hn, Bool.false_and] at h; cases h)]
           exact wpAny_pure hQ))
def Itl (K : PySem.W.Frag) (a : Addr) : It :=
  ⟨fun i H => ∃ xs x, SqL K H a xs ∧ xs[i]? = some x, fun i H x H' => H' = H ∧ ∀ xs, SqL K H a xs → xs[i]? = some x, fun i H => ∃ xs, SqL K H a xs ∧ xs.length ≤ i⟩
def Itr (lo : Int) (n : Nat) : It := ⟨fun i _ => i < n, fun i H x H' => H' = H ∧ x = .int (lo + i), fun i _ => n ≤ i⟩
theorem turn_list {P : Program} {w : World} {K : PySem.W.Frag} {tg : Expr} (a it : Addr) : Turn P w K tg (Itl K a) [it] it (fun i h => h.IsListIter it a i) where
  mem := by simp
  obj := fun i h st b hb => by
    have e : b = it := by simpa using hb
    subst e
    obtain ⟨o, e, c, d⟩ := st
    exact ⟨o, e, fun v z => by rw [d] at z; cases z⟩
  keep := fun i h h' st k => st.at fun o e => k it (by simp) o e
  item := by
    intro X hP hw hK hc i pins s σ H E I hf st hg
    subst hP hw hK
    obtain ⟨xs, x, hq, hx⟩ := hg
    obtain ⟨its, rv, p, hz⟩ := I.list hq
    obtain ⟨u, hu, ru⟩ := rv.get hx
    obtain ⟨f0, f1, f2, f3, f4, f5⟩ := hf it (by simp)
    refine wpAny_pyNext_list_item st p.isList (x := u) (by simpa using hu) fun h' st' sb => ?_
    have I1 : Inv X pins σ H { s with heap := h' } := I.turned (t' := s.toks) (fun b o hb e => (sb.2 b hb).trans e) f0 f1 f3 f4 f5
    obtain ⟨o, e, c, d⟩ := id st'
    exact ⟨u, rfl, go_of (s := { s with heap := h' }) e c d (by decide) ⟨x, H, I1, ru, ⟨rfl, fun ys hy => by rw [I.list_inj hy hq]; exact hx⟩, st', fun b hb => (hf b hb).1⟩⟩
  done := by
    intro X hP hw hK hc i pins s σ H E I hf st hg
    subst hP hw hK
    obtain ⟨xs, hq, hx⟩ := hg
    obtain ⟨its, rv, p, hz⟩ := I.list hq
    obtain ⟨f0, f1, f2, f3, f4, f5⟩ := hf it (by simp)
    have hl := rv.length
    exact wpAny_pyNext_list_end (I.ok.hd hc) st p.isList (by simp; omega) fun h' eb => ⟨rfl, I.turned (t' := s.toks) (fun b o hb e => eb b o hb e) f0 f1 f3 f4 f5⟩
  self := fun _ _ _ _ _ st h => wpAny_pyIter_listiter st h
theorem turn_range {P : Program} {w : World} {K : PySem.W.Frag} {tg : Expr} (it : Addr) (lo : Int) (n : Nat) : Turn P w K tg (Itr lo n) [it] it (fun i h => IsRangeIter h it (lo + (i : Nat) * 1) ((n : Int) - (i : Nat)) 1) where
  mem := by simp
  obj := fun i h st b hb => by
    have e : b = it := by simpa using hb
    subst e
    exact ⟨_, st, fun v z => by
      have z' : Data.fields _ = Data.cell v := z
      cases z'⟩
  keep := fun i h h' st k => k it (by simp) _ st
  item := by
    intro X hP hw hK hc i pins s σ H E I hf st hg
    subst hP hw hK
    obtain ⟨f0, f1, f2, f3, f4, f5⟩ := hf it (by simp)
    have W := Walks.range (prog := X.prog) (w := X.w) (I.ok.hd hc) it lo 1 n
    refine W.item i s _ _ hg st fun v h' tk hv st' kk => ?_
    obtain ⟨t, rfl⟩ := hv
    have I1 : Inv X pins σ H { s with heap := h', toks := tk } := I.turned (fun b o hb e => kk b o (by simpa using hb) e) f0 f1 f3 f4 f5
    refine ⟨_, rfl, go_of (s := { s with heap := h', toks := tk }) (n := "range_iterator") st' rfl rfl (by decide) ⟨.int (lo + i), H, I1, ⟨t, ?_⟩, ⟨rfl, rfl⟩, st', fun b hb => (hf b hb).1⟩⟩
    rw [Int.mul_one]
  done := by
    intro X hP hw hK hc i pins s σ H E I hf st hg
    subst hP hw hK
    obtain ⟨f0, f1, f2, f3, f4, f5⟩ := hf it (by simp)
    exact wpAny_pyNext_range_end (I.ok.hd hc) st (by have : n ≤ i := hg; omega) fun h' eb => ⟨rfl, I.turned (t' := s.toks) (fun b o hb e => eb b o hb e) f0 f1 f3 f4 f5⟩
  self := fun _ _ _ _ _ st h => wpAny_pyIter_rangeiter st h
end L2
namespace L2
open PySem PySem.Spec PyProof.Rows
section
variable {X : Cx} {tg : Expr}
def iList (K : PySem.W.Frag) (tl : TE) : TI := fun σ H R => tl σ H fun x H1 => ∃ a, x = .ref a ∧ (∃ xs, SqL K H1 a xs) ∧ R (Itl K a) H1
theorem pi_list {l : Expr} {tl : TE} (hl : PE X l tl) : PI X tg l (iList X.K tl) := by
  intro pins s σ H R I h
  refine thn (hl pins s σ H _ I h) fun v s1 ⟨x, H1, I1, r1, q1⟩ => ?_
  obtain ⟨a, e, ⟨xs, hq⟩, q⟩ := q1
  subst e
  cases r1
  obtain ⟨its, rv, p, hz⟩ := I1.list hq
  refine wpAny_pyIter_list p.isList ?_
  refine ⟨s1.heap.objs.size, [s1.heap.objs.size], _, _, H1, rfl, I1.kept (t' := s1.toks) fun b o e => Heap.get?_push_of_some _ e, turn_list a _, ⟨_, Heap.get?_push_size _ rfl, rfl, rfl⟩, fun b hb => ?_, q⟩
  have e : b = s1.heap.objs.size := by simpa using hb
  subst e
  exact I1.fpOk (Nat.le_refl _) (I1.hok.fresh (Nat.le_refl _))
theorem range_it {pins : List (Addr × Obj)} {σ : St} {H : Hp} {s : Shared} {R : It → Hp → Prop} {E : Value → Shared → Prop} {lo hi : Int} {t u v : Tok} {tk : Nat} (I : Inv X pins σ H s) (h1 : -(2 ^ 62) ≤ lo) (h2 : lo < 2 ^ 62) (h3 : -(2 ^ 62) ≤ hi) (h4 : hi < 2 ^ 62)
    (q : R (Itr lo (hi - lo).toNat) H) : wpAny (model X.prog X.w) X.A (pyIter (.ref s.heap.objs.size)) (PIE X pins σ tg R) E { s with heap := s.heap.push { cls := .type "range", data := .fields #[.int lo t, .int hi u, .int 1 v] }, toks := tk } := by
  refine wpAny_pyIter_range (IsRange.new ..) (small_one h1 h2 h3 h4) ?_
  have I1 : Inv X pins σ H { s with heap := s.heap.push { cls := .type "range", data := .fields #[.int lo t, .int hi u, .int 1 v] }, toks := tk } := I.kept fun b o e => Heap.get?_push_of_some _ e
  refine ⟨(s.heap.push { cls := .type "range", data := .fields #[.int lo t, .int hi u, .int 1 v] }).objs.size, [(s.heap.push { cls := .type "range", data := .fields #[.int lo t, .int hi u, .int 1 v] }).objs.size], _, _, H, rfl,
    I1.kept (t' := tk) fun b o e => Heap.get?_push_of_some _ e, turn_range _ lo (hi - lo).toNat, ?_, fun b hb => ?_, q⟩
  · have e1 : lo + ((0 : Nat) : Int) * 1 = lo := by simp
    have e2 : (((hi - lo).toNat : Nat) : Int) - ((0 : Nat) : Int) = Builtin.Range.rangeSize lo hi 1 := by rw [rangeSize_one]; split <;> omega
    show IsRangeIter _ _ (lo + ((0 : Nat) : Int) * 1) ((((hi - lo).toNat : Nat) : Int) - ((0 : Nat) : Int)) 1
    rw [e1, e2]
    exact Heap.get?_push_size _ rfl
  · have e : b = (s.heap.push { cls := .type "range", data := .fields #[.int lo t, .int hi u, .int 1 v] }).objs.size := by simpa using hb
    subst e
    exact I1.fpOk (Nat.le_refl _) (I1.hok.fresh (Nat.le_refl _))
def iRng1 (ta : TA) : TI := fun σ H R => ta σ H fun vs H1 => ∃ j : Int, vs = [.int j] ∧ -(2 ^ 62) ≤ j ∧ j < 2 ^ 62 ∧ R (Itr 0 j.toNat) H1
theorem pi_range1 {a : Expr} {ta : TA} {p pos : Pos} (hg : Gl X "range") (hm : X.mg "range" = none) (ha : PA X [a] ta) (hs : starEach [a] X.env = [(false, eval a X.env)] := by rfl) : PI X tg (.Call (.Name "range" p) [a] [] pos) (iRng1 ta) := by
  intro pins s σ H R I h
  refine Call_ (ld_blt I hg hm boot_range (PyProof.Rows.callWith_type1 (thn (ha pos pins s σ H _ I h) fun us s1 ⟨vs, H1, I1, r1, q1⟩ => ?_) hs rfl))
  obtain ⟨j, e, q1, q2, q⟩ := q1
  subst e
  cases r1 with
  | cons r rr =>
    cases rr
    obtain ⟨t, rfl⟩ := r
    exact call_range_1 (range_it I1 (by omega) (by omega) q1 q2 (by simpa using q))
def tFor (wi : TI) (g : TG) (tb : TS) : TS := fun D σ H => wi σ H fun J H1 => ∃ W : Nat → Nat → St → Hp → Prop, (∃ m, W 0 m σ H1) ∧ ∀ i m σ H, W i m σ H →
  (J.stop i H ∧ D.nx σ H) ∨ (J.go i H ∧ ∃ N : St → Hp → Prop, (∀ σ' H', N σ' H' → ∃ m', m' < m ∧ W (i + 1) m' σ' H') ∧ ∀ x H', J.yld i H x H' → g x σ H' fun σ2 H2 => tb { D with nx := N, ct := N, bk := D.nx } σ2 H2)
def pinsAt (fp : List Addr) (h : Heap) : List (Addr × Obj) := fp.filterMap fun b => (h.get? b).map fun o => (b, o)
theorem mem_pinsAt {fp : List Addr} {h : Heap} {b : Addr} {o : Obj} (hb : b ∈ fp) (e : h.get? b = some o) : (b, o) ∈ pinsAt fp h := List.mem_filterMap.mpr ⟨b, hb, by rw [e]; rfl⟩
theorem of_pinsAt {fp : List Addr} {h : Heap} {p : Addr × Obj} (hp : p ∈ pinsAt fp h) : p.1 ∈ fp ∧ h.get? p.1 = some p.2 := by
  obtain ⟨b, hb, e⟩ := List.mem_filterMap.mp hp
  cases q : h.get? b with
  | none => rw [q] at e; cases e
  | some o =>
    rw [q] at e
    have e' : (b, o) = p := Option.some.inj e
    subst e'
    exact ⟨hb, q⟩
theorem Inv.pinned {pins : List (Addr × Obj)} {σ : St} {H : Hp} {s : Shared} {fp : List Addr} (I : Inv X pins σ H s) (hf : ∀ b ∈ fp, FpOk X pins H b) (ho : ∀ b ∈ fp, ∃ o, s.heap.get? b = some o ∧ ∀ v, o.data ≠ .cell v) : Inv X (pins ++ pinsAt fp s.heap) σ H s :=
  I.pins_of fun p hp => (List.mem_append.mp hp).elim (fun z => I.pin p (List.mem_append_right _ z)) fun z => by
    obtain ⟨hb, e⟩ := of_pinsAt z
    obtain ⟨f0, f1, f2, _⟩ := hf p.1 hb
    obtain ⟨o, e', d⟩ := ho p.1 hb
    rw [e] at e'; cases e'
    exact ⟨e, f0, f1, f2, d⟩
theorem Inv.unpinned {pins pl : List (Addr × Obj)} {σ : St} {H : Hp} {s : Shared} (I : Inv X (pins ++ pl) σ H s) : Inv X pins σ H s := I.pins_of fun p hp => I.pin p (List.mem_append_right _ (List.mem_append_left _ hp))
theorem ps_for {iter : Expr} {body : List Stmt} {wi : TI} {g : TG} {tb : TS} {pos : Pos} (hp : PassesOwn (model X.prog X.w) X.A X.env X.xe) (hc : X.calm = true) (hi : PI X tg iter wi) (hg : PG X tg g) (hb : PSs X body tb)
    (hs : ∀ x, foldedSetIterable iter X.env x = pure x := by intro _; rfl) : PS X (.For tg iter body [] pos) (tFor wi g tb) := by
  intro pins s σ H D I h
  refine wpAny_For (thn (hi pins s σ H _ I h) fun v s1 h1 => thn h1 fun itv s2 h2 => ?_) hs
  obtain ⟨it, fp, tn, J, H2, e, I2, T, st2, f2, W, ⟨m0, w0⟩, turn⟩ := h2
  subst e
  have stat : ∀ {H' : Hp}, (∀ b ∈ fp, H' b = none) → ∀ b ∈ fp, FpOk X pins H' b := fun hn b hb => ⟨hn b hb, (f2 b hb).2⟩
  refine codeAny_forLoop_any (fun n s' => ∃ i σ' H', Inv X pins σ' H' s' ∧ tn i s'.heap ∧ (∀ b ∈ fp, H' b = none) ∧ W i n σ' H') ?_ m0 ⟨0, σ, H2, I2, st2, fun b hb => (f2 b hb).1, w0⟩
  rintro n s3 ⟨i, σ3, H3, I3, st3, fr3, w3⟩
  rcases turn i n σ3 H3 w3 with ⟨stop, qn⟩ | ⟨go, N, hN, step⟩
  · refine wpAny_passesOwn hp (thn (T.done X rfl rfl rfl hc i pins s3 σ3 H3 X.xe I3 (stat fr3) st3 stop) fun r s4 ⟨hr, I4⟩ => ?_)
    subst hr
    exact wpAny_execs_nil ⟨σ3, H3, I4, qn⟩
  · refine wpAny_passesOwn hp (thn (T.item X rfl rfl rfl hc i pins s3 σ3 H3 X.xe I3 (stat fr3) st3 go) fun r s4 ⟨u, hr, h4⟩ => ?_)
    subst hr
    refine wpAny_passesOwn hp (thn h4 fun _ s5 ⟨x, H5, I5, r5, y5, st5, fr5⟩ => ?_)
    have I5' := I5.pinned (stat fr5) (T.obj _ _ st5)
    refine wpAny_passesOwn hp (thn (hg _ s5 σ3 H5 x u _ I5' r5 (step x H5 y5)) fun _ s6 ⟨σ6, H6, I6, q6⟩ => ?_)
    refine wpAny_passesOwn hp (thn (hb _ s6 σ6 H6 _ I6 q6) fun f s7 q7 => ?_)
    have again : ∀ {σ7 : St} {H7 : Hp}, Inv X (pins ++ pinsAt fp s5.heap) σ7 H7 s7 → N σ7 H7 → ∃ m, m < n ∧ ∃ i σ' H', Inv X pins σ' H' s7 ∧ tn i s7.heap ∧ (∀ b ∈ fp, H' b = none) ∧ W i m σ' H' := fun {σ7 H7} I7 n7 => by
      obtain ⟨m', hm, w7⟩ := hN σ7 H7 n7
      refine ⟨m', hm, i + 1, σ7, H7, I7.unpinned, T.keep _ _ _ st5 fun b hb o e => (I7.pin (b, o) (List.mem_append_right _ (List.mem_append_right _ (mem_pinsAt hb e)))).1, fun b hb => ?_, w7⟩
      obtain ⟨o, e, d⟩ := T.obj _ _ st5 b hb
      exact (I7.pin (b, o) (List.mem_append_right _ (List.mem_append_right _ (mem_pinsAt hb e)))).2.1
    cases f with
    | next => obtain ⟨σ7, H7, I7, n7⟩ := q7; exact again I7 n7
    | cont => obtain ⟨σ7, H7, I7, n7⟩ := q7; exact again I7 n7
    | brk => obtain ⟨σ7, H7, I7, q7⟩ := q7; exact ⟨σ7, H7, I7.unpinned, q7⟩
    | ret v => obtain ⟨x7, σ7, H7, I7, r7, q7⟩ := q7; exact ⟨x7, σ7, H7, I7.unpinned, r7, q7⟩
end
end L2
namespace L2
open PySem PySem.Spec PyProof.Rows
abbrev R2 := V → V → Hp → VK → Prop
def OpR (X : Cx) (f : Value → Value → Sem Value) (r : R2) : Prop :=
  ∀ (pins : List (Addr × Obj)) (s : Shared) (σ : St) (H : Hp) (x y : V) (v u : Value) (Q : VK), Inv X pins σ H s → RelV x v → RelV y u → r x y H Q →
    wpAny (model X.prog X.w) X.A (f v u) (EP X pins σ Q) X.xe s
def CallR (X : Cx) (f : Value) (r : List V → Hp → VK → Prop) : Prop :=
  ∀ (pins : List (Addr × Obj)) (s : Shared) (σ : St) (H : Hp) (xs : List V) (us : List Value) (Q : VK), Inv X pins σ H s → Vals xs us → r xs H Q →
    wpAny (model X.prog X.w) X.A (call f us) (EP X pins σ Q) X.xe s
def tOp (r : R2) (ta tb : TE) : TE := fun σ H Q => ta σ H fun x H1 => tb σ H1 fun y H2 => r x y H2 Q
def rI (C : Int → Int → Prop) (g : Int → Int → V) : R2 := fun x y H Q => ∃ i j, x = .int i ∧ y = .int j ∧ C i j ∧ Q (g i j) H
def rI0 (g : Int → Int → V) : R2 := fun x y H Q => ∃ i j, x = .int i ∧ y = .int j ∧ Q (g i j) H
section
variable {X : Cx} {a b c : Expr} {ta tb tc : TE} {pos : Pos}
theorem binT (ha : PE X a ta) (hb : PE X b tb) {pins : List (Addr × Obj)} {s : Shared} {σ : St} {H : Hp} {R : V → V → Hp → Prop} (I : Inv X pins σ H s)
    (h : ta σ H fun x H1 => tb σ H1 fun y H2 => R x y H2) {Q : Value → Shared → Prop} {f : Value → Value → Sem Value}
    (hf : ∀ v u s2 x y H2, Inv X pins σ H2 s2 → RelV x v → RelV y u → R x y H2 → wpAny (model X.prog X.w) X.A (f v u) Q X.xe s2) :
    wpAny (model X.prog X.w) X.A (eval a X.env) (fun v s₁ => wpAny (model X.prog X.w) X.A (eval b X.env) (fun u s₂ => wpAny (model X.prog X.w) X.A (f v u) Q X.xe s₂) X.xe s₁) X.xe s := by
  refine thn (ha pins s σ H _ I h) fun v s1 ⟨x, H1, I1, r1, q1⟩ => ?_
  refine thn (hb pins s1 σ H1 _ I1 q1) fun u s2 ⟨y, H2, I2, r2, q2⟩ => ?_
  exact hf v u s2 x y H2 I2 r1 r2 q2
theorem pe_op {op : Operator} {r : R2} (ho : OpR X (binaryOp op) r) (ha : PE X a ta) (hb : PE X b tb) : PE X (.BinOp a op b pos) (tOp r ta tb) := by
  intro pins s σ H Q I h
  exact wpAny_BinOp (binT ha hb I h fun v u s2 x y H2 I2 rx ry q => ho pins s2 σ H2 x y v u Q I2 rx ry q)
theorem opI {f : Value → Value → Sem Value} {C : Int → Int → Prop} {g : Int → Int → Int}
    (rule : ∀ (i j : Int) (t u : Tok) (s : Shared) (Q : Value → Shared → Prop) (E : Value → Shared → Prop), C i j → Q (.int (g i j) s.toks) { s with toks := s.toks + 1 } → wpAny (model X.prog X.w) X.A (f (.int i t) (.int j u)) Q E s) :
    OpR X f (rI C fun i j => .int (g i j)) := by
  intro pins s σ H x y v u Q I rx ry h
  obtain ⟨i, j, rfl, rfl, hc, q⟩ := h
  obtain ⟨t, rfl⟩ := rx
  obtain ⟨t', rfl⟩ := ry
  exact rule i j t t' s _ _ hc ⟨.int (g i j), H, I.tok _, ⟨_, rfl⟩, q⟩
theorem opI0 {f : Value → Value → Sem Value} {g : Int → Int → Int}
    (rule : ∀ (i j : Int) (t u : Tok) (s : Shared) (Q : Value → Shared → Prop) (E : Value → Shared → Prop), Q (.int (g i j) s.toks) { s with toks := s.toks + 1 } → wpAny (model X.prog X.w) X.A (f (.int i t) (.int j u)) Q E s) :
    OpR X f (rI0 fun i j => .int (g i j)) := by
  intro pins s σ H x y v u Q I rx ry h
  obtain ⟨i, j, rfl, rfl, q⟩ := h
  obtain ⟨t, rfl⟩ := rx
  obtain ⟨t', rfl⟩ := ry
  exact rule i j t t' s _ _ ⟨.int (g i j), H, I.tok _, ⟨_, rfl⟩, q⟩
theorem opB0 {f : Value → Value → Sem Value} {g : Int → Int → Bool}
    (rule : ∀ (i j : Int) (t u : Tok) (s : Shared) (Q : Value → Shared → Prop) (E : Value → Shared → Prop), Q (.bool (g i j)) s → wpAny (model X.prog X.w) X.A (f (.int i t) (.int j u)) Q E s) :
    OpR X f (rI0 fun i j => .bl (g i j)) := by
  intro pins s σ H x y v u Q I rx ry h
  obtain ⟨i, j, rfl, rfl, q⟩ := h
  obtain ⟨t, rfl⟩ := rx
  obtain ⟨t', rfl⟩ := ry
  exact rule i j t t' s _ _ ⟨.bl (g i j), H, I, rfl, q⟩
def CPow (i j : Int) : Prop := 0 ≤ j ∧ j ≤ 1000000 ∧ i.natAbs < 2 ^ 64
def CMul (i j : Int) : Prop := (-(2 ^ 64) < i ∧ i < 2 ^ 64) ∨ (-(2 ^ 64) < j ∧ j < 2 ^ 64)
theorem CMul.ok {i j : Int} (h : CMul i j) : IntMulOk i j := by
  rcases h with ⟨h1, h2⟩ | ⟨h1, h2⟩
  · exact .of_left (intBits_le_64 h1 h2)
  · exact .of_right (intBits_le_64 h1 h2)
theorem op_add : OpR X (binaryOp .Add) (rI0 fun i j => .int (i + j)) := opI0 fun _ _ _ _ _ _ _ q => add_int q
theorem op_sub : OpR X (binaryOp .Sub) (rI0 fun i j => .int (i - j)) := opI0 fun _ _ _ _ _ _ _ q => sub_int q
theorem op_modN : OpR X (binaryOp .Mod) (rI (fun _ j => j ≠ 0) fun i j => .int (i.fmod j)) := opI fun _ _ _ _ _ _ _ hc q => mod_int' hc q
theorem op_pow : OpR X (binaryOp .Pow) (rI CPow fun i j => .int (i ^ j.toNat)) := opI fun _ _ _ _ _ _ _ hc q => pow_int_small hc.1 hc.2.1 hc.2.2 q
end
section
variable {X : Cx} {a b c : Expr} {ta tb tc : TE} {pos : Pos}
theorem op_lt : OpR X (compareOp .Lt) (rI0 fun i j => .bl (decide (i < j))) := opB0 fun _ _ _ _ _ _ _ q => lt_int q
theorem op_le : OpR X (compareOp .LtE) (rI0 fun i j => .bl (decide (i ≤ j))) := opB0 fun _ _ _ _ _ _ _ q => le_int q
theorem op_gt : OpR X (compareOp .Gt) (rI0 fun i j => .bl (decide (j < i))) := opB0 fun _ _ _ _ _ _ _ q => gt_int q
theorem op_ge : OpR X (compareOp .GtE) (rI0 fun i j => .bl (decide (j ≤ i))) := opB0 fun _ _ _ _ _ _ _ q => ge_int q
def isObj : HO → Bool
  | .lst _ => true
  | .ins _ _ _ => true
  | _ => false
theorem obj_there {pins : List (Addr × Obj)} {s : Shared} {σ : St} {H : Hp} {a : Addr} {o : HO} (I : Inv X pins σ H s) (h : H a = some o) (p : isObj o = true) : ∃ ob, s.heap.get? a = some ob ∧ ob.cls ≠ .type "tuple" := by
  cases o with
  | lst xs =>
    obtain ⟨_, its, n, _, e⟩ : xs.length ≤ sizeLine ∧ ∃ (its : List Value) (n : Nat), Vals xs its ∧ s.heap.get? a = some { cls := .type "list", data := .seq its.toArray n } := I.hok a _ h
    exact ⟨_, e, (by show Value.type "list" ≠ .type "tuple"; decide +kernel)⟩
  | ins C dx fs =>
    have x := I.hok a _ h
    obtain ⟨_, _, _, e, _⟩ := x
    exact ⟨_, e, (by show Value.ref C ≠ .type "tuple"; exact fun z => by cases z)⟩
  | _ => exact absurd (show false = true from p) Bool.false_ne_true
theorem OpR.or {f : Value → Value → Sem Value} {r r' : R2} (h : OpR X f r) (h' : OpR X f r') : OpR X f (fun x y H Q => r x y H Q ∨ r' x y H Q) := by
  intro pins s σ H x y v u Q I rx ry q
  rcases q with q | q
  · exact h pins s σ H x y v u Q I rx ry q
  · exact h' pins s σ H x y v u Q I rx ry q
theorem nomark (b : Expr) {op : CmpOp} (h : op ≠ .In := by decide) (h2 : op ≠ .NotIn := by decide) : behindInMarks op b = false := by
  have e1 : (op == CmpOp.In) = false := by cases op <;> first | rfl | exact absurd rfl h
  have e2 : (op == CmpOp.NotIn) = false := by cases op <;> first | rfl | exact absurd rfl h2
  cases b <;> simp [behindInMarks, e1, e2]
theorem pe_cmpR {op : CmpOp} {r : R2} (ho : OpR X (compareOp op) r) (ha : PE X a ta) (hb : PE X b tb) (hm : behindInMarks op b = false) : PE X (.Compare a [op] [b] pos) (tOp r ta tb) := by
  intro pins s σ H Q I h
  exact wpAny_Compare1 (binT ha hb I h fun v u s2 x y H2 I2 rx ry q => ho pins s2 σ H2 x y v u Q I2 rx ry q) hm
def tTest (t : TE) : TT := fun σ H Q => t σ H fun x H' => ∃ k, x = .bl k ∧ Q k H'
theorem pt_cmpR {op : CmpOp} {r : R2} (ho : OpR X (compareOp op) r) (ha : PE X a ta) (hb : PE X b tb) (hm : behindInMarks op b = false) : PT X (.Compare a [op] [b] pos) (tTest (tOp r ta tb)) := by
  intro pins s σ H Q I h
  refine wpAny_isTrue_Compare1 (thn (ha pins s σ H _ I h) fun v s1 ⟨x, H1, I1, r1, q1⟩ => thn (hb pins s1 σ H1 _ I1 q1) fun u s2 ⟨y, H2, I2, r2, q2⟩ =>
    thn (ho pins s2 σ H2 x y v u _ I2 r1 r2 q2) fun c s3 ⟨z, H3, I3, r3, k, e, q3⟩ => ?_) hm
  subst e
  cases r3
  exact wpAny_truthy_bool ⟨H3, I3, q3⟩
theorem line63 : (sizeLine : Nat) < 2 ^ 63 := by rw [sizeLine_eq]; decide
theorem vals1 {x : V} {us : List Value} (r : Vals [x] us) : ∃ u, us = [u] ∧ RelV x u := by
  cases r with
  | cons r1 r2 => cases r2; exact ⟨_, rfl, r1⟩
theorem vals2 {x y : V} {us : List Value} (r : Vals [x, y] us) : ∃ u w', us = [u, w'] ∧ RelV x u ∧ RelV y w' := by
  cases r with
  | cons r1 r2 =>
    cases r2 with
    | cons r3 r4 => cases r4; exact ⟨_, _, rfl, r1, r3⟩
theorem call_max2 (hc : X.calm = true) : CallR X (.builtin "max") (fun xs H Q => ∃ i j, xs = [.int i, .int j] ∧ Q (.int (if j > i then j else i)) H) := by
  intro pins s σ H xs us Q I r h
  obtain ⟨i, j, rfl, q⟩ := h
  obtain ⟨u, w', rfl, ⟨t, rfl⟩, ⟨t', rfl⟩⟩ := vals2 r
  refine max_two_ints (I.ok.hd hc) fun h' tk k => ⟨_, H, I.kept k, ?_, q⟩
  by_cases hj : j > i
  · rw [if_pos hj, if_pos hj]; exact ⟨_, rfl⟩
  · rw [if_neg hj, if_neg hj]; exact ⟨_, rfl⟩
theorem call_min2 (hc : X.calm = true) : CallR X (.builtin "min") (fun xs H Q => ∃ i j, xs = [.int i, .int j] ∧ Q (.int (if j < i then j else i)) H) := by
  intro pins s σ H xs us Q I r h
  obtain ⟨i, j, rfl, q⟩ := h
  obtain ⟨u, w', rfl, ⟨t, rfl⟩, ⟨t', rfl⟩⟩ := vals2 r
  refine min_two_ints (I.ok.hd hc) fun h' tk k => ⟨_, H, I.kept k, ?_, q⟩
  by_cases hj : j < i
  · rw [if_pos hj, if_pos hj]; exact ⟨_, rfl⟩
  · rw [if_neg hj, if_neg hj]; exact ⟨_, rfl⟩
theorem call_int1 : CallR X (.type "int") (fun xs H Q => (∃ i, xs = [.int i] ∧ Q (.int i) H) ∨ ∃ k, xs = [.bl k] ∧ Q (.int (if k then 1 else 0)) H) := by
  intro pins s σ H xs us Q I r h
  rcases h with ⟨i, rfl, q⟩ | ⟨k, rfl, q⟩
  · obtain ⟨u, rfl, t, rfl⟩ := vals1 r
    exact call_int_int ⟨.int i, H, I, ⟨_, rfl⟩, q⟩
  · obtain ⟨u, rfl, r1⟩ := vals1 r
    cases r1
    exact call_int_bool ⟨.int (if k then 1 else 0), H, I.tok _, ⟨_, rfl⟩, q⟩
end
end L2
namespace L2
open PySem PySem.Spec PyProof.Rows
structure ObjM (h : Heap) (x dx C : Addr) (mA : Str → Option Value) : Prop where
  obj : h.get? x = some (PySem.W.instObj C dx)
  ns : h.Ns1 dx mA
  ne : dx ≠ x
theorem lookIn_ns {h : Heap} {dx : Addr} {mA : Str → Option Value} (n : h.Ns1 dx mA) : ∃ od, h.get? dx = some od ∧ ∀ name, PySem.W.lookIn name od = some (mA name) := by
  obtain ⟨o, es, ep, ho, hd, hk, _, hm⟩ := n
  refine ⟨o, ho, fun name => ?_⟩
  have e := hm name
  unfold nsFind findBy at e
  rw [← Array.find?_toList] at e
  unfold PySem.W.lookIn
  rw [hd]
  dsimp only
  split
  · rename_i y q
    rw [q] at e
    exact congrArg some e
  · rename_i q
    rw [q] at e
    have a : es.toList.any (·.refKey) = false := by
      rw [List.any_eq_false]
      intro y hy
      obtain ⟨z, t, hkey⟩ := hk y (Array.mem_toList_iff.mp hy)
      simp [DictEntry.refKey, hkey]
    have a' : ¬ es.toList.any (·.refKey) = true := by rw [a]; exact Bool.false_ne_true
    rw [if_neg a']
    exact congrArg some e
theorem ObjM.look {h : Heap} {x dx C : Addr} {mA : Str → Option Value} (I : ObjM h x dx C mA) : ∃ od, PySem.W.InstAt h x (PySem.W.instObj C dx) C (some od) ∧ ∀ name, PySem.W.lookIn name od = some (mA name) :=
  let ⟨od, ho, hl⟩ := lookIn_ns I.ns
  ⟨od, ⟨I.obj, rfl, rfl, ho⟩, hl⟩
section
variable {prog : Program} {w : World} {A : Around} {E : Value → Shared → Prop} {s : Shared} {K : PySem.W.Frag} {x dx C f : Addr} {mA : Str → Option Value} {name : Str} {v : Value}
end
theorem handed_of {v : V} {u : Value} (r : RelV v u) : PySem.W.handedIn u = true := by
  cases v with
  | non => cases (show u = Value.none from r); rfl
  | bl b => cases (show u = Value.bool b from r); rfl
  | int i => obtain ⟨t, e⟩ := (show ∃ t, u = Value.int i t from r); cases e; rfl
  | str x => obtain ⟨t, e⟩ := (show ∃ t, u = Value.str x t from r); cases e; rfl
  | byt b => obtain ⟨t, e⟩ := (show ∃ t, u = Value.bytes b t from r); cases e; rfl
  | flt b => obtain ⟨t, e⟩ := (show ∃ t, u = Value.float b t from r); cases e; rfl
  | ref a => cases (show u = Value.ref a from r); rfl
  | ty n => cases (show u = Value.type n from r); rfl
section
variable {P : Program} {w : World} {H H' : Hp} {h h' : Heap} {a C dx : Addr} {fs fs' : List (Str × V)}
theorem ins_get (hok : HOk P w H h) (e : H a = some (.ins C dx fs)) : ∃ mA, ObjM h a dx C mA ∧ (∀ f, RelO (fs.lookup f) (mA f)) ∧ PySem.Within mA (fs.map (·.1)) ∧ fs.length ≤ 1000 ∧ H dx = some (.own a) := by
  obtain ⟨d, z, ne, ob, mA, n, r, q⟩ := (show ObjOk P w H h a (.ins C dx fs) from hok a _ e)
  exact ⟨mA, ⟨ob, n, ne⟩, r, q, z, d⟩
end
structure Cls (K : PySem.W.Frag) (C : Addr) : Prop where
  pg : PySem.W.plainGet K C Str.empty = true
  hd : PySem.W.hasDictIn K C = true
  po : PySem.W.plainOver K C = true
  sa : PySem.W.findIn K (.ref C) "__setattr__" = some (some (.builtin "object.__setattr__"))
theorem Cls.get {K : PySem.W.Frag} {C : Addr} (c : Cls K C) (f : Str) : PySem.W.plainGet K C f = true := c.pg
structure Con (K : PySem.W.Frag) (C : Addr) (f : Str) (v : V) (u : Value) : Prop where
  at_ : PySem.W.findIn K (.ref C) f = some (some u)
  rel : RelV v u
  get : PySem.W.specialIn K u "__get__" = some none
  cp : PySem.W.copiedNames.contains f = false
structure Meth (K : PySem.W.Frag) (C : Addr) (m : Str) (f : Addr) : Prop where
  at_ : PySem.W.findIn K (.ref C) m = some (some (.ref f))
  fn : PySem.W.isFn K (.ref f) = true
  kp : PySem.W.keepIn K (.ref f) = true
section
variable {X : Cx} {pins : List (Addr × Obj)} {σ : St} {H : Hp} {s : Shared} {a C dx : Addr} {fs : List (Str × V)} {f : Str} {v : V} {A : Around} {E : Value → Shared → Prop}
theorem attr_of {prog : Program} {w : World} {env : Env} {e : Expr} {f : Str} {pos : Pos} {s : Shared} {Q : Value → Shared → Prop} (hb : attributeBase e f env (eval e env) = eval e env)
    (h : wpAny (model prog w) A (eval e env) (fun o s₁ => wpAny (model prog w) A (getAttr o f true) Q E s₁) E s) : wpAny (model prog w) A (eval (.Attribute e f pos) env) Q E s :=
  Attribute_any_ h (by rw [arm_eval_Attribute, hb])
end
section
variable {X : Cx} {o e value : Expr} {f : Str} {pos pos' tpos : Pos} {ta tv : TE}
end
section
variable {X : Cx} {pins : List (Addr × Obj)} {σ : St} {H : Hp} {s : Shared} {A : Around} {E : Value → Shared → Prop} {Q : Value → Shared → Prop} {c : Value} {b : Bool}
inductive TyOf (K : PySem.W.Frag) (H : Hp) : V → Value → Prop where
  | non : TyOf K H .non (.type "NoneType")
  | bl (x : Bool) : TyOf K H (.bl x) (.type "bool")
  | int (i : Int) : TyOf K H (.int i) (.type "int")
  | str (x : Str) : TyOf K H (.str x) (.type "str")
  | flt (x : UInt64) : TyOf K H (.flt x) (.type "float")
  | lst {a : Addr} {xs : List V} (e : H a = some (.lst xs)) : TyOf K H (.ref a) (.type "list")
  | frz {a : Addr} {o : Obj} {xs : List V} (e : H a = some (.frz o (.lst xs))) : TyOf K H (.ref a) (.type "list")
  | tup {a : Addr} {xs : List V} (e : H a = some (.tup xs)) : TyOf K H (.ref a) (.type "tuple")
  | dK {a : Addr} {kvs : List (Key × V)} (e : H a = some (.dK kvs)) : TyOf K H (.ref a) (.type "dict")
  | dT {a : Addr} {kvs : List (List Key × V)} (e : H a = some (.dT kvs)) : TyOf K H (.ref a) (.type "dict")
  | ins {a C dx : Addr} {fs : List (Str × V)} (e : H a = some (.ins C dx fs)) (cl : Cls K C) (ha : PySem.W.findIn K (.ref C) "__class__" = some (some (.builtin "object.__class__")))
      (hn : PySem.W.specialIn K (.builtin "object.__class__") "__get__" = some (some (.builtin "getset_descriptor.__get__"))) (htk : PySem.W.takesIn K (.builtin "object.__class__") = some true)
      (hm : PySem.W.mroIn K C (.type "object") = some true) : TyOf K H (.ref a) (.ref C)
theorem isinst_ok {x : V} {u t : Value} (I : Inv X pins σ H s) (rx : RelV x u) (ty : TyOf X.K H x t) (e : PySem.W.kitOne X.K t c = some b) (h : ∀ tk, Q (.bool b) { s with toks := tk }) :
    wpAny (model X.prog X.w) A (call (.builtin "isinstance") [u, c]) Q E s := by
  cases ty with
  | non => cases (show u = Value.none from rx); exact PySem.W.kia_one PySem.W.kitx_none I.kIn True.intro e (fun z => nomatch z) h
  | bl y => cases (show u = Value.bool y from rx); exact PySem.W.kia_one PySem.W.kitx_bool I.kIn True.intro e (fun z => nomatch z) h
  | int i => obtain ⟨t, q⟩ := (show ∃ t, u = Value.int i t from rx); cases q; exact PySem.W.kia_one PySem.W.kitx_int I.kIn True.intro e (fun z => nomatch z) h
  | str y => obtain ⟨t, q⟩ := (show ∃ t, u = Value.str y t from rx); cases q; exact PySem.W.kia_one PySem.W.kitx_str I.kIn True.intro e (fun z => nomatch z) h
  | flt y => obtain ⟨t, q⟩ := (show ∃ t, u = Value.float y t from rx); cases q; exact PySem.W.kia_one PySem.W.kitx_float I.kIn True.intro e (fun z => nomatch z) h
  | @lst a xs ea =>
    cases (show u = Value.ref a from rx)
    obtain ⟨_, _, n, _, h1⟩ := (show ObjOk X.prog X.w H s.heap a (.lst xs) from I.hok a _ ea)
    exact PySem.W.kia_one PySem.W.kitx_list I.kIn ⟨_, h1, rfl⟩ e (fun z => nomatch z) h
  | @frz a ob xs ea =>
    cases (show u = Value.ref a from rx)
    obtain ⟨_, _, _, n, _, h1⟩ := (show ObjOk X.prog X.w H s.heap a (.frz ob (.lst xs)) from I.hok a _ ea)
    exact PySem.W.kia_one PySem.W.kitx_list I.kIn ⟨_, h1, rfl⟩ e (fun z => nomatch z) h
  | @tup a xs ea =>
    cases (show u = Value.ref a from rx)
    obtain ⟨_, _, _, p⟩ := (show ObjOk X.prog X.w H s.heap a (.tup xs) from I.hok a _ ea)
    obtain ⟨o, h1, h2, _⟩ := p
    exact PySem.W.kia_one PySem.W.kitx_tuple I.kIn ⟨o, h1, h2⟩ e (fun z => nomatch z) h
  | @dK a kvs ea =>
    cases (show u = Value.ref a from rx)
    obtain ⟨_, _, vs, _, p⟩ := (show ObjOk X.prog X.w H s.heap a (.dK kvs) from I.hok a _ ea)
    obtain ⟨o, es, ep, h1, h2, _⟩ := p
    exact PySem.W.kia_one PySem.W.kitx_dict I.kIn ⟨o, h1, h2.1⟩ e (fun z => nomatch z) h
  | @dT a kvs ea =>
    cases (show u = Value.ref a from rx)
    obtain ⟨_, _, xs, _, o, es, ep, h1, h2, _⟩ := (show ObjOk X.prog X.w H s.heap a (.dT kvs) from I.hok a _ ea)
    exact PySem.W.kia_one PySem.W.kitx_dict I.kIn ⟨o, h1, h2.1⟩ e (fun z => nomatch z) h
  | @ins a C dx fs ea cl ha hn htk hm =>
    cases (show u = Value.ref a from rx)
    obtain ⟨mA, O, _⟩ := ins_get I.hok ea
    obtain ⟨od, J, _⟩ := O.look
    exact PySem.W.kia_one (PySem.W.kitx_own (cl.get _) cl.hd ha hn htk hm) I.kIn J e (fun z => nomatch z) h
end
end L2
namespace L2
open PySem PySem.Spec PyProof.Rows
structure Room (k : Nat) (A : Around) : Prop where
  hd : A.handled = none
  dp : A.depth + 3 * k + 5 < recursionLimit
  un : A.units + 16 * k + 200 < cLine
theorem Room.mono {j k : Nat} {A : Around} (r : Room k A) (h : j ≤ k) : Room j A := ⟨r.hd, by have := r.dp; omega, by have := r.un; omega⟩
theorem Room.deeper {k : Nat} {A : Around} (r : Room (k + 1) A) (env : Env) : Room k (A.deeper env) :=
  ⟨r.hd, by have := r.dp; show A.depth + 1 + 3 * k + 5 < _; omega, by have := r.un; show A.units + 3 + 16 * k + 200 < _; omega⟩
theorem Room.in1 {k : Nat} {A : Around} (r : Room (k + 1) A) : Room k A.in1 :=
  ⟨r.hd, by have := r.dp; show A.depth + 3 * k + 5 < _; omega, by have := r.un; show A.units + 1 + 16 * k + 200 < _; omega⟩
theorem make_depth {A : Around} {C : Addr} {us : List Value} {kw : List (Str × Value)} : (A.under (.builtin "type.__call__" ⟨.ref C :: us, kw⟩)).depth = A.depth + 1 := by
  first | rfl | simp [Around.under, Code.weight, Code.isCreation, Code.isGuard, Code.isCaller, Code.frames, Code.isFrame, guardIds]
theorem make_units {A : Around} {C : Addr} {us : List Value} {kw : List (Str × Value)} : (A.under (.builtin "type.__call__" ⟨.ref C :: us, kw⟩)).units = A.units + 1 := by
  first | rfl | simp [Around.under, Code.cUnits, Code.frames, Code.isFrame]
theorem Room.make {k : Nat} {A : Around} (r : Room (k + 1) A) (C : Addr) (us : List Value) (kw : List (Str × Value)) : Room k (A.under (.builtin "type.__call__" ⟨.ref C :: us, kw⟩)) :=
  ⟨r.hd, by have := r.dp; rw [make_depth]; omega, by have := r.un; rw [make_units]; omega⟩
theorem Room.depth {k : Nat} {A : Around} (r : Room k A) : A.depth < recursionLimit := by have := r.dp; omega
theorem Room.units {k : Nat} {A : Around} (r : Room k A) : A.units + 64 < cLine := by have := r.un; omega
def tNil : TA := fun _ H Q => Q [] H
def tCons (ta : TE) (tr : TA) : TA := fun σ H Q => ta σ H fun x H1 => tr σ H1 fun xs H2 => Q (x :: xs) H2
section
variable {X : Cx} {e : Expr} {es : List Expr} {te : TE} {t : TA} {pos : Pos}
theorem pa_nil : PA X [] tNil := fun _ _ _ _ H Q I h => Calls.spliced_nil ⟨[], H, I, .nil, h⟩
theorem pa_cons (ha : PE X e te) (hr : PA X es t) (hs : starEach (e :: es) X.env = (false, eval e X.env) :: starEach es X.env := by rfl) : PA X (e :: es) (tCons te t) := by
  intro pos pins s σ H Q I h
  rw [hs]
  show wpAny _ _ (spliced ((false, eval e X.env) :: backTo pos (starEach es X.env))) _ _ s
  refine Calls.spliced_cons (thn (ha pins s σ H _ I h) fun u s1 ⟨x, H1, I1, r1, q1⟩ => ?_)
  exact thn (hr pos pins s1 σ H1 _ I1 q1) fun us s2 ⟨xs, H2, I2, r2, q2⟩ => ⟨x :: xs, H2, I2, .cons r1 r2, q2⟩
def tTup (t : TA) : TE := fun σ H Q => t σ H fun xs H1 => xs.length ≤ sizeLine ∧ ∀ p, H1 p = none → Q (.ref p) (upd H1 p (.tup xs))
def tLst (t : TA) : TE := fun σ H Q => t σ H fun xs H1 => xs.length ≤ sizeLine ∧ ∀ p, H1 p = none → Q (.ref p) (upd H1 p (.lst xs))
theorem pe_tup {x1} (h : PA X es t) : PE X (.Tuple es x1 pos) (tTup t) := by
  intro pins s σ H Q I hq
  refine wpAny_Tuple_spliced (thn (h pos pins s σ H _ I hq) fun us s1 ⟨xs, H1, I1, r, z, q⟩ => ⟨by rw [← r.length]; exact z, ?_⟩)
  have hf : H1 s1.heap.objs.size = none := I1.hok.fresh (Nat.le_refl _)
  refine ⟨.ref s1.heap.objs.size, upd H1 s1.heap.objs.size (.tup xs), I1.laid (t' := s1.toks) (fun b u e => Heap.get?_push_of_some _ e) (Nat.le_refl _) ?_, rfl, q _ hf⟩
  exact ⟨z, us, r, ⟨_, Heap.get?_push_size _ rfl, rfl, _, rfl⟩⟩
theorem pe_lst (h : PA X es t) : PE X (.List es pos) (tLst t) := by
  intro pins s σ H Q I hq
  refine wpAny_List_spliced (thn (h pos pins s σ H _ I hq) fun us s1 ⟨xs, H1, I1, r, z, q⟩ => ⟨by rw [← r.length]; exact z, ?_⟩)
  have hf : H1 s1.heap.objs.size = none := I1.hok.fresh (Nat.le_refl _)
  refine ⟨.ref s1.heap.objs.size, upd H1 s1.heap.objs.size (.lst xs), I1.laid (t' := s1.toks) (fun b u e => Heap.get?_push_of_some _ e) (Nat.le_refl _) ?_, rfl, q _ hf⟩
  exact ⟨z, us, 0, r, Heap.get?_push_size _ rfl⟩
end
abbrev Sp := List V → Hp → VK → XK → Prop
abbrev CXT := List Env → Hp → Shared → XK → Value → Shared → Prop
structure Env0 (P : Program) (w : World) (K : PySem.W.Frag) (mg : Str → Option Value) (base : Heap) (A : Around) (outer : List Env) (s : Shared) (H : Hp) : Prop where
  frames : A.frames = some outer
  mod : Mod K mg base
  bs : ∀ b o, base.get? b = some o → s.heap.get? b = some o ∧ H b = none
  bsz : base.objs.size ≤ s.heap.objs.size
  funs : s.heap.FunFrames base outer
  frf : ∀ b ∈ frs outer, H b = none
  hok : HOk P w H s.heap
  bare : AllBare s.gens
def CE (outer : List Env) (P : Program) (w : World) (H : Hp) (s : Shared) (Q : VK) (u : Value) (s' : Shared) : Prop :=
  ∃ v H', s'.os = s.os ∧ AllBare s'.gens ∧ Un (frs outer) [] H H' s.heap s'.heap ∧ HOk P w H' s'.heap ∧ RelV v u ∧ Q v H'
def CR (CX : CXT) (outer : List Env) (P : Program) (w : World) (H : Hp) (s : Shared) (Q : VK) (E : XK) (r : Result) (s' : Shared) : Prop :=
  match r with
  | .ok (.ret u) => CE outer P w H s Q u s'
  | .ok _ => False
  | .error e => CX outer H s E e s'
structure FnOk (P : Program) (w : World) (K : PySem.W.Frag) (mg : Str → Option Value) (base : Heap) (CX : CXT) (k : Nat) (f : Addr) (fd : FuncData) (ps : List Str) (sp : Sp) : Prop where
  len : ∀ vs H Q E, sp vs H Q E → vs.length = ps.length
  run : ∀ (A : Around) (outer : List Env) (s : Shared) (H : Hp) (args : Args) (us : List Value) (vs : List V) (Q : VK) (E : XK), Room k A → Env0 P w K mg base A outer s H → BindsTo s fd args (ps.zip us) → Vals vs us → sp vs H Q E →
    codeAny (model P w) A (.call (.ref f) args) (CR CX outer P w H s Q E) s
theorem FnOk.mono {P : Program} {w : World} {K : PySem.W.Frag} {mg : Str → Option Value} {base : Heap} {CX : CXT} {j k : Nat} {f : Addr} {fd : FuncData} {ps : List Str} {sp : Sp} (F : FnOk P w K mg base CX j f fd ps sp) (h : j ≤ k) :
    FnOk P w K mg base CX k f fd ps sp := ⟨F.len, fun A outer s H args us vs Q E hr => F.run A outer s H args us vs Q E (hr.mono h)⟩
theorem FnOk.imp {P : Program} {w : World} {K : PySem.W.Frag} {mg : Str → Option Value} {base : Heap} {CX : CXT} {k : Nat} {f : Addr} {fd : FuncData} {ps : List Str} {sp sp' : Sp} (F : FnOk P w K mg base CX k f fd ps sp)
    (h : ∀ vs H Q E, sp' vs H Q E → sp vs H Q E) : FnOk P w K mg base CX k f fd ps sp' :=
  ⟨fun vs H Q E q => F.len vs H Q E (h _ _ _ _ q), fun A outer s H args us vs Q E hr he hb hv hs => F.run A outer s H args us vs Q E hr he hb hv (h _ _ _ _ hs)⟩
theorem Env0.make {P : Program} {w : World} {K : PySem.W.Frag} {mg : Str → Option Value} {base : Heap} {A : Around} {outer : List Env} {s : Shared} {H : Hp} (e : Env0 P w K mg base A outer s H) (C : Addr) (us : List Value) (kw : List (Str × Value)) :
    Env0 P w K mg base (A.under (.builtin "type.__call__" ⟨.ref C :: us, kw⟩)) outer s H := ⟨by first | exact e.frames | (simpa [Around.under, Code.envs, Code.isFrame, pushEnvs] using e.frames), e.mod, e.bs, e.bsz, e.funs, e.frf, e.hok, e.bare⟩
theorem Env0.in1 {P : Program} {w : World} {K : PySem.W.Frag} {mg : Str → Option Value} {base : Heap} {A : Around} {outer : List Env} {s : Shared} {H : Hp} (e : Env0 P w K mg base A outer s H) :
    Env0 P w K mg base A.in1 outer s H := ⟨e.frames, e.mod, e.bs, e.bsz, e.funs, e.frf, e.hok, e.bare⟩
section
variable {X : Cx} {pins : List (Addr × Obj)} {σ : St} {H : Hp} {s s' : Shared}
theorem Inv.env0 (I : Inv X pins σ H s) : Env0 X.prog X.w X.K X.mg X.base X.A X.stack s H :=
  ⟨I.ok.frames, I.ok.mod, I.bs, Nat.le_trans I.ok.bsz I.sz, I.stack, I.stkFree, I.hok, I.bare⟩
theorem Inv.after {Q : VK} {u : Value} (I : Inv X pins σ H s) (h : CE X.stack X.prog X.w H s Q u s') : EP X pins σ Q u s' := by
  obtain ⟨v, H', os, bare, un, hok, r, q⟩ := h
  obtain ⟨hh, g, d, t, os'⟩ := s'
  obtain rfl : os' = s.os := os
  exact ⟨v, H', I.call (h' := hh) (g' := g) (d' := d) (t' := t) (ch := []) un hok bare (fun b z => absurd z (by simp)), r, q⟩
end
def tCall (sp : Sp) (dvs : List V) (E : XK) (t : TA) : TE := fun σ H Q => t σ H fun vs H1 => sp (vs ++ dvs) H1 Q E
def Binds (K : PySem.W.Frag) (fd : FuncData) (ps : List Str) (ds : List Value) : Prop :=
  ∀ (s : Shared) (us : List Value), K.In s.heap → (us ++ ds).length = ps.length → BindsTo s fd ⟨us, []⟩ (ps.zip (us ++ ds))
theorem Binds.all {K : PySem.W.Frag} {fd : FuncData} {ps : List Str} (h : ∀ us : List Value, us.length = ps.length → bindArgs fd ⟨us, []⟩ = pure (ps.zip us)) : Binds K fd ps [] := fun s us _ hl => by
  rw [List.append_nil] at hl ⊢
  exact .of_eq (h us hl)
def Passes (CX : CXT) (X : Cx) (E : XK) : Prop := ∀ (pins : List (Addr × Obj)) (σ : St) (H : Hp) (s : Shared) (e : Value) (s' : Shared), Inv X pins σ H s → CX X.stack H s E e s' → X.xe e s'
section
variable {X : Cx} {CX : CXT} {k : Nat} {f C : Addr} {fd : FuncData} {ps : List Str} {sp : Sp} {dvs : List V} {ds : List Value} {E : XK} {x m : Str} {p pos apos : Pos} {e o : Expr} {es : List Expr} {ta : TE} {t : TA}
theorem run_fn {pins : List (Addr × Obj)} {σ : St} {H : Hp} {s : Shared} {Q : VK} {us : List Value} {vs : List V} (F : FnOk X.prog X.w X.K X.mg X.base CX k f fd ps sp) (hr : Room k X.A) (hb : Binds X.K fd ps ds) (hd : Vals dvs ds) (hx : Passes CX X E)
    (I : Inv X pins σ H s) (r : Vals vs us) (h : sp (vs ++ dvs) H Q E) : wpAny (model X.prog X.w) X.A (call (.ref f) us) (EP X pins σ Q) X.xe s := by
  have r2 : Vals (vs ++ dvs) (us ++ ds) := r.append hd
  have hl : (us ++ ds).length = ps.length := by rw [← r2.length]; exact F.len _ _ _ _ h
  refine wpAny_call (codeAny_mono (F.run X.A X.stack s H ⟨us, []⟩ (us ++ ds) (vs ++ dvs) Q E hr I.env0 (hb s us I.kIn hl) r2 h) fun r s' hq => ?_)
  cases r with
  | error e => exact hx pins σ H s e s' I hq
  | ok fl =>
    cases fl with
    | ret u => exact I.after hq
    | next => exact False.elim hq
    | brk => exact False.elim hq
    | cont => exact False.elim hq
theorem pe_call (F : FnOk X.prog X.w X.K X.mg X.base CX k f fd ps sp) (hr : Room k X.A) (hg : Gl X x) (hm : X.mg x = some (.ref f)) (hk : PySem.W.keepIn X.K (.ref f) = true) (hb : Binds X.K fd ps ds) (hd : Vals dvs ds) (hx : Passes CX X E)
    (ha : PA X (e :: es) t) (hdb : (x == ("__debug__" : Str)) = false := by decide) (he : starEach (e :: es) X.env = (false, eval e X.env) :: starEach es X.env := by rfl) (hpl : (backTo pos (starEach es X.env)).any (·.1) = false := by rfl) :
    PE X (.Call (.Name x p) (e :: es) [] pos) (tCall sp dvs E t) := by
  intro pins s σ H Q I h
  refine wpAny_Call_Name_kw (ld_glob I hg hm ?_ hdb)
  refine PySem.W.callWith_K (h₀ := X.base) I.ok.mod.kin hk (thn (ha pos pins s σ H _ I h) fun us s1 ⟨vs, H1, I1, r, q⟩ => ⟨I1.kIn, ?_⟩) he hpl
  exact run_fn F hr hb hd hx I1 r q
structure Mk (K : PySem.W.Frag) (C f : Addr) : Prop where
  makes : PySem.W.makesIn K C = true
  init : PySem.W.findIn K (.ref C) "__init__" = some (some (.ref f))
  fn : PySem.W.isFn K (.ref f) = true
  kp : PySem.W.keepIn K (.ref C) = true
end
section
variable {X : Cx} {CX : CXT} {k : Nat} {f C : Addr} {fd : FuncData} {ps ks : List Str} {sp : Sp} {E : XK} {x m : Str} {p pos apos kpos : Pos} {e o : Expr} {es : List Expr} {kws : List Keyword} {te ta : TE} {t tk : TA} {nm : Option Str}
structure KBinds (K : PySem.W.Frag) (fd : FuncData) (ps ks : List Str) (g : List Value → List Value → List Value) (gV : List V → List V → List V) : Prop where
  to : ∀ (s : Shared) (us ws : List Value), K.In s.heap → (g us ws).length = ps.length → BindsTo s fd ⟨us, ks.zip ws⟩ (ps.zip (g us ws))
  rel : ∀ {vs : List V} {us : List Value} {zs : List V} {ws : List Value}, Vals vs us → Vals zs ws → Vals (gV vs zs) (g us ws)
variable {g : List Value → List Value → List Value} {gV : List V → List V → List V}
end
structure FnScope (N P : List Str) (sc : Scope) : Prop where
  kind : sc.kind = .function
  co : sc.isCoroutine = false
  gen : sc.isGenerator = false
  nd : N.Nodup
  pre : N.take P.length = P
  par : ∀ x ∈ P, sc.names.lookup x = some .local ∨ sc.names.lookup x = some .cell
  nofree : ∀ y ∈ sc.names, y.2 ≠ .free
theorem bindL_out {kindOf : Str → Option NameKind} {x : Str} : ∀ {binds : List (Str × Value)} {m : Str → Option Value}, (∀ v, (x, v) ∉ binds) → bindL kindOf binds m x = m x
  | [], _, _ => rfl
  | (n, v) :: r, m, h => by
    unfold bindL
    rw [bindL_out fun w hw => h w (List.mem_cons_of_mem _ hw)]
    split
    · have : x ≠ n := by rintro rfl; exact h v List.mem_cons_self
      simp [this]
    · rfl
theorem bindC_out {kindOf : Str → Option NameKind} {x : Str} : ∀ {binds : List (Str × Value)} {m : Str → Option Value}, (∀ v, (x, v) ∉ binds) → bindC kindOf binds m x = m x
  | [], _, _ => rfl
  | (n, v) :: r, m, h => by
    unfold bindC
    rw [bindC_out fun w hw => h w (List.mem_cons_of_mem _ hw)]
    split
    · rfl
    · have : x ≠ n := by rintro rfl; exact h v List.mem_cons_self
      simp [this]
theorem bindL_get {kindOf : Str → Option NameKind} {x : Str} {v : Value} : ∀ {P : List Str} {vs : List Value} {i : Nat} {m : Str → Option Value}, P.Nodup → P[i]? = some x → vs[i]? = some v → kindOf x = some .local →
    bindL kindOf (P.zip vs) m x = some v
  | [], _, _, _, _, h, _, _ => by simp at h
  | _ :: _, [], _, _, _, _, h, _ => by simp at h
  | p :: P, w :: vs, 0, m, nd, h1, h2, hk => by
    simp at h1 h2; subst h1; subst h2
    show bindL kindOf ((p, w) :: P.zip vs) m p = _
    unfold bindL
    rw [bindL_out fun v hv => (List.nodup_cons.mp nd).1 (List.of_mem_zip hv).1, if_pos hk]
    simp
  | p :: P, w :: vs, i + 1, m, nd, h1, h2, hk => by
    show bindL kindOf ((p, w) :: P.zip vs) m x = _
    unfold bindL
    exact bindL_get (i := i) (List.nodup_cons.mp nd).2 (by simpa using h1) (by simpa using h2) hk
theorem bindC_get {kindOf : Str → Option NameKind} {x : Str} {v : Value} : ∀ {P : List Str} {vs : List Value} {i : Nat} {m : Str → Option Value}, P.Nodup → P[i]? = some x → vs[i]? = some v → kindOf x ≠ some .local →
    bindC kindOf (P.zip vs) m x = some v
  | [], _, _, _, _, h, _, _ => by simp at h
  | _ :: _, [], _, _, _, _, h, _ => by simp at h
  | p :: P, w :: vs, 0, m, nd, h1, h2, hk => by
    simp at h1 h2; subst h1; subst h2
    show bindC kindOf ((p, w) :: P.zip vs) m p = _
    unfold bindC
    rw [bindC_out fun v hv => (List.nodup_cons.mp nd).1 (List.of_mem_zip hv).1, if_neg hk]
    simp
  | p :: P, w :: vs, i + 1, m, nd, h1, h2, hk => by
    show bindC kindOf ((p, w) :: P.zip vs) m x = _
    unfold bindC
    exact bindC_get (i := i) (List.nodup_cons.mp nd).2 (by simpa using h1) (by simpa using h2) hk
def start (N : List Str) (vs : List V) : St := vs.map some ++ List.replicate (N.length - vs.length) none
def cxOf (CX : CXT) (P : Program) (w : World) (K : PySem.W.Frag) (mg : Str → Option Value) (base : Heap) (N : List Str) (qual : Str) (scope : Scope) (f : Addr) (cd : Value) (A : Around) (outer : List Env) (s : Shared) (H : Hp) (E : XK) : Cx where
  prog := P
  w := w
  K := K
  mg := mg
  base := base
  A := A.deeper (envOfC qual scope s.heap.objs.size f cd)
  N := N
  s₀ := s
  H₀ := H
  env := envOfC qual scope s.heap.objs.size f cd
  outer := outer
  stack := envOfC qual scope s.heap.objs.size f cd :: outer
  ex := []
  calm := true
  fn := fun _ => true
  pn := []
  xe := fun e s' => wpAny (model P w) (A.deeper (envOfC qual scope s.heap.objs.size f cd)) (leaving (envOfC qual scope s.heap.objs.size f cd) e) (fun _ s'' => CX outer H s E e s'') (fun e' s'' => CX outer H s E e' s'') s'
theorem cell_has {sc : Scope} {n : Nat} {x : Str} (h : sc.names.lookup x = some .cell) : ∃ c, (cellsFrom n sc.names []).lookup x = some c := by
  have q := PySem.W.cellsFrom_some sc.names n [] (.inl h)
  exact Option.isSome_iff_exists.mp q
theorem inv_start {CX : CXT} {P : Program} {w : World} {K : PySem.W.Frag} {mg : Str → Option Value} {base : Heap} {N ps : List Str} {qual : Str} {scope : Scope} {f : Addr} {cd : Value} {A : Around} {outer : List Env} {s s1 : Shared} {H : Hp} {E : XK} {us : List Value} {vs : List V}
    (S : FnScope N ps scope) (hd : A.handled = none) (e0 : Env0 P w K mg base A outer s H) (hl : vs.length = ps.length) (r : Vals vs us)
    (x : InCallC s s.heap.objs.size (bindL (envOfC qual scope s.heap.objs.size f cd).kindOf (ps.zip us) fun _ => none) (cellsFrom (s.heap.objs.size + 1) scope.names []) (bindC (envOfC qual scope s.heap.objs.size f cd).kindOf (ps.zip us) fun _ => none) s1) :
    Inv (cxOf CX P w K mg base N qual scope f cd A outer s H E) [] (start N vs) H s1 := by
  have hpl : ps.length ≤ N.length := by have := congrArg List.length S.pre; rw [List.length_take] at this; omega
  obtain ⟨h1, tk, rfl, hk⟩ := x.done
  have noA : ∀ b : Addr, b ∉ (cxOf CX P w K mg base N qual scope f cd A outer s H E).ex := fun b z => absurd (show b ∈ ([] : List Addr) from z) (by simp)
  refine ⟨⟨e0.mod, S.kind, rfl, rfl, Nat.le_refl _, fun y z c h1 h2 => ?_, fun y hy => ?_, fun y c _ h => ?_, fun _ => hd, Around.frames_deeper e0.frames, .inr ⟨rfl, rfl⟩, fun b z => absurd z (noA b), e0.bs, e0.bsz, fun b _ _ => noA b, fun b z => absurd z (noA b), e0.funs, e0.frf⟩,
    rfl, e0.bare, Un.kept hk, ⟨_, x.toInCall.ns, fun i y v h1 h2 h3 => ?_⟩, fun y c h => ⟨_, x.cell y c h⟩, e0.hok.fresh (Nat.le_refl _), fun y c h => ?_, fun p hp => absurd (show p ∈ ([] : List (Addr × Obj)) from hp) (by simp), e0.hok.kept hk, ?_⟩
  · exact name_of_addr x.apart (PySem.mem_of_lookup h1) (PySem.mem_of_lookup h2)
  · have hy : scope.names.lookup y = some .cell ∨ scope.names.lookup y = some .free := hy
    rcases hy with hy | hy
    · exact cell_has hy
    · exact absurd rfl (S.nofree _ (PySem.mem_of_lookup hy))
  · exact Nat.le_of_lt (x.above y c (PySem.mem_of_lookup h))
  · have hi : i < vs.length := by
      unfold start at h2
      by_cases hi : i < vs.length
      · exact hi
      · rw [List.getElem?_append_right (by simpa using hi)] at h2
        rw [List.getElem?_replicate] at h2
        split at h2 <;> cases h2
    have ha : vs[i]? = some v := by
      unfold start at h2
      rw [List.getElem?_append_left (by simpa using hi), List.getElem?_map] at h2
      cases e : vs[i]? with
      | none => rw [e] at h2; cases h2
      | some a => rw [e] at h2; cases h2; rfl
    obtain ⟨u, hu, rv⟩ := r.get ha
    have hp : ps[i]? = some y := by
      rw [← S.pre, List.getElem?_take_of_lt (by omega)]; exact h1
    have ndP : ps.Nodup := by rw [← S.pre]; exact S.nd.sublist (List.take_sublist _ _)
    refine ⟨u, rv, ?_⟩
    rcases S.par y (List.mem_of_getElem? hp) with k | k
    · exact .inl ⟨k, bindL_get ndP hp hu k⟩
    · obtain ⟨c, e⟩ := cell_has (n := s.heap.objs.size + 1) k
      refine .inr ⟨.inl k, c, e, ?_⟩
      have q := x.cell y c e
      rw [bindC_get ndP hp hu (by show scope.names.lookup y ≠ _; rw [k]; decide)] at q
      exact q
  · exact e0.hok.fresh (Nat.le_of_lt (x.above y c (PySem.mem_of_lookup h)))
  · unfold start
    show _ = N.length
    rw [List.length_append, List.length_map, List.length_replicate]
    omega
theorem fn_of {CX : CXT} {P : Program} {w : World} {K : PySem.W.Frag} {mg : Str → Option Value} {base : Heap} {k : Nat} {f : Addr} {name qual : Str} {params : Arguments} {body : List Stmt} {scope : Scope} {dV kV doc pm cdv ct oc : Value} {an od : Option Addr}
    {osl : Array (Option Value)} {N ps : List Str} {sp : Sp} (lk : K.lookup f = some ⟨oc, od, .func (PySem.W.fnOf name qual params body scope dV kV doc pm an cdv ct), osl⟩) (hcd : PySem.W.codeIn K cdv qual = true) (S : FnScope N ps scope)
    (len : ∀ vs H Q E, sp vs H Q E → vs.length = ps.length)
    (hbody : ∀ (A : Around) (outer : List Env) (s : Shared) (H : Hp) (vs : List V) (Q : VK) (E : XK), Room k (A.deeper (envOfC qual scope s.heap.objs.size f cdv)) → sp vs H Q E →
      ∃ t, PSs (cxOf CX P w K mg base N qual scope f cdv A outer s H E) body t ∧ t { nx := fun _ H' => Q .non H', rt := Q } (start N vs) H) :
    FnOk P w K mg base CX (k + 1) f (PySem.W.fnOf name qual params body scope dV kV doc pm an cdv ct) ps sp := by
  refine ⟨len, fun A outer s H args us vs Q E hr e0 hb r hsp => ?_⟩
  have hl := len _ _ _ _ hsp
  have KX : K.In s.heap := e0.mod.kin.keeps fun b o e => (e0.bs b o e).1
  have lim : s.heap.NoLimit := e0.mod.nolimit.keeps fun b o e => (e0.bs b o e).1
  have hkind : ∀ y ∈ ps.zip us, scope.names.lookup y.1 = some .local ∨ (scope.names.lookup y.1 = some .cell ∧ ((cellsFrom (s.heap.objs.size + 1) scope.names []).lookup y.1).isSome = true) := fun ⟨n, v⟩ hy => by
    rcases S.par n (List.of_mem_zip hy).1 with q | q
    · exact .inl q
    · exact .inr ⟨q, PySem.W.cellsFrom_some _ _ _ (.inl q)⟩
  refine codeAny_call_function hr.depth (KX _ _ lk) rfl S.co S.gen rfl (PySem.W.codeRec_of KX hcd) (hb _ _ _ _ ?_)
  refine wpAny_newFunctionEnv_cells S.kind hkind fun env he s1 x => ?_
  subst he
  refine ⟨lim.keeps x.toInCall.keep, codeAny_func ?_⟩
  obtain ⟨t, ht, hq⟩ := hbody A outer s H vs Q E (hr.deeper _) hsp
  have I : Inv (cxOf CX P w K mg base N qual scope f cdv A outer s H E) [] (start N vs) H s1 := inv_start S hr.hd e0 hl r x
  refine wpAny_mono (ht [] s1 (start N vs) H _ I hq) (fun fl s' hs => ?_) fun e s' hs => hs
  have fin : ∀ {σ' : St} {H' : Hp} {v : V} {u : Value}, Inv (cxOf CX P w K mg base N qual scope f cdv A outer s H E) [] σ' H' s' → RelV v u → Q v H' → CE outer P w H s Q u s' :=
    fun {σ' H' v u} J rv q => ⟨v, H', J.os, J.bare, J.base, J.hok, rv, q⟩
  cases fl with
  | ret u =>
    obtain ⟨v, σ', H', J, rv, q⟩ := hs
    exact fin J rv q
  | next =>
    obtain ⟨σ', H', J, q⟩ := hs
    exact fin (v := V.non) (u := Value.none) J rfl q
  | brk =>
    obtain ⟨_, _, _, q⟩ := hs
    exact False.elim q
  | cont =>
    obtain ⟨_, _, _, q⟩ := hs
    exact False.elim q
end L2
namespace L2
open PySem PySem.Spec PyProof.Rows
section
variable {X : Cx} {x : Str} {p pos : Pos} {e : Expr} {es : List Expr} {t : TA} {id T : String} {r : List V → Hp → VK → Prop}
def tCB (r : List V → Hp → VK → Prop) (t : TA) : TE := fun σ H Q => t σ H fun vs H1 => r vs H1 Q
theorem pe_callB (hc : CallR X (.builtin id) r) (hg : Gl X x) (hm : X.mg x = none) (hv : bootBuiltins x = some (.builtin id)) (ha : PA X (e :: es) t) (hn : x ≠ "__name__" := by decide) (hdb : (x == ("__debug__" : Str)) = false := by decide)
    (he : starEach (e :: es) X.env = (false, eval e X.env) :: starEach es X.env := by rfl) (hpl : (backTo pos (starEach es X.env)).any (·.1) = false := by rfl) : PE X (.Call (.Name x p) (e :: es) [] pos) (tCB r t) := by
  intro pins s σ H Q I h
  refine wpAny_Call_Name_kw (ld_blt I hg hm hv ?_ hn hdb)
  exact PyProof.Rows.callWith_builtin1 (thn (ha pos pins s σ H _ I h) fun us s1 ⟨vs, H1, I1, r1, q1⟩ => hc pins s1 σ H1 vs us Q I1 r1 q1) he hpl
theorem pe_callTy (hc : CallR X (.type T) r) (hg : Gl X x) (hm : X.mg x = none) (hv : bootBuiltins x = some (.type T)) (ha : PA X (e :: es) t) (hn : x ≠ "__name__" := by decide) (hdb : (x == ("__debug__" : Str)) = false := by decide)
    (he : starEach (e :: es) X.env = (false, eval e X.env) :: starEach es X.env := by rfl) (hpl : (backTo pos (starEach es X.env)).any (·.1) = false := by rfl) : PE X (.Call (.Name x p) (e :: es) [] pos) (tCB r t) := by
  intro pins s σ H Q I h
  refine wpAny_Call_Name_kw (ld_blt I hg hm hv ?_ hn hdb)
  exact PyProof.Rows.callWith_type1 (thn (ha pos pins s σ H _ I h) fun us s1 ⟨vs, H1, I1, r1, q1⟩ => hc pins s1 σ H1 vs us Q I1 r1 q1) he hpl
end
end L2
namespace HT
open PySem PyProof.Rows
section
open PySem.SeqAt
open PySem.AutoSeq1 (wpAny_loadPart')
open PySem.MeetsSeq PySem.MeetsSeq2 PySem.MeetsSeq3
end
section
variable {prog : Program} {w : World} {A : Around} {E : Value → Shared → Prop} {s : Shared}
end
end HT
namespace L2
open PySem PySem.Spec PyProof.Rows
abbrev TO := St → Hp → (Option Int → Hp → Prop) → Prop
def PO (X : Cx) (e : Option Expr) (t : TO) : Prop :=
  ∀ (pins : List (Addr × Obj)) (s : Shared) (σ : St) (H : Hp) (Q : Option Int → Hp → Prop), Inv X pins σ H s → t σ H Q →
    wpAny (model X.prog X.w) X.A (evalPart e X.env) (fun u s' => ∃ o H', Inv X pins σ H' s' ∧ IsPart u o ∧ Q o H') X.xe s
section
variable {X : Cx} {e : Expr} {te : TE} {lo hi : Option Expr} {tl th : TO} {pos p2 : Pos}
def SlR (X : Cx) (r : V → Option Int → Option Int → Hp → VK → Prop) : Prop :=
  ∀ (pins : List (Addr × Obj)) (s : Shared) (σ : St) (H : Hp) (x : V) (v vl vu : Value) (lo hi : Option Int) (sl : Addr) (Q : VK), Inv X pins σ H s → RelV x v → s.heap.IsSliceOf sl vl vu .none → IsPart vl lo → IsPart vu hi → r x lo hi H Q →
    ∃ T id, typeLookup (.type T) "__getitem__" = pure (some (.builtin id)) ∧ s.TypeIs v T ∧ wpAny (model X.prog X.w) X.A (getItem v (.ref sl)) (EP X pins σ Q) X.xe s
theorem SlR.or {r r' : V → Option Int → Option Int → Hp → VK → Prop} (h : SlR X r) (h' : SlR X r') : SlR X (fun x lo hi H Q => r x lo hi H Q ∨ r' x lo hi H Q) := by
  intro pins s σ H x v vl vu lo hi sl Q I rx hs pl pu q
  rcases q with q | q
  · exact h pins s σ H x v vl vu lo hi sl Q I rx hs pl pu q
  · exact h' pins s σ H x v vl vu lo hi sl Q I rx hs pl pu q
end
end L2
namespace L2
open PySem PySem.Spec PyProof.Rows
def ixN (n : Nat) (i : Int) : Option Nat := if 0 ≤ i then (if i < n then some i.toNat else none) else if -(n : Int) ≤ i then some (i + n).toNat else none
def atI {α : Type} (xs : List α) (i : Int) : Option α := (ixN xs.length i).bind fun j => xs[j]?
theorem ixN_seq {n : Nat} {i : Int} {j : Nat} (h : ixN n i = some j) : seqIndex? i n = some j ∧ j < n ∧ -(n : Int) ≤ i ∧ i < n := by
  unfold ixN at h
  by_cases h0 : 0 ≤ i
  · rw [if_pos h0] at h
    by_cases h1 : i < n
    · rw [if_pos h1] at h
      have e : i.toNat = j := Option.some.inj h
      exact ⟨by rw [seqIndex_of h0 h1, e], by omega, by omega, h1⟩
    · rw [if_neg h1] at h; cases h
  · rw [if_neg h0] at h
    by_cases h1 : -(n : Int) ≤ i
    · rw [if_pos h1] at h
      have e : (i + n).toNat = j := Option.some.inj h
      exact ⟨by rw [seqIndex_neg (by omega) h1, e], by omega, h1, by omega⟩
    · rw [if_neg h1] at h; cases h
theorem atI_get {α : Type} {xs : List α} {i : Int} {v : α} (h : atI xs i = some v) : ∃ j, seqIndex? i xs.length = some j ∧ xs[j]? = some v ∧ j < xs.length ∧ -(xs.length : Int) ≤ i ∧ i < xs.length := by
  unfold atI at h
  cases e : ixN xs.length i with
  | none => rw [e] at h; cases h
  | some j =>
    rw [e] at h
    obtain ⟨h1, h2, h3, h4⟩ := ixN_seq e
    exact ⟨j, h1, h, h2, h3, h4⟩
def PlainIx (b : Expr) : Prop := ∀ o i, subscripted b false o i = operate [o, i] (getItem o i)
def IxR (X : Cx) (r : R2) : Prop :=
  ∀ (value slice : Expr) (pins : List (Addr × Obj)) (s : Shared) (σ : St) (H : Hp) (x y : V) (v u : Value) (Q : VK), Inv X pins σ H s → RelV x v → RelV y u → r x y H Q →
    subscripted slice false v u = operate [v, u] (getItem v u) → wpAny (model X.prog X.w) X.A (subscriptTail value slice v u) (EP X pins σ Q) X.xe s
def MtR (X : Cx) (id : String) (r : V → List V → Hp → VK → Prop) : Prop :=
  ∀ (pins : List (Addr × Obj)) (s : Shared) (σ : St) (H : Hp) (x : V) (xs : List V) (v : Value) (us : List Value) (Q : VK), Inv X pins σ H s → RelV x v → Vals xs us → r x xs H Q →
    wpAny (model X.prog X.w) X.A (call (.builtin id) (v :: us)) (EP X pins σ Q) X.xe s
section
variable {X : Cx} {a b : Expr} {ta tb : TE} {pos : Pos}
theorem IxR.or {r r' : R2} (h : IxR X r) (h' : IxR X r') : IxR X (fun x y H Q => r x y H Q ∨ r' x y H Q) := by
  intro value slice pins s σ H x y v u Q I rx ry q hs
  rcases q with q | q
  · exact h value slice pins s σ H x y v u Q I rx ry q hs
  · exact h' value slice pins s σ H x y v u Q I rx ry q hs
theorem MtR.or {id : String} {r r' : V → List V → Hp → VK → Prop} (h : MtR X id r) (h' : MtR X id r') : MtR X id (fun x xs H Q => r x xs H Q ∨ r' x xs H Q) := by
  intro pins s σ H x xs v us Q I rx rs q
  rcases q with q | q
  · exact h pins s σ H x xs v us Q I rx rs q
  · exact h' pins s σ H x xs v us Q I rx rs q
theorem pe_ix {r : R2} (hr : IxR X r) (ha : PE X a ta) (hb : PE X b tb) (hs : PlainIx b) : PE X (.Subscript a b pos) (tOp r ta tb) := by
  intro pins s σ H Q I h
  exact Subscript_ (binT ha hb I h fun v u s2 x y H2 I2 rx ry q => hr a b pins s2 σ H2 x y v u Q I2 rx ry q (hs _ _))
def rIxL (K : PySem.W.Frag) : R2 := fun x y H Q => ∃ p xs i v, x = .ref p ∧ y = .int i ∧ SqL K H p xs ∧ atI xs i = some v ∧ Q v H
def rIxT (K : PySem.W.Frag) : R2 := fun x y H Q => ∃ p xs i v, x = .ref p ∧ y = .int i ∧ SqT K H p xs ∧ atI xs i = some v ∧ Q v H
def rIxS : R2 := fun x y H Q => ∃ z i c, x = .str z ∧ y = .int i ∧ z.length ≤ sizeLine ∧ atI z.cps.toList i = some c ∧ Q (.str ⟨#[c]⟩) H
theorem ix_list : IxR X (rIxL X.K) := by
  intro value slice pins s σ H x y v u Q I rx ry h hs
  obtain ⟨p, xs, i, z, rfl, rfl, hq, he, q⟩ := h
  cases rx
  obtain ⟨t, rfl⟩ := ry
  obtain ⟨its, r, pl, hz⟩ := I.list hq
  obtain ⟨j, h1, h2, h3, h4, h5⟩ := atI_get he
  obtain ⟨w, ew, rw'⟩ := r.get h2
  have hl := r.length
  have hn := line63
  have fin : EP X pins σ Q w s := ⟨z, H, I, rw', q⟩
  by_cases h0 : 0 ≤ i
  · have hj : i.toNat = j := by
      rw [seqIndex_of h0 h5] at h1
      exact Option.some.inj h1
    exact item_listR pl.isList h0 (by omega) (by rw [hj]; simpa using ew) fin hs
  · have hj : (i + (its.toArray.size : Int)).toNat = j := by
      rw [seqIndex_neg (by omega) h4] at h1
      rw [List.size_toArray, ← hl]
      exact Option.some.inj h1
    exact subscriptTail_builtinR (x := w) pl.isList.typeIs slot_list_getitem.lookup
      (wpAny_getItem_list_neg (Q := fun r s' => r = w ∧ EP X pins σ Q r s') pl.isList (by omega) (by rw [List.size_toArray] <;> omega) (by omega) (by rw [hj]; simpa using ew) ⟨rfl, fin⟩) hs
theorem ix_tup : IxR X (rIxT X.K) := by
  intro value slice pins s σ H x y v u Q I rx ry h hs
  obtain ⟨p, xs, i, z, rfl, rfl, hq, he, q⟩ := h
  cases rx
  obtain ⟨t, rfl⟩ := ry
  obtain ⟨its, r, pl, hz⟩ := I.tuple hq
  obtain ⟨j, h1, h2, h3, h4, h5⟩ := atI_get he
  obtain ⟨w, ew, rw'⟩ := r.get h2
  have hl := r.length
  have hn := line63
  have fin : EP X pins σ Q w s := ⟨z, H, I, rw', q⟩
  exact subscriptTail_builtinR (x := w) pl.typeIs slot_tuple_getitem.lookup
    (getItem_tuple (j := j) (Q := fun r s' => r = w ∧ EP X pins σ Q r s') pl (by omega) (by omega) (by rw [List.size_toArray, ← hl]; exact h1) (by simpa using ew) ⟨rfl, fin⟩) hs
theorem ix_str : IxR X rIxS := by
  intro value slice pins s σ H x y v u Q I rx ry h hs
  obtain ⟨z, i, c, rfl, rfl, hz, he, q⟩ := h
  obtain ⟨t, rfl⟩ := rx
  obtain ⟨t', rfl⟩ := ry
  obtain ⟨j, h1, h2, h3, h4, h5⟩ := atI_get he
  have hl : z.cps.toList.length = z.length := by simp [Str.length]
  rw [hl] at h1 h4 h5
  have hn := line63
  exact tail_any (typeIs_str s z t) slot_str_getitem.lookup (getItem_str (c := c) (by
    have e1 : decide (i < -(2 ^ 63 : Int)) = false := decide_eq_false (by omega)
    have e2 : decide (i ≥ 2 ^ 63) = false := decide_eq_false (by omega)
    rw [e1, e2, Bool.or_false]) (by rw [h1]; simpa using h2) ⟨.str ⟨#[c]⟩, H, I.tok _, ⟨_, rfl⟩, q⟩) hs
def rIx (K : PySem.W.Frag) : R2 := fun x y H Q => rIxL K x y H Q ∨ rIxT K x y H Q ∨ rIxS x y H Q
theorem ix_seq : IxR X (rIx X.K) := ix_list.or (ix_tup.or ix_str)
theorem mapSeq_set (its : List Value) (n j : Nat) (u : Value) : Obj.mapSeq (·.setIfInBounds j u) { cls := .type "list", data := .seq its.toArray n } = { cls := .type "list", data := .seq (its.set j u).toArray n } := by
  simp [Obj.mapSeq]
theorem Inv.lst {pins : List (Addr × Obj)} {σ : St} {H : Hp} {s : Shared} {p : Addr} {xs : List V} (I : Inv X pins σ H s) (h : H p = some (.lst xs)) :
    ∃ (its : List Value) (n : Nat), Vals xs its ∧ s.heap.get? p = some { cls := .type "list", data := .seq its.toArray n } ∧ xs.length ≤ sizeLine := by
  obtain ⟨z, its, n, r, e⟩ := I.hok p _ h
  exact ⟨its, n, r, e, z⟩
theorem Inv.lstUpd {pins : List (Addr × Obj)} {σ : St} {H : Hp} {s : Shared} {p : Addr} {xs ys : List V} {its its' : List Value} {n n' : Nat} {f : Obj → Obj} (I : Inv X pins σ H s) (h : H p = some (.lst xs))
    (ho : s.heap.get? p = some { cls := .type "list", data := .seq its.toArray n }) (hf : f { cls := .type "list", data := .seq its.toArray n } = { cls := .type "list", data := .seq its'.toArray n' }) (r : Vals ys its') (hz : ys.length ≤ sizeLine) (t : Nat) :
    Inv X pins σ (upd H p (.lst ys)) { s with heap := s.heap.update p f, toks := t } := by
  have e : (s.heap.update p f).get? p = some { cls := .type "list", data := .seq its'.toArray n' } := by
    rw [Heap.get?_update_self f ho (by rw [hf] <;> rfl), hf]
  refine I.write (x := p) (e := p) (by rw [h]; trivial) (.inl rfl) (fun b u hb q => (Heap.get?_update_other _ _ (Ne.symm hb)).trans q) ⟨_, e⟩ ?_
  exact ⟨hz, its', n', r, e⟩
def rSetL : V → V → V → Hp → (Hp → Prop) → Prop := fun o i v H Q => ∃ p xs k j, o = .ref p ∧ i = .int k ∧ H p = some (.lst xs) ∧ ixN xs.length k = some j ∧ Q (upd H p (.lst (xs.set j v)))
theorem set_list : PSet X rSetL := by
  intro pins s σ H o i v ov iv u Q I ro ri rv h
  obtain ⟨p, xs, k, j, rfl, rfl, hp, hj, q⟩ := h
  cases ro
  obtain ⟨t, rfl⟩ := ri
  obtain ⟨its, n, r, ho, hz⟩ := I.lst hp
  obtain ⟨h1, h2, h3, h4⟩ := ixN_seq hj
  have hl := r.length
  have hn := line63
  have I' : Inv X pins σ (upd H p (.lst (xs.set j v))) { s with heap := s.heap.update p (Obj.mapSeq (·.setIfInBounds j u)) } :=
    I.lstUpd hp ho (mapSeq_set its n j u) (r.set rv j) (by rw [List.length_set]; exact hz) s.toks
  by_cases h0 : 0 ≤ k
  · have hk : k.toNat = j := by
      rw [seqIndex_of h0 h4] at h1
      exact Option.some.inj h1
    exact PySem.W.ki_setAt ho h0 (by omega) (by rw [List.size_toArray, ← hl]; exact h4) (by rw [hk]; exact ⟨_, I', q⟩)
  · have hk : (k + (its.toArray.size : Int)).toNat = j := by
      rw [seqIndex_neg (by omega) h3] at h1
      rw [List.size_toArray, ← hl]
      exact Option.some.inj h1
    exact PySem.W.ki_setBack ho (by omega) (by rw [List.size_toArray, ← hl]; exact h3) (by omega) (by rw [hk]; exact ⟨_, I', q⟩)
theorem call_len_seq : CallR X (.builtin "len") (fun xs H Q => ∃ p ys, xs = [.ref p] ∧ (SqL X.K H p ys ∨ SqT X.K H p ys) ∧ Q (.int ys.length) H) := by
  intro pins s σ H xs us Q I r h
  obtain ⟨p, ys, rfl, hq, q⟩ := h
  obtain ⟨u, rfl, rx⟩ := vals1 r
  cases rx
  have hn := line63
  rcases hq with hq | hq
  · obtain ⟨its, r', pl, hz⟩ := I.list hq
    have hlen := r'.length
    exact Calls.call_len_list pl.isList (by simp only [List.size_toArray] <;> omega) ⟨.int ys.length, H, I.tok _, ⟨s.toks + 1, by rw [List.size_toArray, hlen]⟩, q⟩
  · obtain ⟨its, r', pl, hz⟩ := I.tuple hq
    have hlen := r'.length
    exact len_tuple pl (by simp only [List.size_toArray] <;> omega) ⟨.int ys.length, H, I.tok _, ⟨s.toks + 1, by rw [List.size_toArray, hlen]⟩, q⟩
theorem CallR.or {f : Value} {r r' : List V → Hp → VK → Prop} (h : CallR X f r) (h' : CallR X f r') : CallR X f (fun xs H Q => r xs H Q ∨ r' xs H Q) := by
  intro pins s σ H xs us Q I rs q
  rcases q with q | q
  · exact h pins s σ H xs us Q I rs q
  · exact h' pins s σ H xs us Q I rs q
theorem call_list_of : CallR X (.type "list") (fun xs H Q => ∃ p ys, xs = [.ref p] ∧ (SqL X.K H p ys ∨ SqT X.K H p ys) ∧ ∀ l, H l = none → Q (.ref l) (upd H l (.lst ys))) := by
  intro pins s σ H xs us Q I r h
  obtain ⟨p, ys, rfl, hq, q⟩ := h
  obtain ⟨u, rfl, rx⟩ := vals1 r
  cases rx
  have fin : ∀ (its : List Value), Vals ys its → ys.length ≤ sizeLine → ∀ (h' : Heap) (c' : Nat), (∀ b o', s.heap.get? b = some o' → h'.get? b = some o') →
      h'.get? s.heap.objs.size = some { cls := .type "list", dict := none, data := .seq its.toArray c', slots := #[] } → EP X pins σ Q (.ref s.heap.objs.size) { s with heap := h' } := fun its r' hz h' c' kp e =>
    ⟨.ref s.heap.objs.size, _, I.laid (t' := s.toks) kp (Nat.le_refl _) (show ObjOk X.prog X.w _ h' _ (.lst ys) from ⟨hz, its, c', r', e⟩), rfl, q _ (I.hok.fresh (Nat.le_refl _))⟩
  rcases hq with hq | hq
  · obtain ⟨its, r', pl, hz⟩ := I.list hq
    have hlen := r'.length
    obtain ⟨o, ho, hc, n, hd⟩ := pl.isList
    exact call_list_seq p (.inl rfl) ho hc hd (fun h' c' kp e => fin its r' hz h' c' kp e) (by simp only [List.size_toArray] <;> omega)
  · obtain ⟨its, r', pl, hz⟩ := I.tuple hq
    have hlen := r'.length
    obtain ⟨o, ho, hc, n, hd⟩ := pl
    exact call_list_seq p (.inr rfl) ho hc hd (fun h' c' kp e => fin its r' hz h' c' kp e) (by simp only [List.size_toArray] <;> omega)
def tyV (K : PySem.W.Frag) (T : String) (x : V) (H : Hp) : Prop := match x with
  | .str _ => T = "str"
  | .int _ => T = "int"
  | .ref p => (T = "list" ∧ ∃ xs, SqL K H p xs) ∨ (T = "tuple" ∧ ∃ o, K.lookup p = some o ∧ o.cls = .type "tuple" ∧ o.dict = none) ∨
      (T = "dict" ∧ ((∃ kvs, H p = some (.dK kvs)) ∨ ∃ kvs, H p = some (.dT kvs))) ∨ (T = "set" ∧ ∃ S n, H p = some (.set S n))
  | _ => False
theorem tyV_is {pins : List (Addr × Obj)} {σ : St} {H : Hp} {s : Shared} {T : String} {x : V} {v : Value} (I : Inv X pins σ H s) (r : RelV x v) (ty : tyV X.K T x H) :
    s.TypeIs v T ∧ ∀ a, v = .ref a → ∃ ob, s.heap.get? a = some ob ∧ ob.dict = none := by
  cases x with
  | str z =>
    obtain ⟨t, rfl⟩ := r
    cases (show T = "str" from ty)
    exact ⟨typeIs_str s z t, fun _ e => nomatch e⟩
  | int i =>
    obtain ⟨t, rfl⟩ := r
    cases (show T = "int" from ty)
    exact ⟨typeIs_int s i t, fun _ e => nomatch e⟩
  | ref p =>
    cases r
    rcases ty with ⟨rfl, xs, hq⟩ | ⟨rfl, o, hk, hc, hd⟩ | ⟨rfl, hk⟩ | ⟨rfl, S, n, hk⟩
    · obtain ⟨its, _, pl, _⟩ := I.list hq
      refine ⟨pl.isList.typeIs, fun a e => ?_⟩
      cases e
      obtain ⟨o, n, e, c, hd, _⟩ := pl
      exact ⟨o, e, hd⟩
    · refine ⟨⟨o, I.kIn p o hk, hc⟩, fun a e => ?_⟩
      cases e
      exact ⟨o, I.kIn _ o hk, hd⟩
    · have z : ∃ o, s.heap.get? p = some o ∧ o.ExactDict := by
        rcases hk with ⟨kvs, hk⟩ | ⟨kvs, hk⟩
        · obtain ⟨_, _, _, _, o, _, _, e, ex, _⟩ := I.hok p _ hk
          exact ⟨o, e, ex⟩
        · obtain ⟨_, _, _, _, o, _, _, e, ex, _⟩ := I.hok p _ hk
          exact ⟨o, e, ex⟩
      obtain ⟨o, e, ex⟩ := z
      refine ⟨⟨o, e, ex.1⟩, fun a e2 => ?_⟩
      cases e2
      exact ⟨o, e, ex.2.1⟩
    · obtain ⟨o, _, _, _, e, ex, _⟩ := I.hok p _ hk
      refine ⟨⟨o, e, ex.1⟩, fun a e2 => ?_⟩
      cases e2
      exact ⟨o, e, ex.2.1⟩
  | _ => exact False.elim ty
def tBM0 (K : PySem.W.Frag) (T : String) (r : V → List V → Hp → VK → Prop) (to : TE) : TE := fun σ H Q => to σ H fun x H1 => tyV K T x H1 ∧ r x [] H1 Q
def tBM (K : PySem.W.Frag) (T : String) (r : V → List V → Hp → VK → Prop) (to : TE) (t : TA) : TE := fun σ H Q => to σ H fun x H1 => tyV K T x H1 ∧ t σ H1 fun xs H2 => r x xs H2 Q
variable {o e : Expr} {es : List Expr} {to : TE} {t : TA} {name : Str} {apos cpos : Pos} {T id : String} {r : V → List V → Hp → VK → Prop}
theorem pe_bm0 (pa : PlainAttrs T) (slot : Slot T name id) (hty : typeOf (.builtin id) = pure (.type "method_descriptor")) (hm : MtR X id r) (ho : PE X o to)
    (hbase : attributeBase o name X.env (eval o X.env) = eval o X.env := by rfl) (hline : (apos.endLine == cpos.line) = true := by rfl) : PE X (.Call (.Attribute o name apos) [] [] cpos) (tBM0 X.K T r to) := by
  intro pins s σ H Q I h
  refine wpAny_Call_method0_late hbase hline (thn (ho pins s σ H _ I h) fun v s1 ⟨x, H1, I1, r1, ty, q1⟩ => ?_)
  obtain ⟨h1, h2⟩ := tyV_is I1 r1 ty
  exact ⟨T, id, pa, slot, hty, h1, h2, Calls.callWith_builtin rfl (PySem.evalArgs_none (hm pins s1 σ H1 x [] v [] Q I1 r1 .nil q1))⟩
theorem pe_bm (pa : PlainAttrs T) (slot : Slot T name id) (hty : typeOf (.builtin id) = pure (.type "method_descriptor")) (hm : MtR X id r) (ho : PE X o to) (ha : PA X (e :: es) t)
    (hbase : attributeBase o name X.env (eval o X.env) = eval o X.env := by rfl)
    (hfew : ((backTo cpos (starEach (e :: es) X.env)).all (fun x => !x.1) && (backToKw cpos (keywordEach [] X.env)).all (fun x => x.1.isSome)
      && decide ((e :: es).length + ([] : List Keyword).length + (if ([] : List Keyword).isEmpty then 0 else 1) < 30)) = true := by rfl)
    (hline : (apos.endLine == cpos.line) = true := by rfl) (hs : starEach (e :: es) X.env = (false, eval e X.env) :: starEach es X.env := by rfl) (hplain : (backTo cpos (starEach es X.env)).any (·.1) = false := by rfl) :
    PE X (.Call (.Attribute o name apos) (e :: es) [] cpos) (tBM X.K T r to t) := by
  intro pins s σ H Q I h
  refine wpAny_Call_method_late hbase hfew hline rfl (thn (ho pins s σ H _ I h) fun v s1 ⟨x, H1, I1, r1, ty, q1⟩ => ?_)
  obtain ⟨h1, h2⟩ := tyV_is I1 r1 ty
  refine ⟨T, id, pa, slot, hty, h1, h2, ?_⟩
  have hA := ha cpos pins s1 σ H1 _ I1 q1
  rw [hs] at hA ⊢
  refine Calls.callWith_builtin (by show (false || (backTo cpos (starEach es X.env)).any (·.1)) = false; rw [hplain] <;> rfl) (Calls.evalArgs_plain ?_)
  exact thn hA fun us s2 ⟨vs, H2, I2, r2, q2⟩ => hm pins s2 σ H2 x vs v us Q I2 r1 r2 q2
/- xs.append(e), list.index on a module's tuple .. are MtR facts of 06m -/
end
end L2
namespace L2
open PySem PySem.Spec PyProof.Rows
def MtM (X : Cx) (id : String) (r : V → List V → Hp → VK → Prop) : Prop :=
  ∀ (pins : List (Addr × Obj)) (s : Shared) (σ : St) (H : Hp) (x : V) (xs : List V) (v : Value) (us : List Value) (Q : VK), Inv X pins σ H s → RelV x v → Vals xs us → r x xs H Q →
    wpAny (model X.prog X.w) X.A (call (.builtin id) (v :: us)) (EP X pins σ Q) X.xe s
theorem Vals.one : ∀ {x : V} {us : List Value}, Vals [x] us → ∃ u, us = [u] ∧ RelV x u
  | _, _, .cons r .nil => ⟨_, rfl, r⟩
theorem Vals.two : ∀ {x y : V} {us : List Value}, Vals [x, y] us → ∃ u v, us = [u, v] ∧ RelV x u ∧ RelV y v
  | _, _, _, .cons r (.cons q .nil) => ⟨_, _, rfl, r, q⟩
theorem Vals.zero : ∀ {us : List Value}, Vals [] us → us = []
  | _, .nil => rfl
section
variable {X : Cx} {pins : List (Addr × Obj)} {σ : St} {H : Hp} {s : Shared} {l b : Addr} {xs ys zs : List V}
theorem Inv.lset {its its' : List Value} {n : Nat} {f : Array Value → Array Value} {t' : Nat} (I : Inv X pins σ H s) (hH : H l = some (.lst xs))
    (e : s.heap.get? l = some { cls := .type "list", data := .seq its.toArray n }) (hf : f its.toArray = its'.toArray) (hv : Vals ys its') (hz : ys.length ≤ sizeLine) :
    Inv X pins σ (upd H l (.lst ys)) { s with heap := s.heap.update l (Obj.mapSeq f), toks := t' } := by
  have q := PySem.IsL.update e f
  rw [hf] at q
  refine I.write (x := l) (e := l) (by rw [hH]; exact trivial) (.inl rfl) (fun b' u hb hu => (Heap.get?_update_other s.heap (Obj.mapSeq f) (Ne.symm hb)).trans hu) ⟨_, q⟩ ?_
  exact ⟨hz, its', _, hv, q⟩
theorem Inv.lnew {its : List Value} {t' : Nat} (I : Inv X pins σ H s) (hv : Vals ys its) (hz : ys.length ≤ sizeLine) :
    Inv X pins σ (upd H s.heap.objs.size (.lst ys)) { s with heap := s.heap.push { cls := .type "list", data := .seq its.toArray }, toks := t' } :=
  I.laid (fun _ _ q => Heap.get?_push_of_some _ q) (Nat.le_refl _) ⟨hz, its, 0, hv, Heap.get?_push_size _ rfl⟩
theorem Inv.fresh (I : Inv X pins σ H s) : H s.heap.objs.size = none := I.hok.fresh (Nat.le_refl _)
theorem Inv.lstM (I : Inv X pins σ H s) (hH : H l = some (.lst xs)) : xs.length ≤ sizeLine ∧ ∃ (its : List Value) (n : Nat), Vals xs its ∧ xs.length = its.length ∧ s.heap.get? l = some { cls := .type "list", data := .seq its.toArray n } := by
  obtain ⟨z, its, n, r, e⟩ := I.hok l _ hH
  exact ⟨z, its, n, r, r.length, e⟩
end
section
variable {X : Cx}
def rAppend : V → List V → Hp → VK → Prop := fun x vs H Q => ∃ l xs y, x = .ref l ∧ vs = [y] ∧ H l = some (.lst xs) ∧ xs.length < sizeLine ∧ Q .non (upd H l (.lst (xs ++ [y])))
theorem mt_append : MtM X "list.append" rAppend := by
  intro pins s σ H x vs v us Q I rx rv h
  obtain ⟨l, xs, y, rfl, rfl, hH, hz, q⟩ := h
  cases rx
  obtain ⟨u, rfl, ru⟩ := rv.one
  obtain ⟨z, its, n, r, hl, e⟩ := I.lstM hH
  refine call_meets F.slot_list_append ⟨_, e, rfl⟩ F.entry_list_append (F.args_list_append_2 _ _) (PySem.list_append l its.toArray n u (by rw [List.size_toArray]; omega)) ⟨e, ?_⟩
  refine ⟨.non, _, I.lset (its' := its ++ [u]) hH e (by simp) (r.append (.cons ru .nil)) ?_, rfl, q⟩
  rw [List.length_append, List.length_singleton]
  omega
def rClear : V → List V → Hp → VK → Prop := fun x vs H Q => ∃ l xs, x = .ref l ∧ vs = [] ∧ H l = some (.lst xs) ∧ Q .non (upd H l (.lst []))
theorem mt_clear : MtM X "list.clear" rClear := by
  intro pins s σ H x vs v us Q I rx rv h
  obtain ⟨l, xs, rfl, rfl, hH, q⟩ := h
  cases rx
  have hus := rv.zero
  subst hus
  obtain ⟨z, its, n, r, hl, e⟩ := I.lstM hH
  refine call_meets F.slot_list_clear ⟨_, e, rfl⟩ F.entry_list_clear (F.args_list_clear_1 _) (AutoSeq1.list_clear_list_0 l its.toArray n (by rw [List.size_toArray]; omega)) ⟨e, ?_⟩
  exact ⟨.non, _, I.lset (its' := []) (ys := []) hH e rfl .nil (Nat.zero_le _), rfl, q⟩
end
section
variable {prog : Program} {w : World} {A : Around} {E : Value → Shared → Prop} {s : Shared}
set_option maxRecDepth 100000 in
end
section
variable {X : Cx}
end
end L2
namespace Att
open PySem PySem.W PySem.Calls PyProof.Rows
theorem ints_of_wellAll {P : Params} {h : Heap} : ∀ (ns : List Int) (vs : List Value), WellAll P h vs (ns.map WData.int) → IntsAre vs ns := by
  intro ns
  induction ns with
  | nil =>
    intro vs w
    rw [List.map_nil] at w
    cases w
    exact .nil
  | cons n ns ih =>
    intro vs w
    rw [List.map_cons] at w
    cases w with
    | cons a b =>
      cases a
      exact .cons _ _ (ih _ b)
theorem script_of {l : OpenLaw} {n : Nat} (hn : l.most = some n) {P : Params} {h : Heap} {args : List WData} {vals : List Value}
    (hpre : l.row.toRowW.claim.pre args = true) (hwl : WellAll P h vals args) :
    ∃ a vs ns, vals = [Value.ref a] ∧ args = [WData.list (ns.map WData.int)] ∧ h.get? a = some { cls := .type "list", data := .seq vs.toArray } ∧ IntsAre vs ns ∧ ns.length ≤ n := by
  have hsh : WShape.hasAll [] args [.list .int] = true := (pre_splitW hpre).1
  have hc : l.pre.holds [] { args := args } = true := (pre_splitW hpre).2
  obtain ⟨d, r, rfl, h1, h2⟩ := hasAllW_cons hsh
  obtain rfl := hasAllW_nil h2
  obtain ⟨xs, rfl, h3⟩ := hasW_list h1
  obtain ⟨ns, rfl⟩ := items_int h3
  have hlen : ns.length ≤ n := by
    unfold OpenLaw.pre at hc
    have h4 : (WTm.not (.lt (.lit (.int (n : Int))) (.len (.arg 0)))).holds [] { args := [.list (ns.map .int)] } = true := by
      have h4 := (holds_andW hc).1
      rw [hn] at h4
      exact h4
    have h5 := condW_of h4 (w_not (w_lt w_lit (w_len_list (w_arg rfl))))
    rw [List.length_map] at h5
    refine Nat.le_of_not_lt fun q => ?_
    have q' : (n : Int) < ((ns.length : Nat) : Int) := by omega
    first
      | (rw [decide_eq_true q'] at h5; exact absurd h5 (by decide))
      | (simp at h5; omega)
  cases hwl with
  | cons w1 w2 =>
    cases w2
    cases w1 with
    | list ho hall => exact ⟨_, _, ns, rfl, rfl, ho, ints_of_wellAll ns _ hall, hlen⟩
theorem post_true (l : OpenLaw) (args : List WData) : l.row.toRowW.claim.post args (.bool true) args = true :=
  postW_of (r := l.row.toRowW) (X := (true == true))
    (show WShape.has [] (.bool true) .bool = true by first | rfl | decide | simp [WShape.has, WShape.arms, WShape.armsAll])
    (show (WTm.eq .res (.lit (.bool true))).value [] { args := args, res := some (.bool true), after := args } = some (.bool (true == true)) from w_eq_bool (w_res rfl) w_lit) rfl
theorem attach_call {l : OpenLaw} {n : Nat} {q : Program} {loose : List Str} {XP : (Str → Option Value) → Heap → Prop} {YP : World → Heap → Prop} {d : DefRec}
    (hn : l.most = some n) (hdf : d.params.defaults = [])
    (call : ∀ (w : World) (s₀ s₁ : Shared) (mg mb : Str → Option Value) (fa : Addr) (o : Obj) (pm cd doc : Value) (a : Addr) (vs : List Value) (ns : List Int),
      Ground q loose [] XP w s₀ mg mb s₁.heap → YP w s₁.heap →
      s₁.heap.get? fa = some o → o.data = .func (docDef d.name d.params d.body d.scope pm cd doc) → s₁.heap.CodeRec cd d.name → mg d.name = some (.ref fa) →
      s₁.heap.get? a = some { cls := .type "list", data := .seq vs.toArray } → IntsAre vs ns → ns.length ≤ n → s₁.gens = #[] →
      codeAny (model l.prog w) callerA (.call (.ref fa) ⟨[.ref a], []⟩) (fun r s' => r = .ok (.ret (.bool true)) ∧ OldK s₁.heap s'.heap ∧ s'.os = s₁.os ∧ AllBare s'.gens) s₁) :
    WalkO q loose XP YP l.row.toRowW d [] (fun f vs => PySem.call f vs) := by
  intro w s₀ s₁ mg mb G Y fa o pm cd doc dV kV ho hd hcd hD hmg hg args vals as hpre hlay hrd hwl hlo
  obtain rfl : dV = .none := Dflts.none hD hdf
  obtain rfl : kV = .none := Dflts.noKw hD
  obtain ⟨a, vs, ns, rfl, rfl, hobj, hints, hlen⟩ := script_of hn hpre hwl
  refine enter_call (codeAny_mono (call w s₀ s₁ mg mb fa o pm cd doc a vs ns G Y ho (fd_plain hd) hcd hmg hobj hints hlen hg) fun r s' hq => ?_)
  obtain ⟨rfl, h2, h3, h4⟩ := hq
  exact ⟨.inl ⟨.bool true, .bool true, [], rfl, fun _ => rfl, .bool true, post_true l _, fun _ => ⟨List.Pairwise.nil, fun _ hm => (nomatch hm)⟩⟩, h2, h3, h4⟩
section
variable {prog : Program} {w : World} {A : Around} {E : Value → Shared → Prop} {s : Shared} {K : Frag}
def noObjs (h : Heap) : Heap := { h with objs := #[] }
theorem noObjs_get (h : Heap) (b : Addr) : (noObjs h).get? b = none := by
  cases e : (noObjs h).get? b with
  | none => rfl
  | some o => exact absurd (Heap.lt_size e) (Nat.not_lt_zero _)
theorem fr_all {h : Heap} {L : Addr} {m : Str → Option Value} (n : h.Ns L m) : Fr (noObjs h) L h m :=
  ⟨n, fun b o e => (by rw [noObjs_get] at e; cases e), Nat.zero_le _⟩
end
end Att
namespace L2
open PySem PySem.Spec PyProof.Rows
theorem vals_ints : ∀ {vs : List Value} {ns : List Int}, IntsAre vs ns → Vals (ns.map V.int) vs
  | _, _, .nil => .nil
  | _, _, .cons n t h => .cons ⟨t, rfl⟩ (vals_ints h)
def Only (H : Hp) : Prop := ∀ b, H b = none ∨ ∃ o xs, H b = some (.frz o (.lst xs))
def laidT (ts : List (Addr × Str × Pos)) (H : Hp) : Hp := fun b => match ts.find? (fun t => t.1 == b) with
  | some t => some (.tbl t.2.1 t.2.2)
  | none => H b
theorem laidT_or (ts : List (Addr × Str × Pos)) (H : Hp) (b : Addr) : (laidT ts H b = H b ∧ ∀ t ∈ ts, t.1 ≠ b) ∨ ∃ t ∈ ts, t.1 = b ∧ laidT ts H b = some (.tbl t.2.1 t.2.2) := by
  unfold laidT
  cases e : ts.find? (fun t => t.1 == b) with
  | none => exact .inl ⟨rfl, fun t ht z => by have := List.find?_eq_none.mp e t ht; simp [z] at this⟩
  | some t =>
    have h1 := List.mem_of_find?_eq_some e
    have h2 := List.find?_some e
    exact .inr ⟨t, h1, by simpa using h2, rfl⟩
theorem law_call {P : Program} {w : World} {K : PySem.W.Frag} {mg mb : Str → Option Value} {CX : CXT} {k : Nat} {fa a : Addr} {fd : FuncData} {x : Str} {sp : Sp} {s₁ : Shared} {vs : List Value} {ns : List Int}
    (KX : K.In s₁.heap) (hns : s₁.heap.Ns mainGlobals mg) (hb : s₁.heap.Ns builtinsNs mb) (hbb : ∀ x : Str, x ≠ "__name__" → mb x = bootBuiltins x) (hlim : s₁.heap.NoLimit) (hbm : ∃ bm ob, mg "__builtins__" = some (.ref bm) ∧ bm ≠ builtinsNs ∧ s₁.heap.get? bm = some ob ∧ ob.cls = .type "module" ∧ ob.dict = some builtinsNs ∧ ob.data = .plain) (hg : s₁.gens = #[])
    (ha : s₁.heap.get? a = some { cls := .type "list", data := .seq vs.toArray }) (hi : IntsAre vs ns) (hl : ns.length ≤ sizeLine) (hr : Room k callerA)
    (F : ∀ base : Heap, K.In base → base.Ns mainGlobals mg → FnOk P w K mg base CX k fa fd [x] sp) (hbind : ∀ (s : Shared) (u : Value), BindsTo s fd ⟨[u], []⟩ [(x, u)])
    (ts : List (Addr × Str × Pos)) (hts : ∀ t ∈ ts, s₁.heap.get? t.1 = some { cls := .none, data := .fields #[] }) (hCT : ∀ t ∈ ts, isCodeTable s₁.heap t.1) (hKt : ∀ t ∈ ts, K.lookup t.1 = none) (htu : ∀ t ∈ ts, ∀ t' ∈ ts, t.1 = t'.1 → t = t')
    (hsp : ∀ H : Hp, (∀ t ∈ ts, H t.1 = some (.tbl t.2.1 t.2.2)) → SqL K H a (ns.map V.int) → sp [.ref a] H (fun v _ => v = .bl true) fun _ _ _ => False)
    (hCX : ∀ H e s', CX [] H s₁ (fun _ _ _ => False) e s' → False) :
    codeAny (model P w) callerA (.call (.ref fa) ⟨[.ref a], []⟩) (fun r s' => r = .ok (.ret (.bool true)) ∧ OldK s₁.heap s'.heap ∧ s'.os = s₁.os ∧ AllBare s'.gens) s₁ := by
  have rv := vals_ints hi
  have lenV := hi.length
  have core : ∀ H : Hp, (∀ b, H b = none ∨ (∃ o xs, H b = some (.frz o (.lst xs))) ∨ ∃ t ∈ ts, t.1 = b ∧ H b = some (.tbl t.2.1 t.2.2)) → (∀ t ∈ ts, H t.1 = some (.tbl t.2.1 t.2.2)) → SqL K H a (ns.map V.int) → HOk P w H s₁.heap → (∀ b, H b ≠ none → b = a ∨ ∃ t ∈ ts, t.1 = b) → (H a ≠ none → K.lookup a = none) →
      codeAny (model P w) callerA (.call (.ref fa) ⟨[.ref a], []⟩) (fun r s' => r = .ok (.ret (.bool true)) ∧ OldK s₁.heap s'.heap ∧ s'.os = s₁.os ∧ AllBare s'.gens) s₁ := by
    intro H hO hT hS hok hA hK
    have base_of : ∀ {b : Addr} {o : Obj}, s₁.heap.get? b = some o → H b = none → (hidT s₁.heap H).get? b = some o := fun e n => hidT_get e n
    have noA : ∀ {b : Addr} {o : Obj} {es : Array DictEntry} {ep : Nat}, s₁.heap.get? b = some o → o.data = .dict es ep → H b = none := fun {b o es ep} e d => by
      cases q : H b with
      | none => rfl
      | some u =>
        rcases hA b (by rw [q]; simp) with e' | ⟨t, ht, e'⟩
        case inr =>
          subst e'
          rw [hts t ht] at e; cases e
          have d' : Data.fields #[] = Data.dict es ep := d
          cases d'
        subst e'
        rw [ha] at e; cases e
        have d' : Data.seq vs.toArray _ = Data.dict es ep := d
        cases d'
    have nsK : ∀ {b : Addr} {m : Str → Option Value}, s₁.heap.Ns b m → (hidT s₁.heap H).Ns b m := fun {b m} ⟨o, es, ep, e, d, r⟩ => ⟨o, es, ep, base_of e (noA e d), d, r⟩
    have hKb : K.In (hidT s₁.heap H) := fun b o e => base_of (KX b o e) (by
      cases q : H b with
      | none => rfl
      | some u =>
        rcases hA b (by rw [q]; simp) with e' | ⟨t, ht, e'⟩
        · subst e'
          rw [hK (by rw [q]; simp)] at e; cases e
        · subst e'
          rw [hKt t ht] at e; cases e)
    have hM : Mod K mg (hidT s₁.heap H) := ⟨hKb, nsK hns, ⟨mb, nsK hb, hbb⟩, let ⟨mc, h1, h2⟩ := hlim; ⟨mc, nsK h1, h2⟩, let ⟨bm, ob, g1, g2, g3, g4, g5, g6⟩ := hbm; ⟨bm, ob, g1, g2, base_of g3 (by
      cases q : H bm with
      | none => rfl
      | some u =>
        rcases hA bm (by rw [q]; simp) with e' | ⟨t, ht, e'⟩
        · rw [e', ha] at g3; cases g3
          have z : Value.type "list" = Value.type "module" := g4
          injection z with z
          exact absurd z (by decide)
        · rw [← e', hts t ht] at g3; cases g3
          cases g4), g4, g5, g6⟩⟩
    have e0 : Env0 P w K mg (hidT s₁.heap H) callerA [] s₁ H := ⟨rfl, hM, fun b o e => of_hidT e, Nat.le_of_eq (hidT_size _ _), trivial, fun b hb => absurd (show b ∈ ([] : List Addr) from hb) (by simp), hok, .of_eq hg⟩
    refine codeAny_mono ((F _ hKb (nsK hns)).run callerA [] s₁ H ⟨[.ref a], []⟩ [.ref a] [.ref a] _ _ hr e0 (hbind s₁ (.ref a)) (.cons rfl .nil) (hsp H hT hS)) fun r s' h => ?_
    cases r with
    | error e => exact (hCX H e s' h).elim
    | ok fl =>
      cases fl with
      | next => exact False.elim h
      | brk => exact False.elim h
      | cont => exact False.elim h
      | ret u =>
        obtain ⟨v, H', os, bare, un, hok', r', q⟩ := h
        have q' : v = .bl true := q
        subst q'
        obtain rfl : u = Value.bool true := r'
        refine ⟨rfl, ⟨fun b o e => ?_, fun b o e => un.there b o e (by simp)⟩, os, bare⟩
        cases q : H b with
        | none => exact .inl <| un.keep b o e q (by intro z; exact absurd (show b ∈ ([] : List Addr) from z) (by simp)) (by simp)
        | some u =>
          rcases hO b with z | ⟨ob, xs, z⟩ | ⟨t, ht, rfl, z⟩
          case inr.inr =>
            have z2 := un.tbls _ _ _ z
            obtain ⟨ps, e2, _⟩ := hok' _ _ z2
            rw [hts t ht] at e; cases e
            exact .inr (.inl ⟨hCT t ht, rfl, #[], ps, rfl, by rw [e2]; simp⟩)
          · rw [q] at z; cases z
          · have z2 := un.frzs b ob _ z
            obtain ⟨e1, _⟩ := hok b _ z
            obtain ⟨e2, _⟩ := hok' b _ z2
            rw [e] at e1; cases e1
            exact .inl e2
  have core1 : ∀ H : Hp, Only H → SqL K H a (ns.map V.int) → HOk P w H s₁.heap → (∀ b, H b ≠ none → b = a) → (H a ≠ none → K.lookup a = none) →
      codeAny (model P w) callerA (.call (.ref fa) ⟨[.ref a], []⟩) (fun r s' => r = .ok (.ret (.bool true)) ∧ OldK s₁.heap s'.heap ∧ s'.os = s₁.os ∧ AllBare s'.gens) s₁ := by
    intro H hO hS hok hA hK
    have na : ∀ t ∈ ts, t.1 ≠ a := fun t ht z => by
      have z2 := hts t ht
      rw [z, ha] at z2
      cases z2
    have cs : ∀ b, (laidT ts H b = H b ∧ ∀ t ∈ ts, t.1 ≠ b) ∨ ∃ t ∈ ts, t.1 = b ∧ laidT ts H b = some (.tbl t.2.1 t.2.2) := laidT_or ts H
    have la : laidT ts H a = H a := by
      rcases cs a with z | ⟨t, ht, z, _⟩
      · exact z.1
      · exact absurd z (na t ht)
    have noown : ∀ b x, H b ≠ some (.own x) := fun b x z => by rcases hO b with y | ⟨_, _, y⟩ <;> (rw [y] at z; cases z)
    have notup : ∀ b x, H b ≠ some (.tup x) := fun b x z => by rcases hO b with y | ⟨_, _, y⟩ <;> (rw [y] at z; cases z)
    refine core (laidT ts H) (fun b => ?_) (fun t ht => ?_) ?_ (fun b u z => ?_) (fun b z => ?_) (fun z => hK (by rw [← la]; exact z))
    · rcases cs b with z | ⟨t, ht, z1, z2⟩
      · rcases hO b with y | y
        · exact .inl (z.1.trans y)
        · obtain ⟨o, xs, y⟩ := y
          exact .inr (.inl ⟨o, xs, z.1.trans y⟩)
      · exact .inr (.inr ⟨t, ht, z1, z2⟩)
    · rcases cs t.1 with z | ⟨t', ht', z1, z2⟩
      · exact absurd rfl (z.2 t ht)
      · have := htu t' ht' t ht z1
        subst this
        exact z2
    · rcases hS with (z | ⟨o, z⟩) | z
      · exact .inl (.inl (by rw [la]; exact z))
      · exact .inl (.inr ⟨o, by rw [la]; exact z⟩)
      · exact .inr z
    · rcases cs b with y | ⟨t, ht, z1, z2⟩
      · rw [y.1] at z
        exact (hok b u z).stay (fun _ _ _ q => q) (fun c q => absurd q (noown c b)) fun c xs q => absurd q (notup c xs)
      · rw [z2] at z
        cases z
        subst z1
        exact ⟨#[], hts t ht, .inl rfl⟩
    · rcases cs b with y | ⟨t, ht, z1, z2⟩
      · exact .inl (hA b (by rw [← y.1]; exact z))
      · exact .inr ⟨t, ht, z1⟩
  cases hk : K.lookup a with
  | some o =>
    have e := KX a o hk
    rw [ha] at e
    cases e
    refine core1 (fun _ => none) (fun _ => .inl rfl) (.inr ⟨_, vs.toArray, _, hk, rfl, rfl, rfl, by rw [List.size_toArray, lenV]; exact hl, by simpa using rv⟩) (fun b u z => by have z' : (none : Option HO) = some u := z; cases z') (fun b z => absurd rfl z) fun z => absurd rfl z
  | none =>
    refine core1 (fun b => if b = a then some (.frz { cls := .type "list", data := .seq vs.toArray } (.lst (ns.map V.int))) else none) (fun b => ?_) (.inl (.inr ⟨{ cls := .type "list", data := .seq vs.toArray }, if_pos rfl⟩)) (fun b u z => ?_) (fun b z => ?_) fun _ => hk
    · by_cases hb : b = a
      · exact .inr ⟨_, _, if_pos hb⟩
      · exact .inl (if_neg hb)
    · by_cases hb : b = a
      · have z' := (if_pos hb).symm.trans z
        cases z'
        subst hb
        exact ⟨ha, by rw [List.length_map]; exact hl, vs, _, rv, ha⟩
      · have z' := (if_neg hb).symm.trans z
        cases z'
    · by_cases hb : b = a
      · exact hb
      · exact absurd (if_neg hb) z
end L2
namespace L2
open PySem PySem.Spec PyProof.Rows
abbrev KOf {K : PySem.W.Frag} {h : Heap} (_ : K.In h) : PySem.W.Frag := K
theorem walk_of {l : PySem.W.OpenLaw} {n k : Nat} {q : Program} {loose : List Str} {XP : (Str → Option Value) → Heap → Prop} {YP : World → Heap → Prop} {d : DefRec} {K : Params → PySem.W.Frag} {CX : World → CXT} {sp : World → Sp} {x : Str}
    (hn : l.most = some n) (hn2 : n ≤ sizeLine) (hdf : d.params.defaults = []) (hr : Room k callerA)
    (hY : ∀ (w : World) (h : Heap), YP w h → (K w.params).In h)
    (F : ∀ (w : World) (mg : Str → Option Value) (fa : Addr) (h : Heap), (K w.params).In h → h.Ns mainGlobals mg → mg d.name = some (.ref fa) →
      ∃ fd : FuncData, (∀ (s : Shared) (u : Value), BindsTo s fd ⟨[u], []⟩ [(x, u)]) ∧
        ∀ base : Heap, (K w.params).In base → base.Ns mainGlobals mg → FnOk l.prog w (K w.params) mg base (CX w) k fa fd [x] (sp w))
    (ts : List (Addr × Str × Pos)) (hts : ∀ (w : World) (h : Heap), YP w h → (∀ t ∈ ts, h.get? t.1 = some { cls := .none, data := .fields #[] }) ∧ (∀ t ∈ ts, isCodeTable h t.1) ∧ ∀ t ∈ ts, (K w.params).lookup t.1 = none) (htu : ∀ t ∈ ts, ∀ t' ∈ ts, t.1 = t'.1 → t = t')
    (hsp : ∀ (w : World) (H : Hp) (a : Addr) (ns : List Int), ns.length ≤ n → (∀ t ∈ ts, H t.1 = some (.tbl t.2.1 t.2.2)) → SqL (K w.params) H a (ns.map V.int) → sp w [.ref a] H (fun v _ => v = .bl true) fun _ _ _ => False)
    (hCX : ∀ (w : World) (H : Hp) (s : Shared) (e : Value) (s' : Shared), CX w [] H s (fun _ _ _ => False) e s' → False) :
    PySem.W.WalkO q loose XP YP l.row.toRowW d [] (fun f vs => PySem.call f vs) := by
  refine Att.attach_call hn hdf fun w s₀ s₁ mg mb fa o pm cd doc a vs ns G Y ho hd hcd hmg hobj hints hlen hg => ?_
  have KX := hY w _ Y
  obtain ⟨fd, hb, hF⟩ := F w mg fa _ KX G.T.g hmg
  exact law_call KX G.T.g G.T.b G.T.builtins G.T.nolimit G.T.bmain hg hobj hints (Nat.le_trans hlen hn2) hr hF hb ts (hts w _ Y).1 (hts w _ Y).2.1 (hts w _ Y).2.2 htu (fun H hO hS => hsp w H a ns hlen hO hS) fun H e s' => hCX w H s₁ e s'
theorem walk_ofK {l : PySem.W.OpenLaw} {n k : Nat} {q : Program} {loose : List Str} {XP : (Str → Option Value) → Heap → Prop} {YP : World → Heap → Prop} {d : DefRec} {K : Params → PySem.W.Frag} {CX : CXT} {sp : PySem.W.Frag → Sp} {x : Str}
    (hn : l.most = some n) (hn2 : n ≤ sizeLine) (hdf : d.params.defaults = []) (hr : Room k callerA)
    (hY : ∀ (w : World) (h : Heap), YP w h → (K w.params).In h)
    (F : ∀ (w : World) (mg : Str → Option Value) (fa : Addr) (h : Heap), (K w.params).In h → h.Ns mainGlobals mg → mg d.name = some (.ref fa) →
      ∃ fd : FuncData, (∀ (s : Shared) (u : Value), BindsTo s fd ⟨[u], []⟩ [(x, u)]) ∧
        ∀ base : Heap, (K w.params).In base → base.Ns mainGlobals mg → FnOk l.prog w (K w.params) mg base CX k fa fd [x] (sp (K w.params)))
    (ts : List (Addr × Str × Pos)) (hts : ∀ (w : World) (h : Heap), YP w h → (∀ t ∈ ts, h.get? t.1 = some { cls := .none, data := .fields #[] }) ∧ (∀ t ∈ ts, isCodeTable h t.1) ∧ ∀ t ∈ ts, (K w.params).lookup t.1 = none) (htu : ∀ t ∈ ts, ∀ t' ∈ ts, t.1 = t'.1 → t = t')
    (hsp : ∀ (K : PySem.W.Frag) (H : Hp) (a : Addr) (ns : List Int), ns.length ≤ n → (∀ t ∈ ts, H t.1 = some (.tbl t.2.1 t.2.2)) → SqL K H a (ns.map V.int) → sp K [.ref a] H (fun v _ => v = .bl true) fun _ _ _ => False)
    (hCX : ∀ (H : Hp) (s : Shared) (e : Value) (s' : Shared), CX [] H s (fun _ _ _ => False) e s' → False) :
    PySem.W.WalkO q loose XP YP l.row.toRowW d [] (fun f vs => PySem.call f vs) :=
  walk_of (K := K) (CX := fun _ => CX) (sp := fun w => sp (K w.params)) hn hn2 hdf hr hY F ts hts htu (fun w H a ns h1 h2 h3 => hsp (K w.params) H a ns h1 h2 h3) fun _ H s e s' => hCX H s e s'
end L2
/- THE LAST THEOREM (shape; LID, My.* are yours):
   My.Adr: a structure of the addresses that your layer names (classes, functions); My.Txt K t: a structure (Prop) of the equations over K;
   My.txt_mk : {K} {implicit addresses ..} (e1 : nsIn K mainGlobals "law" = some (some (.ref f))) (e2 : K.lookup f = some ⟨oc, od, .func (fnOf "law" "law" params body scope dV kV doc pm an cdv ct), sl⟩) (e3 : codeIn K cdv "law" = true) .. : ∃ t, My.Txt K t
set_option maxRecDepth 100000 in
set_option maxHeartbeats 0 in
(the tactic k_is has no namespace: write k_is) -/
namespace L2
open PySem PySem.Spec PyProof.Rows
def defArgs (s : Stmt) : Arguments := match s with
  | .FunctionDef _ a _ _ _ _ _ _ _ _ => a
  | _ => { posonlyargs := [], args := [], vararg := none, kwonlyargs := [], kw_defaults := [], kwarg := none, defaults := [] }
def defBody (s : Stmt) : List Stmt := match s with
  | .FunctionDef _ _ b _ _ _ _ _ _ _ => b
  | _ => []
def defScope (s : Stmt) : Scope := match s with
  | .FunctionDef _ _ _ _ _ _ sc _ _ _ => sc
  | _ => { kind := .function, names := [], isGenerator := false, isCoroutine := false }
abbrev CX0 : CXT := fun _ _ _ _ _ _ => False
abbrev E0 : XK := fun _ _ _ => False
theorem pass0 {X : Cx} : Passes CX0 X E0 := fun _ _ _ _ _ _ _ h => h.elim
structure Fun (K : PySem.W.Frag) (x qual : Str) (st : Stmt) (f : Addr) (fd : FuncData) : Prop where
  ex : ∃ (oc : Value) (od : Option Addr) (kV doc pm : Value) (an : Option Addr) (cdv ct : Value) (osl : Array (Option Value)),
    fd = PySem.W.fnOf x qual (defArgs st) (defBody st) (defScope st) .none kV doc pm an cdv ct ∧ K.lookup f = some ⟨oc, od, .func fd, osl⟩ ∧ PySem.W.codeIn K cdv qual = true
  kp : PySem.W.keepIn K (.ref f) = true
section
variable {P : Program} {w : World} {K : PySem.W.Frag} {mg : Str → Option Value} {base : Heap}
theorem Fun.ok {x qual : Str} {st : Stmt} {f : Addr} {fd : FuncData} {N ps : List Str} {k : Nat} {sp : Sp} (F : Fun K x qual st f fd) (S : FnScope N ps (defScope st)) (len : ∀ vs H Q E, sp vs H Q E → vs.length = ps.length)
    (hbody : ∀ (cdv : Value) (A : Around) (outer : List Env) (s : Shared) (H : Hp) (vs : List V) (Q : VK) (E : XK), Room k (A.deeper (envOfC qual (defScope st) s.heap.objs.size f cdv)) → sp vs H Q E →
      ∃ t, PSs (cxOf CX0 P w K mg base N qual (defScope st) f cdv A outer s H E).nox (defBody st) t ∧ t { nx := fun _ H' => Q .non H', rt := Q } (start N vs) H) : FnOk P w K mg base CX0 (k + 1) f fd ps sp := by
  obtain ⟨oc, od, kV, doc, pm, an, cdv, ct, osl, rfl, lk, hcd⟩ := F.ex
  refine fn_of lk hcd S len fun A outer s H vs Q E hr hsp => ?_
  obtain ⟨t, h, q⟩ := hbody cdv A outer s H vs Q E hr hsp
  exact ⟨t, h.nox, q⟩
theorem Fun.binds {x qual : Str} {st : Stmt} {f : Addr} {fd : FuncData} {ps : List Str} (F : Fun K x qual st f fd)
    (h : ∀ (kV doc pm : Value) (an : Option Addr) (cdv ct : Value) (us : List Value), us.length = ps.length → bindArgs (PySem.W.fnOf x qual (defArgs st) (defBody st) (defScope st) .none kV doc pm an cdv ct) ⟨us, []⟩ = pure (ps.zip us)) : Binds K fd ps [] := by
  obtain ⟨oc, od, kV, doc, pm, an, cdv, ct, osl, rfl, lk, hcd⟩ := F.ex
  exact .all (h kV doc pm an cdv ct)
end
theorem small1000 {n : Nat} (h : n ≤ 1000) : n < sizeLine := Nat.lt_of_le_of_lt h (by decide)
section
variable {X : Cx}
end
theorem iteF {A B : Prop} (h : B) : if false = true then A else B := by
  rw [if_neg Bool.false_ne_true]
  exact h
theorem iteT {A B : Prop} (h : A) : if true = true then A else B := by
  rw [if_pos rfl]
  exact h
def Same (H H' : Hp) : Prop := ∀ b o, H b = some o → H' b = some o
theorem Same.refl (H : Hp) : Same H H := fun _ _ h => h
theorem Same.trans {H H1 H2 : Hp} (a : Same H H1) (b : Same H1 H2) : Same H H2 := fun c o h => b c o (a c o h)
theorem Same.free {H H' : Hp} (e : Same H H') {l : Addr} (h : H' l = Option.none) : H l = Option.none := by
  cases q : H l with
  | none => rfl
  | some o =>
    rw [e l o q] at h
    cases h
theorem Same.seq {K : PySem.W.Frag} {H H' : Hp} {a : Addr} {xs : List V} (e : Same H H') (h : SqL K H a xs) : SqL K H' a xs := by
  rcases h with (h | ⟨o, h⟩) | h
  · exact .inl (.inl (e _ _ h))
  · exact .inl (.inr ⟨o, e _ _ h⟩)
  · exact .inr h
end L2
namespace My
open PySem PySem.Spec PyProof.Rows L2
abbrev St := L2.St
theorem same_new {H : Hp} {p : Addr} (h : H p = none) (o : HO) : Same H (upd H p o) := fun b u q => by rw [upd_ne (ne_of_none q h)]; exact q
structure Df (K : PySem.W.Frag) (mg : Str → Option Value) (x : Str) (st : Stmt) (ps : List Str) : Prop where
  ex : ∃ (f : Addr) (fd : FuncData), Fun K x x st f fd ∧ Binds K fd ps [] ∧ mg x = some (.ref f)
structure Has (P : Program) (w : World) (K : PySem.W.Frag) (mg : Str → Option Value) (base : Heap) (n : Nat) (x : Str) (ps : List Str) (sp : Sp) : Prop where
  ex : ∃ (f : Addr) (fd : FuncData), FnOk P w K mg base CX0 n f fd ps sp ∧ Binds K fd ps [] ∧ PySem.W.keepIn K (.ref f) = true ∧ mg x = some (.ref f)
section
variable {P : Program} {w : World} {K : PySem.W.Frag} {mg : Str → Option Value} {base : Heap} {x : Str} {ps N : List Str} {sp : Sp} {st : Stmt} {k n : Nat}
theorem Has.mono (h : Has P w K mg base k x ps sp) (l : k ≤ n) : Has P w K mg base n x ps sp := by
  obtain ⟨f, fd, F, b, kp, m⟩ := h.ex
  exact ⟨f, fd, F.mono l, b, kp, m⟩
theorem Df.has (D : Df K mg x st ps) (S : FnScope N ps (defScope st)) (len : ∀ vs H Q E, sp vs H Q E → vs.length = ps.length)
    (hbody : ∀ (f : Addr) (cdv : Value) (A : Around) (outer : List Env) (s : Shared) (H : Hp) (vs : List V) (Q : VK) (E : XK), Room k (A.deeper (envOfC x (defScope st) s.heap.objs.size f cdv)) → sp vs H Q E →
      ∃ t, PSs (cxOf CX0 P w K mg base N x (defScope st) f cdv A outer s H E).nox (defBody st) t ∧ t { nx := fun _ H' => Q .non H', rt := Q } (start N vs) H) : Has P w K mg base (k + 1) x ps sp := by
  obtain ⟨f, fd, F, b, m⟩ := D.ex
  exact ⟨f, fd, F.ok S len (hbody f), b, F.kp, m⟩
theorem Df.mk' {f : Addr} {fd : FuncData} (F : Fun K x x st f fd) (b : Binds K fd ps []) (m : mg x = some (.ref f)) : Df K mg x st ps := ⟨f, fd, F, b, m⟩
end
section
variable {X : Cx} {x : Str} {ps : List Str} {sp : Sp} {n : Nat} {p pos : Pos} {e : Expr} {es : List Expr} {t : TA}
theorem pe_callH (h : Has X.prog X.w X.K X.mg X.base n x ps sp) (hr : Room n X.A) (ha : PA X (e :: es) t) (hg : Gl X x := by rfl) (hdb : (x == ("__debug__" : Str)) = false := by decide)
    (he : starEach (e :: es) X.env = (false, eval e X.env) :: starEach es X.env := by rfl) (hpl : (backTo pos (starEach es X.env)).any (·.1) = false := by rfl) :
    PE X (.Call (.Name x p) (e :: es) [] pos) (tCall sp [] E0 t) := by
  obtain ⟨f, fd, F, b, kp, m⟩ := h.ex
  exact pe_call F hr hg m kp b .nil pass0 ha hdb he hpl
end
mutual
inductive RdV (K : PySem.W.Frag) (H : Hp) : V → PyData → Prop
  | non : RdV K H .non .none
  | bl (b : Bool) : RdV K H (.bl b) (.bool b)
  | int (i : Int) : RdV K H (.int i) (.int i)
  | str (x : Str) : RdV K H (.str x) (.str x)
  | lst {a : Addr} {xs : List V} {ds : List PyData} : SqL K H a xs → RdVs K H xs ds → RdV K H (.ref a) (.list ds)
  | tup {a : Addr} {xs : List V} {ds : List PyData} : SqT K H a xs → RdVs K H xs ds → RdV K H (.ref a) (.tuple ds)
inductive RdVs (K : PySem.W.Frag) (H : Hp) : List V → List PyData → Prop
  | nil : RdVs K H [] []
  | cons {v : V} {d : PyData} {vs : List V} {ds : List PyData} : RdV K H v d → RdVs K H vs ds → RdVs K H (v :: vs) (d :: ds)
end
section
variable {X : Cx} {pins : List (Addr × Obj)} {σ : St} {H : Hp} {s : Shared}
mutual
theorem RdV.reads (I : Inv X pins σ H s) : ∀ {v : V} {d : PyData}, RdV X.K H v d → ∀ {u : Value}, RelV v u → ∃ as, Reads s.heap u d as
  | _, _, .non, _, r => by cases r; exact ⟨_, .none⟩
  | _, _, .bl b, _, r => by cases r; exact ⟨_, .bool b⟩
  | _, _, .int i, _, r => by obtain ⟨t, rfl⟩ := r; exact ⟨_, .int i t⟩
  | _, _, .str x, _, r => by obtain ⟨t, rfl⟩ := r; exact ⟨_, .str x t⟩
  | _, _, .lst h q, _, r => by
    cases r
    obtain ⟨its, rv, ⟨o, n, e, c, _, d⟩, _⟩ := I.list h
    obtain ⟨as, z⟩ := RdVs.reads I q rv
    exact ⟨_, .list e c d (by simpa using z)⟩
  | _, _, .tup h q, _, r => by
    cases r
    obtain ⟨its, rv, ⟨o, e, c, n, d⟩, _⟩ := I.tuple h
    obtain ⟨as, z⟩ := RdVs.reads I q rv
    exact ⟨_, .tuple e c d (by simpa using z)⟩
theorem RdVs.reads (I : Inv X pins σ H s) : ∀ {vs : List V} {ds : List PyData}, RdVs X.K H vs ds → ∀ {us : List Value}, Vals vs us → ∃ as, ReadsAll s.heap us ds as
  | _, _, .nil, _, r => by cases r; exact ⟨_, .nil⟩
  | _, _, .cons h q, _, r => by
    cases r with
    | cons r1 r2 =>
      obtain ⟨as, z⟩ := RdV.reads I h r1
      obtain ⟨bs, y⟩ := RdVs.reads I q r2
      exact ⟨_, .cons z y⟩
end
end
section
variable {X : Cx}
def rEqD (K : PySem.W.Frag) : R2 := fun x y H Q => ∃ da db, RdV K H x da ∧ RdV K H y db ∧ SeqAt.shaped da = true ∧ SeqAt.shaped db = true ∧ Q (.bl (PyData.eqv da db)) H
def rNeD (K : PySem.W.Frag) : R2 := fun x y H Q => ∃ da db, RdV K H x da ∧ RdV K H y db ∧ SeqAt.shaped da = true ∧ SeqAt.shaped db = true ∧ Q (.bl (!PyData.eqv da db)) H
theorem op_eqD (hu : X.A.units + 64 < cLine) : OpR X (compareOp .Eq) (rEqD X.K) := by
  intro pins s σ H x y v u Q I rx ry h
  obtain ⟨da, db, ha, hb, sa, sb, q⟩ := h
  obtain ⟨as, za⟩ := ha.reads I rx
  obtain ⟨bs, zb⟩ := hb.reads I ry
  exact SeqAt.compareEq_shaped za zb sa sb hu ⟨.bl _, H, I, rfl, q⟩
theorem op_neD (hu : X.A.units + 64 < cLine) : OpR X (compareOp .NotEq) (rNeD X.K) := by
  intro pins s σ H x y v u Q I rx ry h
  obtain ⟨da, db, ha, hb, sa, sb, q⟩ := h
  obtain ⟨as, za⟩ := ha.reads I rx
  obtain ⟨bs, zb⟩ := hb.reads I ry
  exact SeqAt.compareNe_shaped za zb sa sb hu ⟨.bl _, H, I, rfl, q⟩
end
def TyN (H : Hp) (x : V) (T : String) : Prop := match x with
  | .non => T = "NoneType"
  | .bl _ => T = "bool"
  | .int _ => T = "int"
  | .str _ => T = "str"
  | .ref a => (T = "list" ∧ ∃ xs, H a = some (.lst xs)) ∨ (T = "tuple" ∧ ∃ xs, H a = some (.tup xs)) ∨ (T = "dict" ∧ ∃ kvs, H a = some (.dK kvs))
  | _ => False
def isT (c T : String) : Bool := T == c || (T == "bool" && c == "int")
section
variable {K : PySem.W.Frag}
theorem kit_nn (h : c = "int" ∨ c = "bool" ∨ c = "tuple" ∨ c = "list" ∨ c = "str") (g : T = "NoneType" ∨ T = "bool" ∨ T = "int" ∨ T = "str" ∨ T = "list" ∨ T = "tuple" ∨ T = "dict") :
    PySem.W.kitOne K (.type T) (.type c) = some (isT c T) := by
  rcases h with rfl | rfl | rfl | rfl | rfl <;> rcases g with rfl | rfl | rfl | rfl | rfl | rfl | rfl <;> kernel_rfl
theorem TyN.cases {H : Hp} {x : V} {T : String} (h : TyN H x T) : T = "NoneType" ∨ T = "bool" ∨ T = "int" ∨ T = "str" ∨ T = "list" ∨ T = "tuple" ∨ T = "dict" := by
  cases x with
  | non => exact .inl h
  | bl _ => exact .inr (.inl h)
  | int _ => exact .inr (.inr (.inl h))
  | str _ => exact .inr (.inr (.inr (.inl h)))
  | ref a =>
    rcases h with ⟨h, _⟩ | ⟨h, _⟩ | ⟨h, _⟩
    · exact .inr (.inr (.inr (.inr (.inl h))))
    · exact .inr (.inr (.inr (.inr (.inr (.inl h)))))
    · exact .inr (.inr (.inr (.inr (.inr (.inr h)))))
  | byt _ => exact False.elim h
  | flt _ => exact False.elim h
  | ty _ => exact False.elim h
theorem TyN.of {H : Hp} {x : V} {T : String} (h : TyN H x T) : TyOf K H x (.type T) := by
  cases x with
  | non => cases h; exact .non
  | bl b => cases h; exact .bl b
  | int i => cases h; exact .int i
  | str i => cases h; exact .str i
  | ref a =>
    rcases h with ⟨rfl, xs, h⟩ | ⟨rfl, xs, h⟩ | ⟨rfl, xs, h⟩
    · exact .lst h
    · exact .tup h
    · exact .dK h
  | byt _ => exact False.elim h
  | flt _ => exact False.elim h
  | ty _ => exact False.elim h
end
section
variable {X : Cx}
end
theorem sz {n : Nat} (h : n ≤ 1000 := by decide) : n ≤ sizeLine := Nat.le_of_lt (small1000 h)
end My
namespace My
open PySem PySem.Spec PyProof.Rows L2
section
variable {X : Cx} {a b c d : Expr} {ta tb tc td : TE} {pos : Pos}
end
structure Blt (mg : Str → Option Value) : Prop where
  len_ : mg "len" = none
  range_ : mg "range" = none
  abs_ : mg "abs" = none
  isinstance_ : mg "isinstance" = none
  int_ : mg "int" = none
  bool_ : mg "bool" = none
  tuple_ : mg "tuple" = none
  max_ : mg "max" = none
  min_ : mg "min" = none
end My
namespace My
open PySem PySem.Spec PyProof.Rows L2
abbrev cx (P : Program) (w : World) (K : PySem.W.Frag) (mg : Str → Option Value) (base : Heap) (N : List Str) (x : Str) (st : Stmt) (f : Addr) (cdv : Value) (A : Around) (outer : List Env) (s : Shared) (H : Hp) (E : XK) : Cx :=
  (cxOf CX0 P w K mg base N x (defScope st) f cdv A outer s H E).nox
end My
namespace My
open PySem PySem.Spec PyProof.Rows L2
def clGo (env : Env) : List (Str × NameKind) → List (Str × Addr) → List (Str × Addr)
  | [], cs => cs
  | (n, k) :: r, cs => if (k == NameKind.free) = true then clGo env r ((n, (env.cells.lookup n).getD 0) :: cs) else clGo env r cs
theorem closure_go {env : Env} : ∀ (l : List (Str × NameKind)) (cs : List (Str × Addr)), (∀ x ∈ l, x.2 = .free → ∃ c, env.cells.lookup x.1 = some c) →
    (forIn l cs fun (x : Str × NameKind) (r : List (Str × Addr)) => (if (x.2 == NameKind.free) = true then (do let c ← cellOf env x.1; pure (ForInStep.yield ((x.1, c) :: r))) else pure (ForInStep.yield r) : Sem (ForInStep (List (Str × Addr))))) = pure (clGo env l cs)
  | [], _, _ => rfl
  | (n, k) :: r, cs, h => by
    rw [List.forIn_cons]
    by_cases hk : (k == NameKind.free) = true
    · obtain ⟨c, hc⟩ := h (n, k) List.mem_cons_self (beq_iff_eq.mp hk)
      have hc' : cellOf env n = pure c := by
        unfold cellOf
        rw [show env.cells.lookup n = some c from hc]
      show (do let x ← (if (k == NameKind.free) = true then (do let c ← cellOf env n; pure (ForInStep.yield ((n, c) :: cs))) else pure (ForInStep.yield cs) : Sem (ForInStep (List (Str × Addr)))); _) = _
      rw [if_pos hk, hc']
      have ih := closure_go r ((n, c) :: cs) fun x hx => h x (List.mem_cons_of_mem _ hx)
      rw [clGo, if_pos hk, show env.cells.lookup n = some c from hc]
      exact ih
    · show (do let x ← (if (k == NameKind.free) = true then (do let c ← cellOf env n; pure (ForInStep.yield ((n, c) :: cs))) else pure (ForInStep.yield cs) : Sem (ForInStep (List (Str × Addr)))); _) = _
      rw [if_neg hk]
      have ih := closure_go r cs fun x hx => h x (List.mem_cons_of_mem _ hx)
      rw [clGo, if_neg hk]
      exact ih
theorem closure_eq {env : Env} {scope : Scope} (h : ∀ x ∈ scope.names, x.2 = .free → ∃ c, env.cells.lookup x.1 = some c) : closureFor scope env = pure (clGo env scope.names []) := by
  have z := closure_go (env := env) scope.names [] h
  show (forIn scope.names [] fun (x : Str × NameKind) (r : List (Str × Addr)) => (if (x.2 == NameKind.free) = true then (do let c ← cellOf env x.1; pure (ForInStep.yield ((x.1, c) :: r))) else pure (ForInStep.yield r) : Sem (ForInStep (List (Str × Addr))))) >>= (fun cs => pure cs) = _
  rw [z]
  rfl
theorem clGo_sub {env : Env} : ∀ (l : List (Str × NameKind)) (cs : List (Str × Addr)), (∀ x ∈ l, x.2 = .free → ∃ c, env.cells.lookup x.1 = some c) → (∀ x c, cs.lookup x = some c → env.cells.lookup x = some c) →
    ∀ x c, (clGo env l cs).lookup x = some c → env.cells.lookup x = some c
  | [], _, _, hc, x, c, e => hc x c e
  | (n, k) :: r, cs, h, hc, x, c, e => by
    rw [clGo] at e
    by_cases hk : (k == NameKind.free) = true
    · rw [if_pos hk] at e
      obtain ⟨d, hd⟩ := h (n, k) List.mem_cons_self (beq_iff_eq.mp hk)
      refine clGo_sub r _ (fun x hx => h x (List.mem_cons_of_mem _ hx)) (fun y c' e' => ?_) x c e
      rw [List.lookup_cons] at e'
      cases hy : y == n with
      | true =>
        rw [hy] at e'
        have : y = n := beq_iff_eq.mp hy
        subst this
        rw [show env.cells.lookup y = some d from hd] at e' ⊢
        exact e'
      | false =>
        rw [hy] at e'
        exact hc y c' e'
    · rw [if_neg hk] at e
      exact clGo_sub r cs (fun x hx => h x (List.mem_cons_of_mem _ hx)) hc x c e
theorem clGo_has {env : Env} : ∀ (l : List (Str × NameKind)) (cs : List (Str × Addr)) (x : Str), ((x, NameKind.free) ∈ l ∨ ∃ c, cs.lookup x = some c) → ∃ c, (clGo env l cs).lookup x = some c
  | [], _, x, h => by
    rcases h with h | h
    · exact absurd h (by simp)
    · exact h
  | (n, k) :: r, cs, x, h => by
    rw [clGo]
    by_cases hk : (k == NameKind.free) = true
    · rw [if_pos hk]
      refine clGo_has r _ x ?_
      by_cases e : x = n
      · subst e
        exact .inr ⟨_, by rw [List.lookup_cons, beq_self_eq_true]⟩
      · rcases h with h | ⟨c, h⟩
        · rcases List.mem_cons.mp h with h | h
          · exact absurd (congrArg Prod.fst h) e
          · exact .inl h
        · exact .inr ⟨c, by rw [List.lookup_cons, beq_eq_false_iff_ne.mpr e]; exact h⟩
    · rw [if_neg hk]
      refine clGo_has r cs x ?_
      rcases h with h | h
      · rcases List.mem_cons.mp h with h | h
        · have : k = .free := (congrArg Prod.snd h).symm
          subst this
          exact absurd rfl hk
        · exact .inl h
      · exact .inr h
abbrev blk (X : Cx) (N' : List Str) (scope : Scope) (cl : List (Str × Addr)) (C : Addr) (s3 : Shared) (H3 : Hp) (fp : List Addr) : Cx :=
  { X with N := N', s₀ := s3, H₀ := H3, env := compEnvC scope cl C X.env, outer := X.stack, ex := fp, fn := fun _ => false, xe := fun _ _ => False }
def capB (N : List Str) (kinds sn : List (Str × NameKind)) : List Str → List Nat → Bool
  | [], [] => true
  | x :: V, j :: ix => (N[j]? == some x) && ((kinds.lookup x == some NameKind.cell) && ((sn.lookup x == some NameKind.free) && capB N kinds sn V ix))
  | _, _ => false
def capσ (t : Nat) (ix : List Nat) (σ : St) : St := List.replicate t none ++ ix.map fun j => (σ[j]?).getD none
theorem capB_get {N : List Str} {kinds sn : List (Str × NameKind)} : ∀ {V : List Str} {ix : List Nat}, capB N kinds sn V ix = true → ix.length = V.length ∧ ∀ (k : Nat) (x : Str), V[k]? = some x → ∃ j, ix[k]? = some j ∧ N[j]? = some x ∧ kinds.lookup x = some .cell ∧ sn.lookup x = some .free
  | [], [], _ => ⟨rfl, fun k x h => by simp at h⟩
  | x :: V, j :: ix, h => by
    rw [capB, Bool.and_eq_true, Bool.and_eq_true, Bool.and_eq_true] at h
    obtain ⟨h1, h2, h3, h4⟩ := h
    obtain ⟨l, r⟩ := capB_get h4
    refine ⟨by simp [l], fun k y hy => ?_⟩
    cases k with
    | zero =>
      simp at hy
      subst hy
      exact ⟨j, rfl, beq_iff_eq.mp h1, beq_iff_eq.mp h2, beq_iff_eq.mp h3⟩
    | succ k => exact r k y (by simpa using hy)
  | [], _ :: _, h => by simp [capB] at h
  | _ :: _, [], h => by simp [capB] at h
theorem relabel_cell {env : Env} (hf : env.scope.kind = .function) : ∀ {names : List (Str × NameKind)} {x : Str}, names.lookup x = some .free → env.kindOf x = some .cell →
    (names.map fun (n, k) => if (k == NameKind.free && env.scope.kind == .function && env.kindOf n == some .cell) then (n, NameKind.cell) else (n, k)).lookup x = some .cell
  | [], _, h, _ => by simp at h
  | (n, k) :: r, x, h, hc => by
    have ih := @relabel_cell env hf r x
    show List.lookup x ((if (k == NameKind.free && env.scope.kind == .function && env.kindOf n == some .cell) = true then (n, NameKind.cell) else (n, k)) :: _) = _
    cases hx : x == n with
    | true =>
      have e : x = n := beq_iff_eq.mp hx
      subst e
      simp only [List.lookup_cons, hx] at h
      cases h
      rw [if_pos (by rw [hf, hc]; rfl)]
      simp [List.lookup_cons]
    | false =>
      simp only [List.lookup_cons, hx] at h
      by_cases hq : (k == NameKind.free && env.scope.kind == .function && env.kindOf n == some .cell) = true
      · rw [if_pos hq]; simp only [List.lookup_cons, hx]; exact ih h hc
      · rw [if_neg hq]; simp only [List.lookup_cons, hx]; exact ih h hc
theorem relabel_back {env : Env} : ∀ {names : List (Str × NameKind)} {x : Str} {k : NameKind}, (∀ y ∈ names, y.2 ≠ .cell) → (k = .cell ∨ k = .free) →
    (names.map fun (n, k) => if (k == NameKind.free && env.scope.kind == .function && env.kindOf n == some .cell) then (n, NameKind.cell) else (n, k)).lookup x = some k → (x, NameKind.free) ∈ names
  | [], _, _, _, _, h => by simp at h
  | (n, k') :: r, x, k, hc, hk, h => by
    have ih := @relabel_back env r x k (fun y hy => hc y (List.mem_cons_of_mem _ hy)) hk
    have h' : List.lookup x ((if (k' == NameKind.free && env.scope.kind == .function && env.kindOf n == some .cell) = true then (n, NameKind.cell) else (n, k')) :: (r.map fun (n, k) => if (k == NameKind.free && env.scope.kind == .function && env.kindOf n == some .cell) then (n, NameKind.cell) else (n, k))) = some k := h
    by_cases hq : (k' == NameKind.free && env.scope.kind == .function && env.kindOf n == some .cell) = true
    · rw [if_pos hq] at h'
      have kf : k' = .free := by
        rw [Bool.and_eq_true, Bool.and_eq_true] at hq
        exact beq_iff_eq.mp hq.1.1
      cases hx : x == n with
      | true =>
        have e : x = n := beq_iff_eq.mp hx
        subst e
        subst kf
        exact List.mem_cons_self
      | false =>
        simp only [List.lookup_cons, hx] at h'
        exact List.mem_cons_of_mem _ (ih h')
    · rw [if_neg hq] at h'
      cases hx : x == n with
      | true =>
        have e : x = n := beq_iff_eq.mp hx
        subst e
        simp only [List.lookup_cons, hx] at h'
        cases h'
        rcases hk with hk | hk
        · exact absurd hk (hc _ List.mem_cons_self)
        · subst hk
          exact List.mem_cons_self
      | false =>
        simp only [List.lookup_cons, hx] at h'
        exact List.mem_cons_of_mem _ (ih h')
section
variable {X : Cx} {pins : List (Addr × Obj)} {σ : St} {H : Hp} {s : Shared}
theorem Inv.forget {σ' : St} (I : Inv X pins σ H s) (hl : σ'.length = X.N.length) (h : ∀ (i : Nat) (v : V), σ'[i]? = some (some v) → σ[i]? = some (some v)) : Inv X pins σ' H s := by
  obtain ⟨m, hn, hx⟩ := I.loc
  exact ⟨I.ok, I.os, I.bare, I.base, ⟨m, hn, fun i x v e1 e2 e3 => hx i x v e1 (h i v e2) e3⟩, I.cell, I.free, I.freeC, I.pin, I.hok, hl⟩
end
end My
namespace My
open PySem PySem.Spec PyProof.Rows L2
theorem compLoop_go {prog : Program} {w : World} {A : Around} {R : Result → Shared → Prop} {elt target iter : Expr} {ifs : List Expr} {scope : Scope} {pos : Pos} {it acc : Value} {env : Env} {s : Shared} (I : Nat → Shared → Prop)
    (turn : ∀ n s, I n s → wpAny (model prog w) A (pyNext it) (fun r s₁ => match r with
      | none => R (.ok .next) s₁
      | some v => wpAny (model prog w) A (letOwnedTupleGo target it v) (fun _ s₁' => wpAny (model prog w) A (assign target env v) (fun _ s₂ =>
          wpAny (model prog w) A (forIn ifs true fun c r => if r = true then do let ok ← isTrue c env (eval c env); pure (ForInStep.yield ok) else pure (ForInStep.yield r)) (fun ok s₃ =>
            if ok = true then wpAny (model prog w) A (eval elt env) (fun x s₄ =>
              wpAny (model prog w) A (call (.builtin "list.append") [acc, x]) (fun _ s₅ => ∃ m, m < n ∧ I m s₅) (fun _ _ => False) s₄) (fun _ _ => False) s₃
            else ∃ m, m < n ∧ I m s₃) (fun _ _ => False) s₂) (fun _ _ => False) s₁') (fun _ _ => False) s₁) (fun _ _ => False) s)
    (n : Nat) (h : I n s) :
    codeAny (model prog w) A (.compLoop (.ListComp elt [⟨target, iter, ifs, 0⟩] scope pos) 0 it acc env) R s := by
  refine codeAny_loop rfl I (fun n s hI => ?_) n h
  show wpAny _ A ((compTurn (.ListComp elt [⟨target, iter, ifs, 0⟩] scope pos) 0 it acc env).onRaise (fun x => do noteFrame x env; theTreesLotGoes x)) _ _ s
  refine wpAny_noted ?_
  rw [compTurn_list]
  refine wpAny_bind (wpAny_standAt (wpAny_bind (wpAny_mono (turn n s hI) (fun r s₁ h₁ => ?_) fun _ _ h' => h'.elim)))
  cases r with
  | none => exact wpAny_pure h₁
  | some v =>
    refine wpAny_bind (wpAny_mono h₁ (fun _ s₁' h₁' => ?_) fun _ _ h' => h'.elim)
    refine wpAny_bind (wpAny_mono h₁' (fun _ s₂ h₂ => wpAny_bind (wpAny_mono h₂ (fun ok s₃ h₃ => ?_) fun _ _ h' => h'.elim)) fun _ _ h' => h'.elim)
    cases ok with
    | false => exact wpAny_pure ⟨rfl, h₃⟩
    | true =>
      exact wpAny_bind (wpAny_bind (wpAny_mono h₃ (fun x s₄ h₄ => wpAny_bind (wpAny_mono h₄ (fun _ s₅ h₅ => wpAny_pure (wpAny_pure ⟨rfl, h₅⟩)) fun _ _ h' => h'.elim)) fun _ _ h' => h'.elim))
section
variable {X : Cx} {pins : List (Addr × Obj)} {σ : St} {H : Hp}
theorem inv_block {T V : List Str} {ix : List Nat} {scope : Scope} {s3 : Shared} {fp : List Addr} {h₁ : Heap} {tk : Nat} {m : Str → Option Value}
    (I : Inv X pins σ H s3) (hf : ∀ b ∈ fp, FpOk X pins H b) (ho : ∀ b ∈ fp, ∃ o, s3.heap.get? b = some o)
    (hk : scope.kind = .function) (hcell : ∀ y ∈ scope.names, y.2 ≠ .cell) (hfr : ∀ x ∈ scope.names, x.2 = .free → x.1 ∈ V) (hB : capB X.N X.env.scope.names scope.names V ix = true)
    (hns : h₁.Ns s3.heap.objs.size m) (keep : ∀ b o, s3.heap.get? b = some o → h₁.get? b = some o) :
    Inv (blk X (T ++ V) scope (clGo X.env scope.names []) s3.heap.objs.size s3 H fp) pins (capσ T.length ix σ) H { s3 with heap := h₁, toks := tk } := by
  obtain ⟨lV, capV⟩ := capB_get hB
  have hcl : ∀ x ∈ scope.names, x.2 = .free → ∃ c, X.env.cells.lookup x.1 = some c := fun x hx e => by
    obtain ⟨k, ek⟩ := List.getElem?_of_mem (hfr x hx e)
    obtain ⟨j, _, _, hc, _⟩ := capV k _ ek
    exact I.ok.has _ (.inl hc)
  have sub := clGo_sub (env := X.env) scope.names [] hcl (fun x c e => by simp at e)
  have stkSub : ∀ b, b ∈ frs X.stack → b = X.env.locals ∨ b ∈ X.fs := fun b z => List.mem_cons.mp (I.stkSub b z)
  have lt : ∀ b o, s3.heap.get? b = some o → b ≠ s3.heap.objs.size := fun b o e => Nat.ne_of_lt (Heap.lt_size e)
  have cellK : ∀ c v, s3.heap.IsCell c v → h₁.IsCell c v := fun c v ⟨o, e, d⟩ => ⟨o, keep c o e, d⟩
  refine ⟨⟨I.ok.mod, hk, I.ok.glob, I.ok.blt, Nat.le_refl _, fun x y c e1 e2 => I.ok.inj x y c (sub x c e1) (sub y c e2), fun x hx => ?_, fun x c hx => ?_, I.ok.hd, I.ok.frames, .inl rfl, fun b hb => ⟨?_, fun x c e => ?_⟩, I.bs, Nat.le_trans I.ok.bsz I.sz, fun b o e hb => ?_, fun b hb z => ?_, I.stack, I.stkFree⟩,
    rfl, I.bare, Un.kept keep, ⟨m, hns, fun i x v e1 e2 e3 => ?_⟩, fun x c e => ?_, I.hok.fresh (Nat.le_refl _), fun x c e => I.freeC x c (sub x c e), fun p hp => ?_, I.hok.kept keep, ?_⟩
  · rcases hx with hx | hx
    · exact clGo_has _ _ x (.inl (relabel_back hcell (.inl rfl) hx))
    · exact clGo_has _ _ x (.inl (relabel_back hcell (.inr rfl) hx))
  · exact absurd hx (by simp)
  · obtain ⟨o, e⟩ := ho b hb
    exact lt b o e
  · exact (hf b hb).2.2.2.2.1 x c (sub x c e)
  · rcases (hf b hb).2.2.2.1 with z | z
    · exact I.ok.noex b o e z
    · exact absurd (Nat.lt_of_lt_of_le (Heap.lt_size e) (Nat.le_trans I.ok.bsz z)) (Nat.lt_irrefl _)
  · rcases stkSub b z with z | z
    · exact (hf b hb).2.1 z
    · exact (hf b hb).2.2.1 z
  · by_cases hi : i < T.length
    · have e2' : (List.replicate T.length none ++ ix.map fun j => (σ[j]?).getD none)[i]? = some (some v) := e2
      rw [List.getElem?_append_left (by rw [List.length_replicate]; exact hi), List.getElem?_replicate, if_pos hi] at e2'
      exact absurd e2' (by simp)
    · have e1' : (T ++ V)[i]? = some x := e1
      rw [List.getElem?_append_right (by omega)] at e1'
      obtain ⟨j, hj, hN, hc, hfree⟩ := capV _ x e1'
      have e2' : (List.replicate T.length none ++ ix.map fun j => (σ[j]?).getD none)[i]? = some (some v) := e2
      rw [List.getElem?_append_right (by rw [List.length_replicate]; omega), List.length_replicate, List.getElem?_map, hj] at e2'
      have e2'' : (σ[j]?).getD none = some v := by simpa using e2'
      have e3' : σ[j]? = some (some v) := by
        cases q : σ[j]? with
        | none => rw [q] at e2''; exact absurd e2'' (by simp)
        | some o => rw [q] at e2''; simp at e2''; rw [e2'']
      obtain ⟨m0, hn0, hl⟩ := I.loc
      obtain ⟨u, r, l⟩ := hl j x v hN e3' (.inr (.inl hc))
      rcases l with ⟨z, _⟩ | ⟨_, c, ec, hcell'⟩
      · have z' : X.env.scope.names.lookup x = some .local := z
        rw [hc] at z'
        exact absurd z' (by simp)
      · obtain ⟨c', ec'⟩ := clGo_has (env := X.env) scope.names [] x (.inl (PySem.mem_of_lookup hfree))
        have : c' = c := by
          have q := sub x c' ec'
          rw [ec] at q
          exact (Option.some.inj q).symm
        subst this
        exact ⟨u, r, .inr ⟨.inl (relabel_cell I.ok.kind hfree hc), c', ec', cellK _ _ hcell'⟩⟩
  · obtain ⟨v, z⟩ := I.cell x c (sub x c e)
    exact ⟨v, cellK c v z⟩
  · obtain ⟨e, n, ne, nf, d⟩ := I.pin p hp
    refine ⟨keep _ _ e, n, lt _ _ e, fun z => ?_, d⟩
    rcases stkSub p.1 z with z | z
    · exact ne z
    · exact nf z
  · show (List.replicate T.length none ++ ix.map fun j => (σ[j]?).getD none).length = (T ++ V).length
    rw [List.length_append, List.length_replicate, List.length_map, List.length_append, lV]
theorem inv_back {N' : List Str} {scope : Scope} {cl : List (Str × Addr)} {pins' : List (Addr × Obj)} {σ' : St} {H3 H' : Hp} {s3 s' : Shared} {fp : List Addr} (I3 : Inv X pins σ H3 s3) (hf : ∀ b ∈ fp, FpOk X pins H3 b)
    (I' : Inv (blk X N' scope cl s3.heap.objs.size s3 H3 fp) pins' σ' H' s') : Inv X pins σ H' s' ∧ FpOk X pins H' s3.heap.objs.size := by
  have fr : H' s3.heap.objs.size = none := I'.free
  refine ⟨?_, I3.fpOk (Nat.le_refl _) fr⟩
  have os : s'.os = s3.os := I'.os
  have u : Un (frs X.stack) fp H3 H' s3.heap s'.heap := I'.base
  have ho := I'.hok
  have hb := I'.bare
  obtain ⟨hh, g, d, t, os'⟩ := s'
  obtain rfl : os' = s3.os := os
  exact I3.call (h' := hh) (g' := g) (d' := d) (t' := t) (ch := fp) u ho hb fun b hb' => ⟨(hf b hb').2.2.2.1, (hf b hb').2.1, (hf b hb').2.2.2.2.1, (hf b hb').2.2.2.2.2⟩
end
def PTs (X : Cx) (ifs : List Expr) (t : TT) : Prop :=
  ∀ (pins : List (Addr × Obj)) (s : Shared) (σ : St) (H : Hp) (Q : Bool → Hp → Prop), Inv X pins σ H s → t σ H Q →
    wpAny (model X.prog X.w) X.A (forIn ifs true fun c r => if r = true then do let ok ← isTrue c X.env (eval c X.env); pure (ForInStep.yield ok) else pure (ForInStep.yield r)) (TP X pins σ Q) X.xe s
def tYes : TT := fun _ H Q => Q true H
theorem pts_nil {X : Cx} : PTs X [] tYes := fun _ _ _ H _ I h => wpAny_tests_nil ⟨H, I, h⟩
theorem pts_one {X : Cx} {c : Expr} {t : TT} (h : PT X c t) : PTs X [c] t := fun pins s σ H Q I q => wpAny_tests_one (h pins s σ H Q I q)
def tComp (wi : TI) (g : TG) (tt : TT) (te : TE) (t : Nat) (cap : St → St) : TE := fun σ H Q => wi σ H fun J H1 => ∀ D, H1 D = none → ∃ W : Nat → Nat → List V → Hp → Prop, (∃ m, W 0 m [] (upd H1 D (.lst []))) ∧
  ∀ i m xs H2, W i m xs H2 → H2 D = some (.lst xs) ∧ ((J.stop i H2 ∧ Q (.ref D) H2) ∨ (J.go i H2 ∧ xs.length < sizeLine ∧ ∀ x H3, J.yld i H2 x H3 → g x (cap σ) H3 fun σ4 H4 => σ4.drop t = (cap σ).drop t ∧
    tt σ4 H4 fun b H5 => if b = true then te σ4 H5 fun v H6 => H6 D = some (.lst xs) ∧ ∃ m', m' < m ∧ W (i + 1) m' (xs ++ [v]) (upd H6 D (.lst (xs ++ [v]))) else ∃ m', m' < m ∧ W (i + 1) m' xs H5))
section
variable {X : Cx} {elt tg iter : Expr} {ifs : List Expr} {scope : Scope} {pos : Pos} {T V : List Str} {ix : List Nat} {wi : TI} {g : TG} {tt : TT} {te : TE}
theorem comp_core (hc : X.calm = true) (hi : PI X tg iter wi)
    (hg : ∀ cl C s3 H3 fp, PG (blk X (T ++ V) scope cl C s3 H3 fp) tg g) (ht : ∀ cl C s3 H3 fp, PTs (blk X (T ++ V) scope cl C s3 H3 fp) ifs tt) (he : ∀ cl C s3 H3 fp, PE (blk X (T ++ V) scope cl C s3 H3 fp) elt te)
    (hB : capB X.N X.env.scope.names scope.names V ix = true) (hk : scope.kind = .function) (hcell : ∀ y ∈ scope.names, y.2 ≠ .cell) (hnames : ∀ x ∈ scope.names, x.2 = .local → scope.names.lookup x.1 = some .local)
    (hfr : ∀ x ∈ scope.names, x.2 = .free → x.1 ∈ V) (hs : ∀ x, foldedSetIterable iter X.env x = pure x) {p : Pos}
    {pins : List (Addr × Obj)} {s : Shared} {σ : St} {H : Hp} (I : Inv X pins σ H s) {use : Option (Value → Sem Unit)} {Qp : Value → Shared → Prop} {Qv : VK} (h : tComp wi g tt te T.length (capσ T.length ix) σ H Qv)
    (fin : ∀ (D C : Addr) (H' : Hp) (s' : Shared) (m : Str → Option Value), Inv X pins σ H' s' → FpOk X pins H' C → s'.heap.Ns C m → Qv (.ref D) H' → compPost (model X.prog X.w) X.A X.xe use Qp (.ref D) C (.ok .next) s') :
    wpAny (model X.prog X.w) X.A (comprehension (.ListComp elt [⟨tg, iter, ifs, 0⟩] scope pos) scope X.env p (newList []) false (eval iter X.env) use) Qp X.xe s := by
  obtain ⟨lV, capV⟩ := capB_get hB
  have hcl : ∀ x ∈ scope.names, x.2 = .free → ∃ c, X.env.cells.lookup x.1 = some c := fun x hx e => by
    obtain ⟨k, ek⟩ := List.getElem?_of_mem (hfr x hx e)
    obtain ⟨j, _, _, hc', _⟩ := capV k _ ek
    exact I.ok.has _ (.inl hc')
  refine wpAny_comprehension_free rfl hs (closure_eq hcl) hk hnames ?_
  refine thn (hi pins s σ H _ I h) fun v s1 h1 => thn h1 fun itv s2 h2 => ?_
  obtain ⟨it, fp, tn, J, H2, e, I2, Tn, st2, f2, R⟩ := h2
  subst e
  refine wpAny_newObj_type (hd := by size_fits) ?_
  have hD : H2 s2.heap.objs.size = none := I2.hok.fresh (Nat.le_refl _)
  have I3 : Inv X pins σ (upd H2 s2.heap.objs.size (.lst [])) { s2 with heap := s2.heap.push { cls := .type "list", dict := none, data := .seq ([] : List Value).toArray } } :=
    I2.laid (t' := s2.toks) (fun b o e => Heap.get?_push_of_some _ e) (Nat.le_refl _) ⟨Nat.zero_le _, [], 0, .nil, Heap.get?_push_size _ rfl⟩
  obtain ⟨W, ⟨m0, w0⟩, turn⟩ := R s2.heap.objs.size hD
  generalize hs3 : ({ s2 with heap := s2.heap.push { cls := .type "list", dict := none, data := .seq ([] : List Value).toArray } } : Shared) = s3 at I3 ⊢
  have st3 : tn 0 s3.heap := by
    rw [← hs3]
    exact Tn.keep 0 s2.heap _ st2 fun b hb o e => Heap.get?_push_of_some _ e
  have f3 : ∀ b ∈ fp, FpOk X pins (upd H2 s2.heap.objs.size (.lst [])) b := fun b hb => by
    obtain ⟨z0, z1⟩ := f2 b hb
    refine ⟨?_, z1⟩
    obtain ⟨o, eo, _⟩ := Tn.obj 0 _ st2 b hb
    rw [upd_ne (Nat.ne_of_lt (Heap.lt_size eo))]
    exact z0
  generalize hH3 : upd H2 s2.heap.objs.size (.lst []) = H3 at I3 f3 w0
  generalize hDn : s2.heap.objs.size = D at turn
  refine wpAny_newFunctionEnv hcell (by intro y hy; simp at hy) (fun h₁ hns₁ hsb₁ => ?_) hk
  have keep : ∀ b o, s3.heap.get? b = some o → h₁.get? b = some o := fun b o e => hsb₁.extBut b o (Nat.ne_of_lt (Heap.lt_size e)) (Heap.get?_push_of_some _ e)
  have I4 := inv_block (T := T) (tk := s3.toks + ([] : List (Str × Value)).length) I3 f3 (fun b hb => let ⟨o, eo, _⟩ := Tn.obj 0 _ st3 b hb; ⟨o, eo⟩) hk hcell hfr hB hns₁ keep
  have st4 : tn 0 h₁ := Tn.keep 0 _ _ st3 fun b hb o e => keep b o e
  have loop : codeAny (model X.prog X.w) X.A (.compLoop (.ListComp elt [⟨tg, iter, ifs, 0⟩] scope pos) 0 (.ref it) (.ref D) (compEnvC scope (clGo X.env scope.names []) s3.heap.objs.size X.env))
      (compPost (model X.prog X.w) X.A X.xe use Qp (.ref D) s3.heap.objs.size) { s3 with heap := h₁, toks := s3.toks + ([] : List (Str × Value)).length } := by
    refine compLoop_go (fun n s' => ∃ i xs H', Inv (blk X (T ++ V) scope (clGo X.env scope.names []) s3.heap.objs.size s3 H3 fp) pins (capσ T.length ix σ) H' s' ∧ tn i s'.heap ∧ (∀ b ∈ fp, H' b = none) ∧ W i n xs H') ?_ m0
      ⟨0, [], H3, I4, st4, fun b hb => (f3 b hb).1, w0⟩
    rintro n s5 ⟨i, xs, H5, I5, st5, fr5, w5⟩
    have stat : ∀ {H' : Hp} {pins' : List (Addr × Obj)} {σ' : St} {s' : Shared}, Inv (blk X (T ++ V) scope (clGo X.env scope.names []) s3.heap.objs.size s3 H3 fp) pins σ' H' s' → (∀ b ∈ fp, H' b = none) → ∀ b ∈ fp, FpOk (blk X (T ++ V) scope (clGo X.env scope.names []) s3.heap.objs.size s3 H3 fp) pins H' b := fun I' hn b hb => by
      obtain ⟨x1, x2⟩ := I'.ok.exf b hb
      refine ⟨hn b hb, x1, I'.ok.exfs b hb, .inl hb, x2, fun q hq => ?_⟩
      exact (f3 b hb).2.2.2.2.2 q hq
    obtain ⟨hD5, r5⟩ := turn i n xs H5 w5
    rcases r5 with ⟨stop, q⟩ | ⟨go, hz, step⟩
    · refine thn (Tn.done (blk X (T ++ V) scope (clGo X.env scope.names []) s3.heap.objs.size s3 H3 fp) rfl rfl rfl hc i pins s5 _ H5 _ I5 (stat (pins' := pins) I5 fr5) st5 stop) fun r s6 ⟨hr, I6⟩ => ?_
      subst hr
      obtain ⟨Ib, fC⟩ := inv_back I3 f3 I6
      obtain ⟨m, hn, _⟩ := I6.loc
      exact fin D _ H5 s6 m Ib fC hn q
    · refine thn (Tn.item (blk X (T ++ V) scope (clGo X.env scope.names []) s3.heap.objs.size s3 H3 fp) rfl rfl rfl hc i pins s5 _ H5 _ I5 (stat (pins' := pins) I5 fr5) st5 go) fun r s6 ⟨u, hr, h6⟩ => ?_
      subst hr
      refine thn h6 fun _ s7 ⟨x, H7, I7, rx, y7, st7, fr7⟩ => ?_
      have I7' := I7.pinned (stat (pins' := pins) I7 fr7) (Tn.obj _ _ st7)
      refine thn (hg _ _ _ _ _ _ s7 _ H7 x u _ I7' rx (step x H7 y7)) fun _ s8 ⟨σ8, H8, I8, k8, q8⟩ => ?_
      have again : ∀ {H9 : Hp} {s9 : Shared}, Inv (blk X (T ++ V) scope (clGo X.env scope.names []) s3.heap.objs.size s3 H3 fp) (pins ++ pinsAt fp s7.heap) σ8 H9 s9 →
          Inv (blk X (T ++ V) scope (clGo X.env scope.names []) s3.heap.objs.size s3 H3 fp) pins (capσ T.length ix σ) H9 s9 ∧ tn (i + 1) s9.heap ∧ ∀ b ∈ fp, H9 b = none := fun {H9 s9} I9 => by
        refine ⟨Inv.forget I9.unpinned I4.len fun j v e => ?_, Tn.keep _ _ _ st7 fun b hb o e => (I9.pin (b, o) (List.mem_append_right _ (List.mem_append_right _ (mem_pinsAt hb e)))).1, fun b hb => ?_⟩
        · by_cases hj : j < T.length
          · have e' : (List.replicate T.length none ++ ix.map fun j => (σ[j]?).getD none)[j]? = some (some v) := e
            rw [List.getElem?_append_left (by rw [List.length_replicate]; exact hj), List.getElem?_replicate, if_pos hj] at e'
            exact absurd e' (by simp)
          · have ej : j = T.length + (j - T.length) := by omega
            rw [ej, ← List.getElem?_drop] at e ⊢
            rw [k8]
            exact e
        · obtain ⟨o, e, d⟩ := Tn.obj _ _ st7 b hb
          exact (I9.pin (b, o) (List.mem_append_right _ (List.mem_append_right _ (mem_pinsAt hb e)))).2.1
      refine thn (ht _ _ _ _ _ _ s8 σ8 H8 _ I8 q8) fun ok s9 ⟨H9, I9, q9⟩ => ?_
      cases ok with
      | false =>
        obtain ⟨m', lm, w9⟩ := q9
        obtain ⟨a1, a2, a3⟩ := again I9
        exact ⟨m', lm, i + 1, xs, H9, a1, a2, a3, w9⟩
      | true =>
        refine thn (he _ _ _ _ _ _ s9 σ8 H9 _ I9 q9) fun y s10 ⟨v, H10, I10, ry, hD10, m', lm, w10⟩ => ?_
        refine thn (mt_append _ s10 σ8 H10 (.ref D) [v] (.ref D) [y] (fun _ Hn => Hn = upd H10 D (.lst (xs ++ [v]))) I10 rfl (.cons ry .nil) ⟨D, xs, v, rfl, rfl, hD10, hz, rfl⟩) fun _ s11 ⟨_, H11, I11, _, e11⟩ => ?_
        subst e11
        obtain ⟨a1, a2, a3⟩ := again I11
        exact ⟨m', lm, i + 1, _, _, a1, a2, a3, w10⟩
  exact codeAny_compStart_list loop (Tn.self _ 0 _ _ _ st4 loop)
theorem pe_comp (hc : X.calm = true) (T V : List Str) (ix : List Nat) (hi : PI X tg iter wi)
    (hg : ∀ cl C s3 H3 fp, PG (blk X (T ++ V) scope cl C s3 H3 fp) tg g) (ht : ∀ cl C s3 H3 fp, PTs (blk X (T ++ V) scope cl C s3 H3 fp) ifs tt) (he : ∀ cl C s3 H3 fp, PE (blk X (T ++ V) scope cl C s3 H3 fp) elt te)
    (hB : capB X.N X.env.scope.names scope.names V ix = true := by rfl) (hk : scope.kind = .function := by rfl) (hcell : ∀ y ∈ scope.names, y.2 ≠ .cell := by decide +kernel)
    (hnames : ∀ x ∈ scope.names, x.2 = .local → scope.names.lookup x.1 = some .local := by decide +kernel)
    (hfr : ∀ x ∈ scope.names, x.2 = .free → x.1 ∈ V := by decide +kernel) (hs : ∀ x, foldedSetIterable iter X.env x = pure x := by intro _; rfl) :
    PE X (.ListComp elt [⟨tg, iter, ifs, 0⟩] scope pos) (tComp wi g tt te T.length (capσ T.length ix)) := by
  intro pins s σ H Q I h
  rw [eval_ListComp]
  refine comp_core (use := none) hc hi hg ht he hB hk hcell hnames hfr hs I h fun D C H' s' m I' fC hn q => ⟨m, hn, fun h' sb => ⟨.ref D, H', ?_, rfl, q⟩⟩
  obtain ⟨z0, z1, z2, z3, z4, z5⟩ := fC
  exact I'.turned (t' := s'.toks) (fun b o hb e => sb.extBut b o hb e) z0 z1 z3 z4 z5
theorem ps_setC {i : Nat} {x : Str} {pos' spos : Pos} (hN : X.N.Nodup) (hi' : X.N[i]? = some x) (hx : X.env.scope.names.lookup x = some .local) (hc : X.calm = true) (T V : List Str) (ix : List Nat) (hi : PI X tg iter wi)
    (hg : ∀ cl C s3 H3 fp, PG (blk X (T ++ V) scope cl C s3 H3 fp) tg g) (ht : ∀ cl C s3 H3 fp, PTs (blk X (T ++ V) scope cl C s3 H3 fp) ifs tt) (he : ∀ cl C s3 H3 fp, PE (blk X (T ++ V) scope cl C s3 H3 fp) elt te)
    (hsw : swapsWith (.ListComp elt [⟨tg, iter, ifs, 0⟩] scope pos) (some (.Name x pos')) spos.line X.env = pure true := by rfl)
    (hB : capB X.N X.env.scope.names scope.names V ix = true := by rfl) (hk : scope.kind = .function := by rfl) (hcell : ∀ y ∈ scope.names, y.2 ≠ .cell := by decide +kernel)
    (hnames : ∀ x ∈ scope.names, x.2 = .local → scope.names.lookup x.1 = some .local := by decide +kernel)
    (hfr : ∀ x ∈ scope.names, x.2 = .free → x.1 ∈ V := by decide +kernel) (hs : ∀ x, foldedSetIterable iter X.env x = pure x := by intro _; rfl) :
    PS X (.Assign [.Name x pos'] (.ListComp elt [⟨tg, iter, ifs, 0⟩] scope pos) spos) (tAsg (tComp wi g tt te T.length (capσ T.length ix)) (gName i)) := by
  intro pins s σ H D I h
  rw [exec_Assign_Name_used _ _ _ _ hsw]
  refine wpAny_bind (wpAny_standAt (wpAny_bind ?_))
  show wpAny _ X.A (do let _ ← comprehension (.ListComp elt [⟨tg, iter, ifs, 0⟩] scope pos) scope X.env _ (newList []) false (eval iter X.env) (some (assign (.Name x pos') X.env))) _ _ s
  refine wpAny_bind (wpAny_mono (comp_core (use := some (assign (.Name x pos') X.env)) (Qp := fun _ s' => SP X pins D .next s') hc hi hg ht he hB hk hcell hnames hfr hs I h fun A' C H' s' m I' fC hn q => ?_) (fun _ s' hq => wpAny_pure (wpAny_pure hq)) fun _ _ e => e)
  obtain ⟨z0, z1, z2, z3, z4, z5⟩ := fC
  refine wpAny_assign_Name (store_ok2 I' hN hi' (.inl hx) (v := .ref A') rfl (fun s'' I'' ⟨a, sb, ha⟩ => ⟨m, hn.sameBut sb ?_, fun h' sb' => ⟨_, H', ?_, q⟩⟩) (.inr hx))
  · rcases ha with ha | ha
    · rw [ha]; exact z1
    · exact Ne.symm (z4 x a ha)
  · exact I''.turned (t' := s''.toks) (fun b o hb e => sb'.extBut b o hb e) z0 z1 z3 z4 z5
end
section
variable {X : Cx} {K : PySem.W.Frag}
end
end My
namespace D3
open PySem
abbrev D := PyData
inductive U where
  | d (x : D)
  | x (c f : Str) (v : D)
abbrev DS := List (Option U)
inductive Oc where
  | nx (δ : DS)
  | rt (d : D)
  | bk (δ : DS)
  | ct (δ : DS)
  | ex (c f : Str) (v : D)
abbrev FE := DS → Option D
abbrev FA := DS → Option (List D)
abbrev FT := DS → Option Bool
abbrev FS := DS → Option Oc
abbrev FG := D → DS → Option DS
mutual
def flat : D → Bool
  | .none => true
  | .bool _ => true
  | .int _ => true
  | .str _ => true
  | .list _ => false
  | .tuple xs => flats xs
  | .dict _ => false
def flats : List D → Bool
  | [] => true
  | x :: r => flat x && flats r
end
mutual
def nl : D → Nat
  | .none => 0
  | .bool _ => 0
  | .int _ => 0
  | .str _ => 0
  | .list xs => nls xs + 1
  | .tuple xs => nls xs
  | .dict _ => 1
def nls : List D → Nat
  | [] => 0
  | x :: r => nl x + nls r
end
def fl1 : D → Bool
  | .list xs => flats xs
  | d => flat d
def dVar (i : Nat) : FE := fun δ => match δ[i]? with
  | some (some (.d x)) => some x
  | _ => none
def dC (d : D) : FE := fun _ => some d
def dOp (g : D → D → Option D) (fa fb : FE) : FE := fun δ => (fa δ).bind fun x => (fb δ).bind fun y => g x y
def dUn (g : D → Option D) (fa : FE) : FE := fun δ => (fa δ).bind g
def dNil : FA := fun _ => some []
def dCons (fa : FE) (fr : FA) : FA := fun δ => (fa δ).bind fun x => (fr δ).bind fun r => some (x :: r)
def dTup (fa : FA) : FE := fun δ => (fa δ).bind fun l => if l.length ≤ sizeLine then some (.tuple l) else none
def dLst (fa : FA) : FE := fun δ => (fa δ).bind fun l => if l.length ≤ sizeLine then some (.list l) else none
def dCall (F : List D → Option D) (fa : FA) : FE := fun δ => (fa δ).bind F
def dFlat (fa : FE) : FE := fun δ => (fa δ).bind fun d => if flat d = true then some d else none
def dN1 (fa : FE) : FE := fun δ => (fa δ).bind fun d => if decide (nl d ≤ 1) = true then some d else none
def dFl1 (fa : FE) : FE := fun δ => (fa δ).bind fun d => if fl1 d = true then some d else none
def dAnd (fa fb : FE) : FE := fun δ => (fa δ).bind fun x => match x with
  | .bool true => fb δ
  | .bool false => some (.bool false)
  | _ => none
def dOr (fa fb : FE) : FE := fun δ => (fa δ).bind fun x => match x with
  | .bool true => some (.bool true)
  | .bool false => fb δ
  | _ => none
def dNot (fa : FE) : FE := fun δ => (fa δ).bind fun x => match x with
  | .bool b => some (.bool (!b))
  | _ => none
def dIf (c : FT) (fa fb : FE) : FE := fun δ => (c δ).bind fun b => if b = true then fa δ else fb δ
def tBool (fa : FE) : FT := fun δ => (fa δ).bind fun x => match x with
  | .bool b => some b
  | _ => none
def tAnd (a b : FT) : FT := fun δ => (a δ).bind fun x => if x = true then b δ else some false
def tOr (a b : FT) : FT := fun δ => (a δ).bind fun x => if x = true then some true else b δ
def tNot (a : FT) : FT := fun δ => (a δ).map fun x => !x
def sNil : FS := fun δ => some (.nx δ)
def sSeq (a b : FS) : FS := fun δ => (a δ).bind fun o => match o with
  | .nx δ' => b δ'
  | o => some o
def sSet (i : Nat) (fe : FE) : FS := fun δ => (fe δ).bind fun d => some (.nx (δ.set i (some (.d d))))
def sIf (c : FT) (a b : FS) : FS := fun δ => (c δ).bind fun t => if t = true then a δ else b δ
def sRet (fe : FE) : FS := fun δ => (fe δ).bind fun d => some (.rt d)
def sRetN : FS := fun _ => some (.rt .none)
def sExpr (fe : FE) : FS := fun δ => (fe δ).bind fun _ => some (.nx δ)
def sBk : FS := fun δ => some (.bk δ)
def sCt : FS := fun δ => some (.ct δ)
def gN (i : Nat) : FG := fun d δ => some (δ.set i (some (.d d)))
def gsNil : List D → DS → Option DS := fun l δ => match l with
  | [] => some δ
  | _ => none
def gsCons (g : FG) (r : List D → DS → Option DS) : List D → DS → Option DS := fun l δ => match l with
  | d :: l' => (g d δ).bind fun δ' => r l' δ'
  | [] => none
def sAsg (fe : FE) (g : FG) : FS := fun δ => (fe δ).bind fun d => (g d δ).bind fun δ' => some (.nx δ')
def forD (g : FG) (b : FS) : List D → DS → Option Oc
  | [], δ => some (.nx δ)
  | d :: r, δ => (g d δ).bind fun δ1 => (b δ1).bind fun o => match o with
    | .nx δ' => forD g b r δ'
    | .ct δ' => forD g b r δ'
    | .bk δ' => some (.nx δ')
    | .rt v => some (.rt v)
    | .ex c f v => some (.ex c f v)
def sFor (fi : FA) (g : FG) (b : FS) : FS := fun δ => (fi δ).bind fun l => forD g b l δ
def whileD (c : FT) (b : FS) : Nat → DS → Option Oc
  | 0, _ => none
  | n + 1, δ => (c δ).bind fun t => if t = true then (b δ).bind fun o => match o with
      | .nx δ' => whileD c b n δ'
      | .ct δ' => whileD c b n δ'
      | .bk δ' => some (.nx δ')
      | .rt v => some (.rt v)
      | .ex c f v => some (.ex c f v)
    else some (.nx δ)
open Classical in
noncomputable def sWhile (c : FT) (b : FS) : FS := fun δ => if h : ∃ o n, whileD c b n δ = some o then some (Classical.choose h) else none
def fnD (p q : Nat) (b : FS) : List D → Option D := fun ds => if ds.length = p then match b (ds.map (fun d => some (.d d)) ++ List.replicate q none) with
    | some (.rt d) => some d
    | some (.nx _) => some .none
    | _ => none
  else none
def capD (t : Nat) (ix : List Nat) (δ : DS) : DS := List.replicate t none ++ ix.map fun j => (δ[j]?).getD none
def compD (g : FG) (c : FT) (e : FE) (δ : DS) : List D → Option (List D)
  | [] => some []
  | d :: r => (g d δ).bind fun δ1 => (c δ1).bind fun b => if b = true then (e δ1).bind fun x => (compD g c e δ r).bind fun l => some (x :: l) else compD g c e δ r
def dComp (fi : FA) (g : FG) (c : FT) (e : FE) (t : Nat) (ix : List Nat) : FE := fun δ => (fi δ).bind fun l => if l.length ≤ 100000 then (compD g c e (capD t ix δ) l).bind fun r => some (.list r) else none
def tYes : FT := fun _ => some true
def gI (g : Int → Int → Option D) : D → D → Option D := fun x y => match x, y with
  | .int i, .int j => g i j
  | _, _ => none
def pIx (n : Nat) (i : Int) : Option Nat := if 0 ≤ i then (if i < n then some i.toNat else none) else if -(n : Int) ≤ i then some (i + n).toNat else none
def pAt (xs : List D) (i : Int) : Option D := (pIx xs.length i).bind fun j => xs[j]?
def isT (c T : String) : Bool := T == c || (T == "bool" && c == "int")
def sSetl (i : Nat) (fe : FE) : FS := fun δ => if i < δ.length then sSet i fe δ else none
def gAdd : D → D → Option D := gI fun i j => some (.int (i + j))
def gSub : D → D → Option D := gI fun i j => some (.int (i - j))
def mulG (i j : Int) : Bool := decide (i.natAbs < 2 ^ 64) || decide (j.natAbs < 2 ^ 64) || (decide (i.natAbs < 2 ^ 30000) && decide (j.natAbs < 2 ^ 30000))
def gMul : D → D → Option D := gI fun i j => if mulG i j = true then some (.int (i * j)) else none
def divG (_ j : Int) : Bool := decide (j ≠ 0) && decide (j.natAbs < 2 ^ 9000)
def gDiv : D → D → Option D := gI fun i j => if divG i j = true then some (.int (i.fdiv j)) else none
def gMod : D → D → Option D := gI fun i j => if decide (j ≠ 0) = true then some (.int (i.fmod j)) else none
def powG (i j : Int) : Bool := decide (0 ≤ j) && decide (j ≤ 1000) && decide (i.natAbs < 2 ^ 64)
def gPow : D → D → Option D := gI fun i j => if powG i j = true then some (.int (i ^ j.toNat)) else none
def gLt : D → D → Option D := gI fun i j => some (.bool (decide (i < j)))
def gLe : D → D → Option D := gI fun i j => some (.bool (decide (i ≤ j)))
def gGt : D → D → Option D := gI fun i j => some (.bool (decide (j < i)))
def gGe : D → D → Option D := gI fun i j => some (.bool (decide (j ≤ i)))
def gEq : D → D → Option D := fun x y => if (SeqAt.shaped x && SeqAt.shaped y) = true then some (.bool (PyData.eqv x y)) else none
def gNe : D → D → Option D := fun x y => if (SeqAt.shaped x && SeqAt.shaped y) = true then some (.bool (!PyData.eqv x y)) else none
def gNl (i : Nat) : FG := fun d δ => if i < δ.length then gN i d δ else none
def gTn (n : Nat) (g : List D → DS → Option DS) : FG := fun d δ => match d with
  | .tuple l => if l.length = n then g l δ else none
  | _ => none
def sApp (i : Nat) (f : FE) : FS := fun δ => (dVar i δ).bind fun x => (f δ).bind fun d => match x with
  | .list l => if l.length < 1000000 then some (.nx (δ.set i (some (.d (.list (l ++ [d])))))) else none
  | _ => none
def sPut (i : Nat) (fk f : FE) : FS := fun δ => (f δ).bind fun d => (dVar i δ).bind fun x => (fk δ).bind fun k => match x, k with
  | .list l, .int j => (pIx l.length j).bind fun n => some (.nx (δ.set i (some (.d (.list (l.set n d))))))
  | _, _ => none
def asList : D → Option (List D)
  | .list l => some l
  | _ => none
def fLst (f : FE) : FA := fun δ => (f δ).bind asList
def rngD (lo hi : Int) : List D := (List.range (hi - lo).toNat).map fun (k : Nat) => .int (lo + (k : Int))
def rngG (i : Int) : Bool := decide (-(2 ^ 62) ≤ i) && decide (i < 2 ^ 62)
def fRng1 (fa : FA) : FA := fun δ => (fa δ).bind fun l => match l with
  | [.int j] => if rngG j = true then some (rngD 0 j) else none
  | _ => none
def fRng2 (fa : FA) : FA := fun δ => (fa δ).bind fun l => match l with
  | [.int i, .int j] => if (rngG i && rngG j) = true then some (rngD i j) else none
  | _ => none
def gIx : D → D → Option D := fun x y => match x, y with
  | .list l, .int i => pAt l i
  | .tuple l, .int i => pAt l i
  | _, _ => none
def dChain (g g' : D → D → Option D) (fa fb fc : FE) : FE := fun δ => (fa δ).bind fun x => (fb δ).bind fun y => (g x y).bind fun z => match z with
  | .bool true => (fc δ).bind fun w => g' y w
  | .bool false => some (.bool false)
  | _ => none
def dChain3 (g g' g'' : D → D → Option D) (fa fb fc fd : FE) : FE := fun δ => (fa δ).bind fun x => (fb δ).bind fun y => (g x y).bind fun z => match z with
  | .bool true => (fc δ).bind fun w => (g' y w).bind fun z' => match z' with
    | .bool true => (fd δ).bind fun u => g'' w u
    | .bool false => some (.bool false)
    | _ => none
  | .bool false => some (.bool false)
  | _ => none
def isNone : D → Bool
  | .none => true
  | _ => false
def gIsN : D → Option D := fun x => some (.bool (isNone x))
def gNotN : D → Option D := fun x => some (.bool (!isNone x))
def gLen : List D → Option D
  | [.list l] => some (.int l.length)
  | [.tuple l] => some (.int l.length)
  | _ => none
def intsD : List D → Option (List Int)
  | [] => some []
  | .int i :: r => (intsD r).map (i :: ·)
  | _ => none
def gSum : List D → Option D
  | [.list l] => (intsD l).map fun ns => .int ns.sum
  | _ => none
def insI (x : Int) : List Int → List Int
  | [] => [x]
  | y :: r => if x ≤ y then x :: y :: r else y :: insI x r
def srtI : List Int → List Int
  | [] => []
  | x :: r => insI x (srtI r)
def gSort : List D → Option D
  | [.list l] => (intsD l).bind fun ns => if ns.length < 64 then some (.list ((srtI ns).map .int)) else none
  | _ => none
def gInt : List D → Option D
  | [.int i] => some (.int i)
  | [.bool b] => some (.int (if b then 1 else 0))
  | _ => none
def gAbs : List D → Option D
  | [.int i] => some (.int (if i < 0 then -i else i))
  | _ => none
def gMax2 : List D → Option D
  | [.int i, .int j] => some (.int (if j > i then j else i))
  | _ => none
def gMin2 : List D → Option D
  | [.int i, .int j] => some (.int (if j < i then j else i))
  | _ => none
def tyD : D → String
  | .none => "NoneType"
  | .bool _ => "bool"
  | .int _ => "int"
  | .str _ => "str"
  | .list _ => "list"
  | .tuple _ => "tuple"
  | .dict _ => "dict"
def gIs (c : String) : D → Option D := fun d => some (.bool (isT c (tyD d)))
def gNeg : D → Option D
  | .int i => some (.int (-i))
  | _ => none
def gCat : D → D → Option D := fun x y => match x, y with
  | .list l, .list m => if l.length + m.length ≤ 1000000 then some (.list (l ++ m)) else none
  | _, _ => none
def gList : D → Option D
  | .list l => some (.list l)
  | .tuple l => some (.list l)
  | _ => none
abbrev FO := DS → Option (Option Int)
def oNone : FO := fun _ => some none
def oPart (f : FE) : FO := fun δ => (f δ).bind fun x => match x with
  | .int i => some (some i)
  | _ => none
def pSx (n d : Nat) : Option Int → Nat
  | none => d
  | some i => if i < 0 then (i + n).toNat else min i.toNat n
def cutD (xs : List D) (lo hi : Option Int) : List D := (xs.drop (pSx xs.length 0 lo)).take (pSx xs.length xs.length hi - pSx xs.length 0 lo)
def dSl (f : FE) (lo hi : FO) : FE := fun δ => (f δ).bind fun x => (lo δ).bind fun a => (hi δ).bind fun b => match x with
  | .list l => some (.list (cutD l a b))
  | _ => none
def sPar (i j : Nat) (fa : FA) : FS := fun δ => (fa δ).bind fun l => match l with
  | [x, y] => if i < δ.length ∧ j < δ.length then some (.nx ((δ.set i (some (.d x))).set j (some (.d y)))) else none
  | _ => none
def enumD (l : List D) : List D := l.mapIdx fun i x => .tuple [.int (i : Int), x]
def fEnum (f : FE) : FA := fun δ => (f δ).bind fun d => match d with
  | .list l => some (enumD l)
  | _ => none
def boolsD : List D → Option (List Bool)
  | [] => some []
  | .bool b :: r => (boolsD r).map (b :: ·)
  | _ => none
def gAll : List D → Option D
  | [.list l] => (boolsD l).map fun bs => .bool (bs.all id)
  | _ => none
def gAny : List D → Option D
  | [.list l] => (boolsD l).map fun bs => .bool (bs.any id)
  | _ => none
def zipD : List D → List D → List D
  | x :: r, y :: s => .tuple [x, y] :: zipD r s
  | _, _ => []
def fZip (f g : FE) : FA := fun δ => (f δ).bind fun d => (g δ).bind fun e => match d, e with
  | .list l, .list m => some (zipD l m)
  | _, _ => none
theorem insI_perm (x : Int) : ∀ l, (insI x l).Perm (x :: l)
  | [] => .refl _
  | y :: r => by
    unfold insI
    split
    · exact .refl _
    · exact ((insI_perm x r).cons y).trans (.swap x y r)
theorem srtI_perm : ∀ l, (srtI l).Perm l
  | [] => .refl _
  | x :: r => (insI_perm x _).trans ((srtI_perm r).cons x)
theorem insI_sorted (x : Int) : ∀ l, l.Pairwise (· ≤ ·) → (insI x l).Pairwise (· ≤ ·)
  | [], _ => by simp [insI]
  | y :: r, h => by
    obtain ⟨h1, h2⟩ := List.pairwise_cons.mp h
    unfold insI
    split
    · next c =>
      refine List.pairwise_cons.mpr ⟨fun a ha => ?_, h⟩
      rcases List.mem_cons.mp ha with rfl | z
      · exact c
      · exact Int.le_trans c (h1 a z)
    · next c =>
      refine List.pairwise_cons.mpr ⟨fun a ha => ?_, insI_sorted x r h2⟩
      rcases List.mem_cons.mp ((insI_perm x r).mem_iff.mp ha) with rfl | z
      · omega
      · exact h1 a z
theorem srtI_sorted : ∀ l, (srtI l).Pairwise (· ≤ ·)
  | [] => .nil
  | x :: r => insI_sorted x _ (srtI_sorted r)
end D3
namespace D3
open PySem PySem.Spec PyProof.Rows L2 My
abbrev Ok := Addr → Prop
abbrev St := L2.St
class Chg (u : HO) : Prop where
  ch : (∃ xs, u = .lst xs) ∨ (∃ kvs, u = .dK kvs) ∨ ∃ kvs, u = .dT kvs
instance (xs : List V) : Chg (.lst xs) := ⟨.inl ⟨xs, rfl⟩⟩
instance (kvs : List (Key × V)) : Chg (.dK kvs) := ⟨.inr (.inl ⟨kvs, rfl⟩)⟩
instance (kvs : List (List Key × V)) : Chg (.dT kvs) := ⟨.inr (.inr ⟨kvs, rfl⟩)⟩
theorem Chg.frz {o : Obj} {u : HO} (h : Chg (.frz o u)) : False := by
  rcases h.ch with ⟨_, z⟩ | ⟨_, z⟩ | ⟨_, z⟩ <;> cases z
theorem Chg.tup {xs : List V} (h : Chg (.tup xs)) : False := by
  rcases h.ch with ⟨_, z⟩ | ⟨_, z⟩ | ⟨_, z⟩ <;> cases z
def Chd (o : Option HO) : Prop := ∃ u, o = some u ∧ Chg u
theorem Chd.ne {o : Option HO} (h : Chd o) : o ≠ none := by
  obtain ⟨u, rfl, _⟩ := h
  simp
def SqK (K : PySem.W.Frag) (H : Hp) (a : Addr) (xs : List V) : Prop := (∃ o, H a = some (.frz o (.lst xs))) ∨
  ∃ (o : Obj) (its : Array Value) (n : Nat), K.lookup a = some o ∧ o.cls = .type "list" ∧ o.dict = none ∧ o.data = .seq its n ∧ its.size ≤ sizeLine ∧ Vals xs its.toList
theorem SqK.sq {K : PySem.W.Frag} {H : Hp} {a : Addr} {xs : List V} (h : SqK K H a xs) : SqL K H a xs := by
  rcases h with ⟨o, h⟩ | h
  · exact .inl (.inr ⟨o, h⟩)
  · exact .inr h
def SqT0 (H : Hp) (a : Addr) (xs : List V) : Prop := H a = some (.tup xs)
theorem SqT0.sq {K : PySem.W.Frag} {H : Hp} {a : Addr} {xs : List V} (h : SqT0 H a xs) : SqT K H a xs := .inl (.inl h)
theorem SqT0.same {H H' : Hp} {a : Addr} {xs : List V} (e : Same H H') (h : SqT0 H a xs) : SqT0 H' a xs := e _ _ h
theorem SqT0.upd {H : Hp} {a b : Addr} {xs : List V} {u o : HO} [cu : Chg u] (h : H a = some u) (q : SqT0 H b xs) : SqT0 (upd H a o) b xs := by
  unfold SqT0
  rw [upd_ne (ne_of q h (by intro z; subst z; exact cu.tup))]
  exact q
def dk0 : List (D × D) → List (Key × V)
  | [] => []
  | (.int i, .int j) :: r => (.inl i, .int j) :: dk0 r
  | (.int i, .bool true) :: r => (.inl i, .bl true) :: dk0 r
  | _ :: r => (.inl 0, .non) :: dk0 r
def tkK : List D → Option (List Key)
  | [] => some []
  | .int i :: r => (tkK r).map (.inl i :: ·)
  | _ => none
def tkD : List (D × D) → Option (List (List Key × V))
  | [] => some []
  | (.tuple l, .bool true) :: r => (tkK l).bind fun k => (tkD r).map ((k, .bl true) :: ·)
  | _ => none
def dh0 (kvs : List (D × D)) : HO := match kvs with
  | [] => .dK []
  | q :: r => match tkD (q :: r) with
    | some ts => .dT ts
    | none => .dK (dk0 (q :: r))
theorem dh0_or (kvs : List (D × D)) : (∃ ks, dh0 kvs = .dK ks) ∨ ∃ ks, dh0 kvs = .dT ks := by
  cases kvs with
  | nil => exact .inl ⟨_, rfl⟩
  | cons q r =>
    unfold dh0
    dsimp only
    split
    · exact .inr ⟨_, rfl⟩
    · exact .inl ⟨_, rfl⟩
instance (kvs : List (D × D)) : Chg (dh0 kvs) := ⟨by
  rcases dh0_or kvs with ⟨ks, z⟩ | ⟨ks, z⟩
  · exact .inr (.inl ⟨ks, z⟩)
  · exact .inr (.inr ⟨ks, z⟩)⟩
mutual
inductive RA (K : PySem.W.Frag) (ok : Ok) (pl : Bool) (H : Hp) : V → D → Prop
  | non : RA K ok pl H .non .none
  | bl (b : Bool) : RA K ok pl H (.bl b) (.bool b)
  | int (i : Int) : RA K ok pl H (.int i) (.int i)
  | str (x : Str) : RA K ok pl H (.str x) (.str x)
  | lst {a : Addr} {xs : List V} {ds : List D} : H a = some (.lst xs) → ok a → RAs K ok pl H xs ds → RA K ok pl H (.ref a) (.list ds)
  | lsk {a : Addr} {xs : List V} {ds : List D} : SqK K H a xs → pl = true → RAs K ok pl H xs ds → RA K ok pl H (.ref a) (.list ds)
  | tup {a : Addr} {xs : List V} {ds : List D} : SqT0 H a xs → RAs K ok pl H xs ds → RA K ok pl H (.ref a) (.tuple ds)
  | dic {a : Addr} {kvs : List (D × D)} : H a = some (dh0 kvs) → ok a → RA K ok pl H (.ref a) (.dict kvs)
  | dik {a : Addr} {kvs : List (D × D)} {o : Obj} : H a = some (.frz o (dh0 kvs)) → pl = true → RA K ok pl H (.ref a) (.dict kvs)
inductive RAs (K : PySem.W.Frag) (ok : Ok) (pl : Bool) (H : Hp) : List V → List D → Prop
  | nil : RAs K ok pl H [] []
  | cons {v : V} {d : D} {vs : List V} {ds : List D} : RA K ok pl H v d → RAs K ok pl H vs ds → RAs K ok pl H (v :: vs) (d :: ds)
end
section
variable {K : PySem.W.Frag} {ok ok' : Ok} {pl pl' : Bool} {H H' : Hp}
mutual
theorem RA.imp (ho : ∀ a, ok a → ok' a) (hp : pl = true → pl' = true) : ∀ {v : V} {d : D}, RA K ok pl H v d → RA K ok' pl' H v d
  | _, _, .non => .non
  | _, _, .bl b => .bl b
  | _, _, .int i => .int i
  | _, _, .str x => .str x
  | _, _, .lst h o q => .lst h (ho _ o) (RAs.imp ho hp q)
  | _, _, .lsk h o q => .lsk h (hp o) (RAs.imp ho hp q)
  | _, _, .tup h q => .tup h (RAs.imp ho hp q)
  | _, _, .dic h o => .dic h (ho _ o)
  | _, _, .dik h o => .dik h (hp o)
theorem RAs.imp (ho : ∀ a, ok a → ok' a) (hp : pl = true → pl' = true) : ∀ {v : List V} {d : List D}, RAs K ok pl H v d → RAs K ok' pl' H v d
  | _, _, .nil => .nil
  | _, _, .cons h q => .cons (RA.imp ho hp h) (RAs.imp ho hp q)
end
theorem SqK.same {a : Addr} {xs : List V} (e : Same H H') (h : SqK K H a xs) : SqK K H' a xs := by
  rcases h with ⟨o, h⟩ | h
  · exact .inl ⟨o, e _ _ h⟩
  · exact .inr h
mutual
theorem RA.same (e : Same H H') : ∀ {v : V} {d : D}, RA K ok pl H v d → RA K ok pl H' v d
  | _, _, .non => .non
  | _, _, .bl b => .bl b
  | _, _, .int i => .int i
  | _, _, .str x => .str x
  | _, _, .lst h o q => .lst (e _ _ h) o (RAs.same e q)
  | _, _, .lsk h o q => .lsk (h.same e) o (RAs.same e q)
  | _, _, .tup h q => .tup (SqT0.same e h) (RAs.same e q)
  | _, _, .dic h o => .dic (e _ _ h) o
  | _, _, .dik h o => .dik (e _ _ h) o
theorem RAs.same (e : Same H H') : ∀ {v : List V} {d : List D}, RAs K ok pl H v d → RAs K ok pl H' v d
  | _, _, .nil => .nil
  | _, _, .cons h q => .cons (RA.same e h) (RAs.same e q)
end
mutual
theorem RA.flat : ∀ {v : V} {d : D}, flat d = true → RA K ok pl H v d → RA K ok' pl' H v d
  | _, _, _, .non => .non
  | _, _, _, .bl b => .bl b
  | _, _, _, .int i => .int i
  | _, _, _, .str x => .str x
  | _, _, h, .lst _ _ _ => by simp [D3.flat] at h
  | _, _, h, .lsk _ _ _ => by simp [D3.flat] at h
  | _, _, h, .tup t q => .tup t (RAs.flat (by simpa [D3.flat] using h) q)
  | _, _, h, .dic _ _ => by simp [D3.flat] at h
  | _, _, h, .dik _ _ => by simp [D3.flat] at h
theorem RAs.flat : ∀ {v : List V} {d : List D}, flats d = true → RAs K ok pl H v d → RAs K ok' pl' H v d
  | _, _, _, .nil => .nil
  | _, _, h, .cons a q => by
    rw [flats, Bool.and_eq_true] at h
    exact .cons (RA.flat h.1 a) (RAs.flat h.2 q)
end
theorem SqK.upd {a b : Addr} {xs : List V} {u o : HO} [cu : Chg u] (h : H a = some u) (q : SqK K H b xs) : SqK K (upd H a o) b xs := by
  rcases q with ⟨o', q⟩ | q
  · refine .inl ⟨o', ?_⟩
    rw [upd_ne (ne_of q h (by intro z; subst z; first | exact cu.frz | exact cu.tup))]
    exact q
  · exact .inr q
theorem SqT.upd {a b : Addr} {xs : List V} {u o : HO} [cu : Chg u] (h : H a = some u) (q : SqT K H b xs) : SqT K (upd H a o) b xs := by
  rcases q with (q | ⟨o', q⟩) | q
  · refine .inl (.inl ?_)
    rw [upd_ne (ne_of q h (by intro z; subst z; first | exact cu.frz | exact cu.tup))]
    exact q
  · refine .inl (.inr ⟨o', ?_⟩)
    rw [upd_ne (ne_of q h (by intro z; subst z; first | exact cu.frz | exact cu.tup))]
    exact q
  · exact .inr q
mutual
theorem RA.upd {a : Addr} {u o : HO} [cu : Chg u] (h : H a = some u) (na : ¬ ok a) : ∀ {v : V} {d : D}, RA K ok pl H v d → RA K ok pl (upd H a o) v d
  | _, _, .non => .non
  | _, _, .bl b => .bl b
  | _, _, .int i => .int i
  | _, _, .str x => .str x
  | _, _, .lst (a := b) e k q => .lst (by rw [upd_ne (by intro z; subst z; exact na k)]; exact e) k (RAs.upd h na q)
  | _, _, .lsk e k q => .lsk (e.upd h) k (RAs.upd h na q)
  | _, _, .tup e q => .tup (SqT0.upd h e) (RAs.upd h na q)
  | _, _, .dic (a := b) e k => .dic (by rw [upd_ne (by intro z; subst z; exact na k)]; exact e) k
  | _, _, .dik (a := b) e k => .dik (by rw [upd_ne (ne_of e h (by intro z; subst z; exact cu.frz))]; exact e) k
theorem RAs.upd {a : Addr} {u o : HO} [cu : Chg u] (h : H a = some u) (na : ¬ ok a) : ∀ {v : List V} {d : List D}, RAs K ok pl H v d → RAs K ok pl (upd H a o) v d
  | _, _, .nil => .nil
  | _, _, .cons e q => .cons (RA.upd h na e) (RAs.upd h na q)
end
mutual
theorem RA.track : ∀ {v : V} {d : D}, RA K ok pl H v d → RA K (fun b => ok b ∧ H b ≠ none) pl H v d
  | _, _, .non => .non
  | _, _, .bl b => .bl b
  | _, _, .int i => .int i
  | _, _, .str x => .str x
  | _, _, .lst e k q => .lst e ⟨k, by rw [e]; simp⟩ (RAs.track q)
  | _, _, .lsk e k q => .lsk e k (RAs.track q)
  | _, _, .tup e q => .tup e (RAs.track q)
  | _, _, .dic e k => .dic e ⟨k, by rw [e]; simp⟩
  | _, _, .dik e k => .dik e k
theorem RAs.track : ∀ {v : List V} {d : List D}, RAs K ok pl H v d → RAs K (fun b => ok b ∧ H b ≠ none) pl H v d
  | _, _, .nil => .nil
  | _, _, .cons e q => .cons (RA.track e) (RAs.track q)
end
theorem RAs.length : ∀ {v : List V} {d : List D}, RAs K ok pl H v d → v.length = d.length
  | _, _, .nil => rfl
  | _, _, .cons _ q => by simp [RAs.length q]
theorem RAs.get : ∀ {v : List V} {d : List D} {i : Nat} {x : D}, RAs K ok pl H v d → d[i]? = some x → ∃ y, v[i]? = some y ∧ RA K ok pl H y x
  | _, _, _, _, .nil, h => by simp at h
  | _, _, 0, _, .cons a _, h => by simp at h; subst h; exact ⟨_, rfl, a⟩
  | _, _, i + 1, _, .cons _ q, h => by
    obtain ⟨y, e, r⟩ := RAs.get (i := i) q (by simpa using h)
    exact ⟨y, by simpa using e, r⟩
theorem RAs.append : ∀ {v v' : List V} {d d' : List D}, RAs K ok pl H v d → RAs K ok pl H v' d' → RAs K ok pl H (v ++ v') (d ++ d')
  | _, _, _, _, .nil, q => q
  | _, _, _, _, .cons a r, q => .cons a (RAs.append r q)
theorem RAs.set {x : V} {y : D} (r : RA K ok pl H x y) : ∀ {v : List V} {d : List D} (i : Nat), RAs K ok pl H v d → RAs K ok pl H (v.set i x) (d.set i y)
  | _, _, _, .nil => .nil
  | _, _, 0, .cons _ q => .cons r q
  | _, _, i + 1, .cons a q => .cons a (RAs.set r i q)
theorem RAs.take : ∀ {v : List V} {d : List D} (n : Nat), RAs K ok pl H v d → RAs K ok pl H (v.take n) (d.take n)
  | _, _, 0, _ => by simp; exact .nil
  | _, _, _ + 1, .nil => .nil
  | _, _, n + 1, .cons a q => .cons a (RAs.take n q)
theorem RAs.drop : ∀ {v : List V} {d : List D} (n : Nat), RAs K ok pl H v d → RAs K ok pl H (v.drop n) (d.drop n)
  | _, _, 0, q => q
  | _, _, _ + 1, .nil => .nil
  | _, _, n + 1, .cons _ q => RAs.drop n q
mutual
theorem RA.rd : ∀ {v : V} {d : D}, d.canLay0 = true → RA K ok pl H v d → RdV K H v d
  | _, _, _, .non => .non
  | _, _, _, .bl b => .bl b
  | _, _, _, .int i => .int i
  | _, _, _, .str x => .str x
  | _, _, h, .lst e _ q => .lst (SqL.of e) (RAs.rd (by simpa [PyData.canLay0] using h) q)
  | _, _, h, .lsk e _ q => .lst e.sq (RAs.rd (by simpa [PyData.canLay0] using h) q)
  | _, _, h, .tup e q => .tup e.sq (RAs.rd (by simpa [PyData.canLay0] using h) q)
  | _, _, h, .dic _ _ => by simp [PyData.canLay0] at h
  | _, _, h, .dik _ _ => by simp [PyData.canLay0] at h
theorem RAs.rd : ∀ {v : List V} {d : List D}, PyData.canLayAll0 d = true → RAs K ok pl H v d → RdVs K H v d
  | _, _, _, .nil => .nil
  | _, _, h, .cons e q => by
    rw [PyData.canLayAll0, Bool.and_eq_true] at h
    exact .cons (RA.rd h.1 e) (RAs.rd h.2 q)
end
theorem RA.intE {v : V} {i : Int} (h : RA K ok pl H v (.int i)) : v = .int i := by cases h; rfl
theorem RA.blE {v : V} {b : Bool} (h : RA K ok pl H v (.bool b)) : v = .bl b := by cases h; rfl
theorem RA.lstE {v : V} {ds : List D} (h : RA K ok pl H v (.list ds)) : ∃ a xs, v = .ref a ∧ SqL K H a xs ∧ RAs K ok pl H xs ds := by
  cases h with
  | lst e k q => exact ⟨_, _, rfl, SqL.of e, q⟩
  | lsk e k q => exact ⟨_, _, rfl, e.sq, q⟩
theorem RA.tupE {v : V} {ds : List D} (h : RA K ok pl H v (.tuple ds)) : ∃ a xs, v = .ref a ∧ SqT K H a xs ∧ RAs K ok pl H xs ds := by
  cases h with
  | tup e q => exact ⟨_, _, rfl, e.sq, q⟩
end
inductive Fl where
  | A
  | O
  | L
  | N
  | M
  deriving DecidableEq
def isN : Option Fl → Bool
  | some .N => true
  | some .M => true
  | _ => false
mutual
inductive RT (K : PySem.W.Frag) (H : Hp) : V → D → List Addr → Prop
  | non : RT K H .non .none []
  | bl (b : Bool) : RT K H (.bl b) (.bool b) []
  | int (i : Int) : RT K H (.int i) (.int i) []
  | str (x : Str) : RT K H (.str x) (.str x) []
  | lst {a : Addr} {xs : List V} {ds : List D} {as : List Addr} : H a = some (.lst xs) → RTs K H xs ds as → RT K H (.ref a) (.list ds) (a :: as)
  | tup {a : Addr} {xs : List V} {ds : List D} {as : List Addr} : SqT0 H a xs → RTs K H xs ds as → RT K H (.ref a) (.tuple ds) as
  | dic {a : Addr} {kvs : List (D × D)} : H a = some (dh0 kvs) → RT K H (.ref a) (.dict kvs) [a]
inductive RTs (K : PySem.W.Frag) (H : Hp) : List V → List D → List Addr → Prop
  | nil : RTs K H [] [] []
  | cons {v : V} {d : D} {vs : List V} {ds : List D} {as bs : List Addr} : RT K H v d as → RTs K H vs ds bs → RTs K H (v :: vs) (d :: ds) (as ++ bs)
end
section
variable {K : PySem.W.Frag} {H H' : Hp}
mutual
theorem RT.ra {ok : Ok} {pl : Bool} : ∀ {v : V} {d : D} {as : List Addr}, RT K H v d as → (∀ a ∈ as, ok a) → RA K ok pl H v d
  | _, _, _, .non, _ => .non
  | _, _, _, .bl b, _ => .bl b
  | _, _, _, .int i, _ => .int i
  | _, _, _, .str x, _ => .str x
  | _, _, _, .lst e q, h => .lst e (h _ List.mem_cons_self) (RTs.ra q fun a ha => h a (List.mem_cons_of_mem _ ha))
  | _, _, _, .tup e q, h => .tup e (RTs.ra q h)
  | _, _, _, .dic e, h => .dic e (h _ List.mem_cons_self)
theorem RTs.ra {ok : Ok} {pl : Bool} : ∀ {v : List V} {d : List D} {as : List Addr}, RTs K H v d as → (∀ a ∈ as, ok a) → RAs K ok pl H v d
  | _, _, _, .nil, _ => .nil
  | _, _, _, .cons e q, h => .cons (RT.ra e fun a ha => h a (List.mem_append_left _ ha)) (RTs.ra q fun a ha => h a (List.mem_append_right _ ha))
end
mutual
theorem RT.same (s : Same H H') : ∀ {v : V} {d : D} {as : List Addr}, RT K H v d as → RT K H' v d as
  | _, _, _, .non => .non
  | _, _, _, .bl b => .bl b
  | _, _, _, .int i => .int i
  | _, _, _, .str x => .str x
  | _, _, _, .lst e q => .lst (s _ _ e) (RTs.same s q)
  | _, _, _, .tup e q => .tup (SqT0.same s e) (RTs.same s q)
  | _, _, _, .dic e => .dic (s _ _ e)
theorem RTs.same (s : Same H H') : ∀ {v : List V} {d : List D} {as : List Addr}, RTs K H v d as → RTs K H' v d as
  | _, _, _, .nil => .nil
  | _, _, _, .cons e q => .cons (RT.same s e) (RTs.same s q)
end
mutual
theorem RT.upd {a : Addr} {u o : HO} [cu : Chg u] (h : H a = some u) : ∀ {v : V} {d : D} {as : List Addr}, a ∉ as → RT K H v d as → RT K (upd H a o) v d as
  | _, _, _, _, .non => .non
  | _, _, _, _, .bl b => .bl b
  | _, _, _, _, .int i => .int i
  | _, _, _, _, .str x => .str x
  | _, _, _, na, .lst e q => .lst (by rw [upd_ne (fun z => na (by rw [← z]; exact List.mem_cons_self))]; exact e) (RTs.upd h (fun z => na (List.mem_cons_of_mem _ z)) q)
  | _, _, _, na, .tup e q => .tup (SqT0.upd h e) (RTs.upd h na q)
  | _, _, _, na, .dic e => .dic (by rw [upd_ne (fun z => na (by rw [← z]; exact List.mem_cons_self))]; exact e)
theorem RTs.upd {a : Addr} {u o : HO} [cu : Chg u] (h : H a = some u) : ∀ {v : List V} {d : List D} {as : List Addr}, a ∉ as → RTs K H v d as → RTs K (upd H a o) v d as
  | _, _, _, _, .nil => .nil
  | _, _, _, na, .cons e q => .cons (RT.upd h (fun z => na (List.mem_append_left _ z)) e) (RTs.upd h (fun z => na (List.mem_append_right _ z)) q)
end
mutual
theorem RT.chd : ∀ {v : V} {d : D} {as : List Addr}, RT K H v d as → ∀ a ∈ as, Chd (H a)
  | _, _, _, .non, _, h => by cases h
  | _, _, _, .bl b, _, h => by cases h
  | _, _, _, .int i, _, h => by cases h
  | _, _, _, .str x, _, h => by cases h
  | _, _, _, .lst e q, a, h => by
    rcases List.mem_cons.mp h with rfl | z
    · exact ⟨_, e, inferInstance⟩
    · exact RTs.chd q a z
  | _, _, _, .tup e q, a, h => RTs.chd q a h
  | _, _, _, .dic e, a, h => by
    rw [List.mem_singleton.mp h]; exact ⟨_, e, inferInstance⟩
theorem RTs.chd : ∀ {v : List V} {d : List D} {as : List Addr}, RTs K H v d as → ∀ a ∈ as, Chd (H a)
  | _, _, _, .nil, _, h => by cases h
  | _, _, _, .cons e q, a, h => by
    rcases List.mem_append.mp h with z | z
    · exact RT.chd e a z
    · exact RTs.chd q a z
end
theorem RT.tracked {v : V} {d : D} {as : List Addr} (h : RT K H v d as) (a : Addr) (ha : a ∈ as) : H a ≠ none := (h.chd a ha).ne
theorem RTs.tracked {v : List V} {d : List D} {as : List Addr} (h : RTs K H v d as) (a : Addr) (ha : a ∈ as) : H a ≠ none := (h.chd a ha).ne
mutual
theorem RA.rt {ok : Ok} : ∀ {v : V} {d : D}, RA K ok false H v d → ∃ as, RT K H v d as ∧ as.length = nl d ∧ ∀ a ∈ as, ok a
  | _, _, .non => ⟨[], .non, rfl, fun _ h => by cases h⟩
  | _, _, .bl b => ⟨[], .bl b, rfl, fun _ h => by cases h⟩
  | _, _, .int i => ⟨[], .int i, rfl, fun _ h => by cases h⟩
  | _, _, .str x => ⟨[], .str x, rfl, fun _ h => by cases h⟩
  | _, _, .lst e k q => by
    obtain ⟨as, h1, h2, h3⟩ := RAs.rts q
    refine ⟨_ :: as, .lst e h1, by rw [List.length_cons, h2, nl], fun a ha => ?_⟩
    rcases List.mem_cons.mp ha with rfl | z
    · exact k
    · exact h3 a z
  | _, _, .lsk e k q => by cases k
  | _, _, .tup e q => by
    obtain ⟨as, h1, h2, h3⟩ := RAs.rts q
    exact ⟨as, .tup e h1, by rw [h2, nl], h3⟩
  | _, _, .dic e k => ⟨[_], .dic e, by simp [nl], fun a ha => by rw [List.mem_singleton.mp ha]; exact k⟩
  | _, _, .dik e k => by cases k
theorem RAs.rts {ok : Ok} : ∀ {v : List V} {d : List D}, RAs K ok false H v d → ∃ as, RTs K H v d as ∧ as.length = nls d ∧ ∀ a ∈ as, ok a
  | _, _, .nil => ⟨[], .nil, rfl, fun _ h => by cases h⟩
  | _, _, .cons e q => by
    obtain ⟨as, h1, h2, h3⟩ := RA.rt e
    obtain ⟨bs, g1, g2, g3⟩ := RAs.rts q
    refine ⟨as ++ bs, .cons h1 g1, by rw [List.length_append, h2, g2, nls], fun a ha => ?_⟩
    rcases List.mem_append.mp ha with z | z
    · exact h3 a z
    · exact g3 a z
end
end
def tabs : List (Addr × Str × Pos) := []
def Tb (H : Hp) : Prop := ∀ t ∈ tabs, H t.1 = some (.tbl t.2.1 t.2.2)
theorem Tb.same {H H' : Hp} (t : Tb H) (s : Same H H') : Tb H' := fun x hx => s _ _ (t x hx)
structure Gh where
  H0 : Hp
  HF : Hp
  pk : Nat → Option Addr
  pn : Nat → List Addr
  tb : Tb H0
structure Ow where
  s : Nat → Option Addr
  n : Nat → List Addr := fun _ => []
instance : CoeFun Ow (fun _ => Nat → Option Addr) := ⟨Ow.s⟩
abbrev ow0 : Ow := ⟨fun _ => none, fun _ => []⟩
def okA (ow : Ow) : Ok := fun a => (∀ i, ow i ≠ some a) ∧ ∀ i, a ∉ ow.n i
structure Rel (K : PySem.W.Frag) (fl : List Fl) (G : Gh) (ow : Ow) (σ : St) (H : Hp) (δ : DS) : Prop where
  s0 : Same G.H0 G.HF
  s1 : Same G.HF H
  len : σ.length = δ.length
  own : ∀ i a, ow i = some a → G.H0 a = none ∧ ((fl[i]? = some .O ∧ G.HF a = none) ∨ (fl[i]? = some .L ∧ ∃ xs, G.HF a = some (.lst xs))) ∧
    ∃ xs ds, σ[i]? = some (some (.ref a)) ∧ H a = some (.lst xs) ∧ RAs K (okA ow) true H xs ds ∧ δ[i]? = some (some (.d (.list ds)))
  inj : ∀ i j a, ow i = some a → ow j = some a → i = j
  pin : ∀ i, fl[i]? = some .L → ow i = G.pk i
  dat : ∀ i d, δ[i]? = some (some (.d d)) → isN fl[i]? = false → ow i = none → ∃ v, σ[i]? = some (some v) ∧ RA K (okA ow) true H v d
  oo : ∀ i d, δ[i]? = some (some (.d d)) → isN fl[i]? = false → fl[i]? ≠ some .A → ow i = none → flat d = true
  nt : ∀ i a, a ∈ ow.n i → G.H0 a = none ∧ Chd (H a) ∧ ((fl[i]? = some .N ∧ G.HF a = none) ∨ fl[i]? = some .M)
  nd : ∀ i j a, a ∈ ow.n i → a ∈ ow.n j → i = j
  ns : ∀ i j a, a ∈ ow.n i → ow j ≠ some a
  np : ∀ i, fl[i]? = some .M → ow.n i = G.pn i
  nr : ∀ i d, isN fl[i]? = true → δ[i]? = some (some (.d d)) → ∃ v, σ[i]? = some (some v) ∧ RT K H v d (ow.n i) ∧ (ow.n i).Nodup
theorem Rel.tb {K : PySem.W.Frag} {fl : List Fl} {G : Gh} {ow : Ow} {σ : St} {H : Hp} {δ : DS} (R : Rel K fl G ow σ H δ) : Tb H := G.tb.same (R.s0.trans R.s1)
theorem Rel.same0 {K : PySem.W.Frag} {fl : List Fl} {G : Gh} {ow : Ow} {σ : St} {H : Hp} {δ : DS} (R : Rel K fl G ow σ H δ) : Same G.H0 H := R.s0.trans R.s1
theorem Rel.grow {K : PySem.W.Frag} {fl : List Fl} {G : Gh} {ow : Ow} {σ : St} {H H' : Hp} {δ : DS} (R : Rel K fl G ow σ H δ) (e : Same H H') : Rel K fl G ow σ H' δ :=
  ⟨R.s0, R.s1.trans e, R.len, fun i a h => by
    obtain ⟨h0, hf, xs, ds, h1, h2, h3, h4⟩ := R.own i a h
    exact ⟨h0, hf, xs, ds, h1, e _ _ h2, h3.same e, h4⟩, R.inj, R.pin, fun i d h1 hn h2 => by
    obtain ⟨v, h3, h4⟩ := R.dat i d h1 hn h2
    exact ⟨v, h3, h4.same e⟩, R.oo, fun i a h => by
    obtain ⟨h1, h2, h3⟩ := R.nt i a h
    exact ⟨h1, (let ⟨u, z, c⟩ := h2; ⟨u, e _ _ z, c⟩), h3⟩, R.nd, R.ns, R.np, fun i d h1 h2 => by
    obtain ⟨v, h3, h4, h5⟩ := R.nr i d h1 h2
    exact ⟨v, h3, h4.same e, h5⟩⟩
inductive Kd where
  | P
  | B (L : List Nat)
  | A
  | R
  | F
  | C
  | FC
  | T
def ok1 : Ok := fun _ => True
def ok0 : Ok := fun _ => False
def okN (H : Hp) : Ok := fun a => H a = none
def Rs (K : PySem.W.Frag) (H0 : Hp) (ow : Ow) (Hb H : Hp) : Kd → V → D → Prop
  | .P, v, d => RA K ok1 true H v d
  | .B L, v, d => RA K (okA ow) true H v d ∨ ∃ i ∈ L, ∃ a xs ds, ow i = some a ∧ v = .ref a ∧ d = .list ds ∧ H a = some (.lst xs) ∧ RAs K (okA ow) true H xs ds
  | .A, v, d => RA K (okA ow) true H v d
  | .R, v, d => RA K (okN H0) false H v d
  | .F, v, d => (flat d = true ∧ RA K ok0 false H v d) ∨ ∃ a xs ds, v = .ref a ∧ d = .list ds ∧ Hb a = none ∧ H a = some (.lst xs) ∧ RAs K (fun b => okA ow b ∧ b ≠ a) true H xs ds
  | .C, v, d => RA K (okN Hb) false H v d
  | .T, v, d => ∃ as, RT K H v d as ∧ as.Nodup ∧ ∀ a ∈ as, Hb a = none
  | .FC, v, d => (flat d = true ∧ RA K ok0 false H v d) ∨ ∃ a xs ds, v = .ref a ∧ d = .list ds ∧ Hb a = none ∧ H a = some (.lst xs) ∧ RAs K (fun b => okN Hb b ∧ b ≠ a) false H xs ds
section
variable {K : PySem.W.Frag} {Hb H H' : Hp} {fl : List Fl} {G : Gh} {ow : Ow} {σ : St} {δ : DS} {v : V} {d : D}
theorem okA_new (R : Rel K fl G ow σ Hb δ) {a : Addr} (h : Hb a = none) : okA ow a := ⟨fun i e => (by
  obtain ⟨_, _, xs, _, _, h2, _⟩ := R.own i a e
  rw [h] at h2
  cases h2), fun i e => (R.nt i a e).2.1.ne h⟩
theorem okN_0 (R : Rel K fl G ow σ Hb δ) {a : Addr} (h : Hb a = none) : okN G.H0 a := R.same0.free h
theorem Rs.FC_F (R : Rel K fl G ow σ Hb δ) (h : Rs K G.H0 ow Hb H .FC v d) : Rs K G.H0 ow Hb H .F v d := by
  rcases h with h | ⟨a, xs, ds, h1, h2, h3, h4, h5⟩
  · exact .inl h
  · exact .inr ⟨a, xs, ds, h1, h2, h3, h4, h5.imp (fun b z => ⟨okA_new R z.1, z.2⟩) (fun _ => rfl)⟩
theorem Rs.FC_C (h : Rs K G.H0 ow Hb H .FC v d) : Rs K G.H0 ow Hb H .C v d := by
  rcases h with h | ⟨a, xs, ds, rfl, rfl, h3, h4, h5⟩
  · exact RA.flat h.1 h.2
  · exact .lst h4 h3 (h5.imp (fun b z => z.1) (fun z => z))
theorem Rs.F_A (R : Rel K fl G ow σ Hb δ) (h : Rs K G.H0 ow Hb H .F v d) : Rs K G.H0 ow Hb H .A v d := by
  rcases h with h | ⟨a, xs, ds, rfl, rfl, h3, h4, h5⟩
  · exact RA.flat h.1 h.2
  · exact .lst h4 (okA_new R h3) (h5.imp (fun b z => z.1) (fun z => z))
theorem Rs.C_A (R : Rel K fl G ow σ Hb δ) (h : Rs K G.H0 ow Hb H .C v d) : Rs K G.H0 ow Hb H .A v d := RA.imp (fun _ z => okA_new R z) (fun _ => rfl) h
theorem Rs.C_R (R : Rel K fl G ow σ Hb δ) (h : Rs K G.H0 ow Hb H .C v d) : Rs K G.H0 ow Hb H .R v d := RA.imp (fun _ z => okN_0 R z) (fun z => z) h
theorem Rs.A_B (L : List Nat) (h : Rs K G.H0 ow Hb H .A v d) : Rs K G.H0 ow Hb H (.B L) v d := .inl h
theorem Rs.B_P {L : List Nat} (h : Rs K G.H0 ow Hb H (.B L) v d) : Rs K G.H0 ow Hb H .P v d := by
  rcases h with h | ⟨i, _, a, xs, ds, _, rfl, rfl, h4, h5⟩
  · exact RA.imp (fun _ _ => trivial) (fun z => z) h
  · exact .lst h4 trivial (h5.imp (fun _ _ => trivial) (fun z => z))
theorem Rs.P_flat (hf : flat d = true) (h : Rs K G.H0 ow Hb H .P v d) : Rs K G.H0 ow Hb H .FC v d := .inl ⟨hf, RA.flat hf h⟩
theorem Rs.C_fl1 (hf : fl1 d = true) (h : Rs K G.H0 ow Hb H .C v d) : Rs K G.H0 ow Hb H .FC v d := by
  by_cases e : ∃ ds, d = .list ds
  · obtain ⟨ds, rfl⟩ := e
    cases h with
    | lst e k q => exact .inr ⟨_, _, _, rfl, rfl, k, e, RAs.flat hf q⟩
    | lsk e k q => cases k
  · have hf' : flat d = true := by
      cases d <;> first | exact hf | exact absurd ⟨_, rfl⟩ e
    exact .inl ⟨hf', RA.flat hf' h⟩
end
def tD (K : PySem.W.Frag) (fl : List Fl) (k : Kd) (f : FE) : TE := fun σ H Q => ∃ G ow δ d, Rel K fl G ow σ H δ ∧ f δ = some d ∧ ∀ v H', Same H H' → Rs K G.H0 ow H H' k v d → Q v H'
abbrev DE (X : Cx) (fl : List Fl) (k : Kd) (e : Expr) (f : FE) : Prop := PE X e (tD X.K fl k f)
def tDA (K : PySem.W.Frag) (fl : List Fl) (f : FA) : TA := fun σ H Q => ∃ G ow δ ds, Rel K fl G ow σ H δ ∧ f δ = some ds ∧ ∀ vs H', Same H H' → RAs K ok1 true H' vs ds → Q vs H'
abbrev DA (X : Cx) (fl : List Fl) (es : List Expr) (f : FA) : Prop := PA X es (tDA X.K fl f)
def tDT (K : PySem.W.Frag) (fl : List Fl) (f : FT) : TT := fun σ H Q => ∃ G ow δ b, Rel K fl G ow σ H δ ∧ f δ = some b ∧ ∀ H', Same H H' → Q b H'
abbrev DT (X : Cx) (fl : List Fl) (e : Expr) (f : FT) : Prop := PT X e (tDT X.K fl f)
abbrev DW (X : Cx) (fl : List Fl) (e : Expr) (f : FT) : Prop := PW X e (tDT X.K fl f)
def EndD (K : PySem.W.Frag) (fl : List Fl) (G : Gh) (Dn : Ends) : Oc → Prop
  | .nx δ' => ∀ ow' σ' H', Rel K fl G ow' σ' H' δ' → Dn.nx σ' H'
  | .rt d => ∀ v H', Same G.H0 H' → RA K (okN G.H0) false H' v d → Dn.rt v H'
  | .bk δ' => ∀ ow' σ' H', Rel K fl G ow' σ' H' δ' → Dn.bk σ' H'
  | .ct δ' => ∀ ow' σ' H', Rel K fl G ow' σ' H' δ' → Dn.ct σ' H'
  | .ex _ _ d => ∀ v H', Same G.H0 H' → RA K ok1 true H' v d → Dn.rt v H'
def tDS (K : PySem.W.Frag) (fl : List Fl) (f : FS) : TS := fun Dn σ H => ∃ G ow δ o, Rel K fl G ow σ H δ ∧ f δ = some o ∧ EndD K fl G Dn o
abbrev DS1 (X : Cx) (fl : List Fl) (s : Stmt) (f : FS) : Prop := PS X s (tDS X.K fl f)
abbrev DSs (X : Cx) (fl : List Fl) (s : List Stmt) (f : FS) : Prop := PSs X s (tDS X.K fl f)
def tDG (K : PySem.W.Frag) (fl : List Fl) (tg : List Nat) (g : FG) : TG := fun v σ H Q => ∃ G ow δ d δ', Rel K fl G ow σ H δ ∧ RA K (okA ow) true H v d ∧ g d δ = some δ' ∧ ∀ σ', Rel K fl G ow σ' H δ' → (∀ j, j ∉ tg → σ'[j]? = σ[j]?) → Q σ' H
abbrev DG (X : Cx) (fl : List Fl) (tg : List Nat) (e : Expr) (g : FG) : Prop := PG X e (tDG X.K fl tg g)
section
variable {X : Cx} {e : Expr} {es : List Expr} {st : Stmt} {sts : List Stmt}
theorem PE.imp {t t' : TE} (h : PE X e t) (i : ∀ σ H Q, t' σ H Q → t σ H Q) : PE X e t' := fun pins s σ H Q I q => h pins s σ H Q I (i σ H Q q)
theorem PT.imp {t t' : TT} (h : PT X e t) (i : ∀ σ H Q, t' σ H Q → t σ H Q) : PT X e t' := fun pins s σ H Q I q => h pins s σ H Q I (i σ H Q q)
theorem PW.imp {t t' : TT} (h : PW X e t) (i : ∀ σ H Q, t' σ H Q → t σ H Q) : PW X e t' := fun w pins s σ H Q I q => h w pins s σ H Q I (i σ H Q q)
theorem PA.imp {t t' : TA} (h : PA X es t) (i : ∀ σ H Q, t' σ H Q → t σ H Q) : PA X es t' := fun p pins s σ H Q I q => h p pins s σ H Q I (i σ H Q q)
theorem PS.imp {t t' : TS} (h : PS X st t) (i : ∀ D σ H, t' D σ H → t D σ H) : PS X st t' := fun pins s σ H D I q => h pins s σ H D I (i D σ H q)
theorem PSs.imp {t t' : TS} (h : PSs X sts t) (i : ∀ D σ H, t' D σ H → t D σ H) : PSs X sts t' := fun pins s σ H D I q => h pins s σ H D I (i D σ H q)
theorem PG.imp {t t' : TG} (h : PG X e t) (i : ∀ v σ H Q, t' v σ H Q → t v σ H Q) : PG X e t' := fun pins s σ H v u Q I r q => h pins s σ H v u Q I r (i v σ H Q q)
end
end D3
namespace D3
open PySem PySem.Spec PyProof.Rows L2 My
section
variable {X : Cx} {fl : List Fl} {e a b c : Expr} {es : List Expr} {k : Kd} {f fa fb fc : FE} {pos : Pos}
theorem dVar_eq {i : Nat} {δ : DS} {d : D} (h : dVar i δ = some d) : δ[i]? = some (some (.d d)) := by
  unfold dVar at h
  split at h
  · next x e => rw [e]; cases h; rfl
  · cases h
theorem de_var (i : Nat) {x : Str} (hN : X.N[i]? = some x := by rfl) (hv : Vis X.env.scope x := by first | exact Or.inl rfl | exact Or.inr (Or.inl rfl) | exact Or.inr (Or.inr rfl)) (hd : (x == ("__debug__" : Str)) = false := by decide)
    (hcd : (x == ("__classdict__" : Str)) = false := by decide) (hn : isN fl[i]? = false := by rfl) : DE X fl (.B [i]) (.Name x pos) (dVar i) := by
  refine PE.imp (pe_var hN hv hd hcd) fun σ H Q h => ?_
  obtain ⟨G, ow, δ, d, R, hf, q⟩ := h
  have e := dVar_eq hf
  cases ho : ow i with
  | none =>
    obtain ⟨v, h1, h2⟩ := R.dat i d e hn ho
    exact ⟨v, h1, q v H (Same.refl H) (.inl h2)⟩
  | some a =>
    obtain ⟨h0, _, xs, ds, h1, h2, h3, h4⟩ := R.own i a ho
    rw [e] at h4
    cases h4
    exact ⟨_, h1, q _ H (Same.refl H) (.inr ⟨i, List.mem_singleton.mpr rfl, a, xs, ds, ho, rfl, rfl, h2, h3⟩)⟩
theorem de_varA (i : Nat) (hfl : fl[i]? = some .A) {x : Str} (hN : X.N[i]? = some x := by rfl) (hv : Vis X.env.scope x := by first | exact Or.inl rfl | exact Or.inr (Or.inl rfl) | exact Or.inr (Or.inr rfl)) (hd : (x == ("__debug__" : Str)) = false := by decide)
    (hcd : (x == ("__classdict__" : Str)) = false := by decide) : DE X fl .A (.Name x pos) (dVar i) := by
  refine PE.imp (pe_var hN hv hd hcd) fun σ H Q h => ?_
  obtain ⟨G, ow, δ, d, R, hf, q⟩ := h
  have e := dVar_eq hf
  cases ho : ow i with
  | none =>
    obtain ⟨v, h1, h2⟩ := R.dat i d e (by rw [hfl]; rfl) ho
    exact ⟨v, h1, q v H (Same.refl H) h2⟩
  | some a =>
    obtain ⟨h0, hz, _⟩ := R.own i a ho
    rw [hfl] at hz
    rcases hz with ⟨z, _⟩ | ⟨z, _⟩ <;> cases z
theorem de_varR (i : Nat) (hfl : fl[i]? ≠ some .A) {x : Str} (hN : X.N[i]? = some x := by rfl) (hv : Vis X.env.scope x := by first | exact Or.inl rfl | exact Or.inr (Or.inl rfl) | exact Or.inr (Or.inr rfl)) (hd : (x == ("__debug__" : Str)) = false := by decide)
    (hcd : (x == ("__classdict__" : Str)) = false := by decide) (hn : isN fl[i]? = false := by rfl) : DE X fl .R (.Name x pos) (dFl1 (dVar i)) := by
  refine PE.imp (pe_var hN hv hd hcd) fun σ H Q h => ?_
  obtain ⟨G, ow, δ, d, R, hf, q⟩ := h
  unfold dFl1 at hf
  cases hv' : dVar i δ with
  | none => rw [hv'] at hf; cases hf
  | some d' =>
    rw [hv', Option.bind_some] at hf
    by_cases hc : fl1 d' = true
    · rw [if_pos hc] at hf
      cases hf
      have e := dVar_eq hv'
      cases ho : ow i with
      | none =>
        obtain ⟨v, h1, h2⟩ := R.dat i d e hn ho
        exact ⟨v, h1, q v H (Same.refl H) (RA.flat (R.oo i d e hn hfl ho) h2)⟩
      | some a =>
        obtain ⟨h0, _, xs, ds, h1, h2, h3, h4⟩ := R.own i a ho
        rw [e] at h4
        cases h4
        exact ⟨_, h1, q _ H (Same.refl H) (.lst h2 h0 (RAs.flat hc h3))⟩
    · rw [if_neg hc] at hf
      cases hf
theorem de_cast {k k' : Kd} (h : DE X fl k e f) (hc : ∀ (Hb H : Hp) (G : Gh) (ow : Ow) (σ : St) (δ : DS) (v : V) (d : D), Rel X.K fl G ow σ Hb δ → Rs X.K G.H0 ow Hb H k v d → Rs X.K G.H0 ow Hb H k' v d) : DE X fl k' e f := by
  refine PE.imp h fun σ H Q h => ?_
  obtain ⟨G, ow, δ, d, R, hf, q⟩ := h
  exact ⟨G, ow, δ, d, R, hf, fun v H' s r => q v H' s (hc _ _ G ow σ δ v d R r)⟩
theorem de_guard {k k' : Kd} {p : D → Bool} (h : DE X fl k e f) (hc : ∀ (Hb H : Hp) (G : Gh) (ow : Ow) (σ : St) (δ : DS) (v : V) (d : D), p d = true → Rel X.K fl G ow σ Hb δ → Rs X.K G.H0 ow Hb H k v d → Rs X.K G.H0 ow Hb H k' v d) :
    DE X fl k' e (fun δ => (f δ).bind fun d => if p d = true then some d else none) := by
  refine PE.imp h fun σ H Q h => ?_
  obtain ⟨G, ow, δ, d, R, hf, q⟩ := h
  dsimp only at hf
  cases hv : f δ with
  | none => rw [hv] at hf; cases hf
  | some d' =>
    rw [hv, Option.bind_some] at hf
    by_cases hp : p d' = true
    · rw [if_pos hp] at hf
      cases hf
      exact ⟨G, ow, δ, d, R, hv, fun v H' s r => q v H' s (hc _ _ G ow σ δ v d hp R r)⟩
    · rw [if_neg hp] at hf
      cases hf
theorem c_FC_F (h : DE X fl .FC e f) : DE X fl .F e f := de_cast h fun _ _ _ _ _ _ _ _ R r => r.FC_F R
theorem c_FC_C (h : DE X fl .FC e f) : DE X fl .C e f := de_cast h fun _ _ _ _ _ _ _ _ R r => r.FC_C
theorem c_F_A (h : DE X fl .F e f) : DE X fl .A e f := de_cast h fun _ _ _ _ _ _ _ _ R r => r.F_A R
theorem c_C_A (h : DE X fl .C e f) : DE X fl .A e f := de_cast h fun _ _ _ _ _ _ _ _ R r => r.C_A R
theorem c_C_R (h : DE X fl .C e f) : DE X fl .R e f := de_cast h fun _ _ _ _ _ _ _ _ R r => r.C_R R
theorem c_A_B (h : DE X fl .A e f) : DE X fl (.B []) e f := de_cast h fun _ _ _ _ _ _ _ _ R r => Rs.A_B [] r
theorem c_B_P {L : List Nat} (h : DE X fl (.B L) e f) : DE X fl .P e f := de_cast h fun _ _ _ _ _ _ _ _ R r => r.B_P
theorem c_flat (h : DE X fl .P e f) : DE X fl .FC e (dFlat f) := de_guard h fun _ _ _ _ _ _ _ _ hf R r => r.P_flat hf
theorem c_Cfl1 (h : DE X fl .C e f) : DE X fl .FC e (dFl1 f) := de_guard h fun _ _ _ _ _ _ _ _ hf R r => r.C_fl1 hf
theorem c_FC_A (h : DE X fl .FC e f) : DE X fl .A e f := c_F_A (c_FC_F h)
theorem c_FC_R (h : DE X fl .FC e f) : DE X fl .R e f := c_C_R (c_FC_C h)
theorem c_A_P (h : DE X fl .A e f) : DE X fl .P e f := c_B_P (c_A_B h)
theorem c_C_P (h : DE X fl .C e f) : DE X fl .P e f := c_A_P (c_C_A h)
theorem c_FC_P (h : DE X fl .FC e f) : DE X fl .P e f := c_A_P (c_FC_A h)
theorem c_F_P (h : DE X fl .F e f) : DE X fl .P e f := c_A_P (c_F_A h)
theorem de_cst {v : V} {d : D} (h : PE X e (tC v)) (hf : flat d = true) (hr : ∀ H, RA X.K ok0 false H v d) : DE X fl .FC e (dC d) := by
  refine PE.imp h fun σ H Q h => ?_
  obtain ⟨G, ow, δ, d', R, hd, q⟩ := h
  cases hd
  exact q v H (Same.refl H) (.inl ⟨hf, hr H⟩)
theorem de_int {i j pos} : DE X fl .FC (.Constant (.int i) j pos) (dC (.int i)) := de_cst pe_int rfl fun _ => .int _
theorem de_bl {b j pos} : DE X fl .FC (.Constant (.bool b) j pos) (dC (.bool b)) := de_cst pe_bl rfl fun _ => .bl _
theorem de_non {j pos} : DE X fl .FC (.Constant .none j pos) (dC .none) := de_cst pe_non rfl fun _ => .non
theorem de_str {x j pos} : DE X fl .FC (.Constant (.str x) j pos) (dC (.str x)) := de_cst pe_str rfl fun _ => .str _
def BrO (K : PySem.W.Frag) (r : R2) (g : D → D → Option D) : Prop := ∀ (H : Hp) (x y : V) (dx dy d : D) (Q : VK), RA K ok1 true H x dx → RA K ok1 true H y dy → g dx dy = some d → (∀ v, flat d = true → RA K ok0 false H v d → Q v H) → r x y H Q
theorem bind2 {fa fb : FE} {g : D → D → Option D} {δ : DS} {d : D} (h : dOp g fa fb δ = some d) : ∃ x y, fa δ = some x ∧ fb δ = some y ∧ g x y = some d := by
  unfold dOp at h
  cases ha : fa δ with
  | none => rw [ha] at h; cases h
  | some x =>
    rw [ha, Option.bind_some] at h
    cases hb : fb δ with
    | none => rw [hb] at h; cases h
    | some y =>
      rw [hb, Option.bind_some] at h
      exact ⟨x, y, rfl, rfl, h⟩
theorem bind1 {α β : Type} {x : Option α} {g : α → Option β} {d : β} (h : x.bind g = some d) : ∃ y, x = some y ∧ g y = some d := by
  cases x with
  | none => cases h
  | some y => exact ⟨y, rfl, h⟩
theorem op_bridge {r : R2} {g : D → D → Option D} {σ : St} {H : Hp} {Q : VK} (hb : BrO X.K r g) (h : tD X.K fl .FC (dOp g fa fb) σ H Q) : tOp r (tD X.K fl .P fa) (tD X.K fl .P fb) σ H Q := by
  obtain ⟨G, ow, δ, d, R, hf, q⟩ := h
  obtain ⟨x, y, e1, e2, e3⟩ := bind2 hf
  refine ⟨G, ow, δ, x, R, e1, fun v H1 s1 r1 => ⟨G, ow, δ, y, R.grow s1, e2, fun u H2 s2 r2 => ?_⟩⟩
  exact hb H2 v u x y d Q (RA.same s2 r1) r2 e3 fun z hz rz => q z H2 (s1.trans s2) (.inl ⟨hz, rz⟩)
theorem de_op {op : Operator} {r : R2} {g : D → D → Option D} (ho : OpR X (binaryOp op) r) (hb : BrO X.K r g) (h1 : DE X fl .P a fa) (h2 : DE X fl .P b fb) : DE X fl .FC (.BinOp a op b pos) (dOp g fa fb) :=
  PE.imp (pe_op ho h1 h2) fun _ _ _ h => op_bridge hb h
theorem de_cmp {op : CmpOp} {r : R2} {g : D → D → Option D} (ho : OpR X (compareOp op) r) (hb : BrO X.K r g) (h1 : DE X fl .P a fa) (h2 : DE X fl .P b fb) (hm : behindInMarks op b = false) : DE X fl .FC (.Compare a [op] [b] pos) (dOp g fa fb) :=
  PE.imp (pe_cmpR ho h1 h2 hm) fun _ _ _ h => op_bridge hb h
theorem dt_cmp {op : CmpOp} {r : R2} {g : D → D → Option D} (ho : OpR X (compareOp op) r) (hb : BrO X.K r g) (h1 : DE X fl .P a fa) (h2 : DE X fl .P b fb) (hm : behindInMarks op b = false) : DT X fl (.Compare a [op] [b] pos) (tBool (dOp g fa fb)) := by
  refine PT.imp (pt_cmpR ho h1 h2 hm) fun σ H Q h => ?_
  obtain ⟨G, ow, δ, c, R, hf, q⟩ := h
  obtain ⟨d, e1, e2⟩ := bind1 hf
  cases d <;> first | (cases e2; done) | skip
  cases e2
  refine op_bridge (fl := fl) (fa := fa) (fb := fb) hb ⟨G, ow, δ, _, R, e1, fun v H' s r => ?_⟩
  obtain rfl := (Rs.FC_C r).blE
  exact ⟨_, rfl, q H' s⟩
theorem dt_val (h : DE X fl .P e f) (he : ∀ whole, isTrue e X.env whole = (do let v ← whole; standAt e.pos; holding [v] (truthy v)) := by intro _; rfl) : DT X fl e (tBool f) := by
  refine PT.imp (pt_val h he) fun σ H Q h => ?_
  obtain ⟨G, ow, δ, c, R, hf, q⟩ := h
  obtain ⟨d, e1, e2⟩ := bind1 hf
  cases d <;> first | (cases e2; done) | skip
  cases e2
  refine ⟨G, ow, δ, _, R, e1, fun v H' s r => ?_⟩
  obtain rfl := RA.blE r
  exact ⟨_, rfl, q H' s⟩
theorem br_I0 {K : PySem.W.Frag} {h : Int → Int → V} {g : Int → Int → D} (hf : ∀ i j, flat (g i j) = true) (hr : ∀ H i j, RA K ok0 false H (h i j) (g i j)) : BrO K (rI0 h) (gI fun i j => some (g i j)) := by
  intro H x y dx dy d Q rx ry e q
  unfold gI at e
  split at e
  · next i j =>
    cases e
    exact ⟨i, j, rx.intE, ry.intE, q _ (hf i j) (hr H i j)⟩
  · cases e
theorem br_I {K : PySem.W.Frag} {C : Int → Int → Prop} {h : Int → Int → V} {g : Int → Int → D} {c : Int → Int → Bool} (hc : ∀ i j, c i j = true → C i j) (hf : ∀ i j, flat (g i j) = true) (hr : ∀ H i j, RA K ok0 false H (h i j) (g i j)) :
    BrO K (rI C h) (gI fun i j => if c i j = true then some (g i j) else none) := by
  intro H x y dx dy d Q rx ry e q
  unfold gI at e
  split at e
  · next i j =>
    dsimp only at e
    by_cases z : c i j = true
    · rw [if_pos z] at e
      cases e
      exact ⟨i, j, rx.intE, ry.intE, hc i j z, q _ (hf i j) (hr H i j)⟩
    · rw [if_neg z] at e
      cases e
  · cases e
end
section
variable {X : Cx} {K : PySem.W.Frag}
theorem mulG_ok {i j : Int} (h : mulG i j = true) : IntMulOk i j := by
  unfold mulG at h
  rw [Bool.or_eq_true, Bool.or_eq_true, Bool.and_eq_true] at h
  rcases h with (h | h) | ⟨h1, h2⟩
  · exact IntMulOk.of_left (PySem.intBits_le_iff.mpr (of_decide_eq_true h))
  · exact IntMulOk.of_right (PySem.intBits_le_iff.mpr (of_decide_eq_true h))
  · exact PySem.IntMulOk.of_le (PySem.intBits_le_iff.mpr (of_decide_eq_true h1)) (PySem.intBits_le_iff.mpr (of_decide_eq_true h2)) (by decide)
theorem op_mulG : OpR X (binaryOp .Mult) (rI (fun i j => mulG i j = true) fun i j => .int (i * j)) := opI fun _ _ _ _ _ _ _ hc q => mul_int q (mulG_ok hc)
theorem op_divG : OpR X (binaryOp .FloorDiv) (rI (fun i j => divG i j = true) fun i j => .int (i.fdiv j)) := opI fun i j _ _ _ _ _ hc q => by
  unfold divG at hc
  rw [Bool.and_eq_true] at hc
  have h1 := of_decide_eq_true hc.1
  have h2 := of_decide_eq_true hc.2
  refine floordiv_int h1 q (.inl (PyProof.noPylong_of_log2 ?_))
  exact (Nat.log2_lt (by omega)).mpr h2
theorem powG_ok {i j : Int} (h : powG i j = true) : CPow i j := by
  unfold powG at h
  rw [Bool.and_eq_true, Bool.and_eq_true] at h
  have h1 := of_decide_eq_true h.1.1
  have h2 := of_decide_eq_true h.1.2
  exact ⟨h1, by omega, of_decide_eq_true h.2⟩
theorem b_add : BrO K (rI0 fun i j => .int (i + j)) gAdd := br_I0 (fun _ _ => rfl) fun _ _ _ => .int _
theorem b_sub : BrO K (rI0 fun i j => .int (i - j)) gSub := br_I0 (fun _ _ => rfl) fun _ _ _ => .int _
theorem b_mul : BrO K (rI (fun i j => mulG i j = true) fun i j => .int (i * j)) gMul := br_I (fun _ _ h => h) (fun _ _ => rfl) fun _ _ _ => .int _
theorem b_div : BrO K (rI (fun i j => divG i j = true) fun i j => .int (i.fdiv j)) gDiv := br_I (fun _ _ h => h) (fun _ _ => rfl) fun _ _ _ => .int _
theorem b_mod : BrO K (rI (fun _ j => j ≠ 0) fun i j => .int (i.fmod j)) gMod := br_I (fun _ _ h => of_decide_eq_true h) (fun _ _ => rfl) fun _ _ _ => .int _
theorem b_pow : BrO K (rI CPow fun i j => .int (i ^ j.toNat)) gPow := br_I (fun _ _ h => powG_ok h) (fun _ _ => rfl) fun _ _ _ => .int _
theorem b_lt : BrO K (rI0 fun i j => .bl (decide (i < j))) gLt := br_I0 (fun _ _ => rfl) fun _ _ _ => .bl _
theorem b_le : BrO K (rI0 fun i j => .bl (decide (i ≤ j))) gLe := br_I0 (fun _ _ => rfl) fun _ _ _ => .bl _
theorem b_gt : BrO K (rI0 fun i j => .bl (decide (j < i))) gGt := br_I0 (fun _ _ => rfl) fun _ _ _ => .bl _
theorem b_ge : BrO K (rI0 fun i j => .bl (decide (j ≤ i))) gGe := br_I0 (fun _ _ => rfl) fun _ _ _ => .bl _
theorem b_eq : BrO K (rEqD K) gEq := by
  intro H x y dx dy d Q rx ry e q
  unfold gEq at e
  by_cases z : (SeqAt.shaped dx && SeqAt.shaped dy) = true
  · rw [if_pos z] at e
    cases e
    rw [Bool.and_eq_true] at z
    exact ⟨dx, dy, rx.rd (SeqAt.canLay_of_shaped z.1), ry.rd (SeqAt.canLay_of_shaped z.2), z.1, z.2, q _ rfl (.bl _)⟩
  · rw [if_neg z] at e
    cases e
theorem b_ne : BrO K (rNeD K) gNe := by
  intro H x y dx dy d Q rx ry e q
  unfold gNe at e
  by_cases z : (SeqAt.shaped dx && SeqAt.shaped dy) = true
  · rw [if_pos z] at e
    cases e
    rw [Bool.and_eq_true] at z
    exact ⟨dx, dy, rx.rd (SeqAt.canLay_of_shaped z.1), ry.rd (SeqAt.canLay_of_shaped z.2), z.1, z.2, q _ rfl (.bl _)⟩
  · rw [if_neg z] at e
    cases e
end
end D3
namespace D3
open PySem PySem.Spec PyProof.Rows L2 My
section
variable {X : Cx} {fl : List Fl} {e a b c : Expr} {es : List Expr} {st : Stmt} {sts body orelse : List Stmt} {k : Kd} {f fa fb fc : FE} {fs gs : FS} {ft gt : FT} {pos : Pos}
theorem EndD.nx_imp {K : PySem.W.Frag} {G : Gh} {Dn : Ends} {N : St → Hp → Prop} {o : Oc} (h : EndD K fl G Dn o) (hn : ∀ δ', o ≠ .nx δ') : EndD K fl G { Dn with nx := N } o := by
  cases o with
  | nx δ' => exact absurd rfl (hn δ')
  | rt d => exact h
  | bk δ' => exact h
  | ct δ' => exact h
  | ex c f v => exact h
theorem dss_nil : DSs X fl [] sNil := PSs.imp pss_nil fun Dn σ H h => by
  obtain ⟨G, ow, δ, o, R, hf, q⟩ := h
  cases hf
  exact q ow σ H R
theorem dss_cons (h1 : DS1 X fl st fs) (h2 : DSs X fl sts gs) : DSs X fl (st :: sts) (sSeq fs gs) := PSs.imp (pss_cons h1 h2) fun Dn σ H h => by
  obtain ⟨G, ow, δ, o, R, hf, q⟩ := h
  obtain ⟨o1, e1, e2⟩ := bind1 hf
  refine ⟨G, ow, δ, o1, R, e1, ?_⟩
  cases o1 with
  | nx δ' => exact fun ow' σ' H' R' => ⟨G, ow', δ', o, R', e2, q⟩
  | rt d => cases e2; exact EndD.nx_imp q (fun _ z => by cases z)
  | bk d => cases e2; exact EndD.nx_imp q (fun _ z => by cases z)
  | ct d => cases e2; exact EndD.nx_imp q (fun _ z => by cases z)
  | ex c f v => cases e2; exact q
theorem dss_one (h1 : DS1 X fl st fs) : DSs X fl [st] fs := PSs.imp (pss_one h1) fun _ _ _ h => h
theorem ds_ret (h : DE X fl .R e f) : DS1 X fl (.Return (some e) pos) (sRet f) := PS.imp (ps_ret h) fun Dn σ H h => by
  obtain ⟨G, ow, δ, o, R, hf, q⟩ := h
  obtain ⟨d, e1, e2⟩ := bind1 hf
  cases e2
  exact ⟨G, ow, δ, d, R, e1, fun v H' s r => q v H' (R.same0.trans s) r⟩
theorem ds_if (hc : DT X fl c ft) (h1 : DSs X fl body fs) (h2 : DSs X fl orelse gs) : DS1 X fl (.If c body orelse pos) (sIf ft fs gs) := PS.imp (ps_if hc h1 h2) fun Dn σ H h => by
  obtain ⟨G, ow, δ, o, R, hf, q⟩ := h
  obtain ⟨t, e1, e2⟩ := bind1 hf
  refine ⟨G, ow, δ, t, R, e1, fun H' s => ?_⟩
  cases t with
  | true => exact iteT ⟨G, ow, δ, o, R.grow s, e2, q⟩
  | false => exact iteF ⟨G, ow, δ, o, R.grow s, e2, q⟩
theorem set_get {α : Type} {l : List (Option α)} {i j : Nat} {x y : α} (h : (l.set i (some x))[j]? = some (some y)) : (j = i ∧ x = y) ∨ (j ≠ i ∧ l[j]? = some (some y)) := by
  rw [List.getElem?_set] at h
  by_cases e : i = j
  · subst e
    rw [if_pos rfl] at h
    by_cases z : i < l.length
    · rw [if_pos z] at h
      cases h
      exact .inl ⟨rfl, rfl⟩
    · rw [if_neg z] at h
      cases h
  · rw [if_neg e] at h
    exact .inr ⟨fun z => e z.symm, h⟩
theorem Rel.setA {K : PySem.W.Frag} {G : Gh} {ow : Ow} {σ : St} {H : Hp} {δ : DS} {i : Nat} {v : V} {d : D} (R : Rel K fl G ow σ H δ) (hfl : fl[i]? = some .A) (hi : i < σ.length) (r : RA K (okA ow) true H v d) :
    Rel K fl G ow (σ.set i (some v)) H (δ.set i (some (.d d))) := by
  have no : ∀ a, ow i ≠ some a := fun a z => by
    obtain ⟨_, hz, _⟩ := R.own i a z
    rw [hfl] at hz
    rcases hz with ⟨z, _⟩ | ⟨z, _⟩ <;> cases z
  refine ⟨R.s0, R.s1, by rw [List.length_set, List.length_set]; exact R.len, fun j a h => ?_, R.inj, R.pin, fun j d' h1 hn h2 => ?_, fun j d' h1 hn h2 h3 => ?_, R.nt, R.nd, R.ns, R.np, fun j d' hn h1 => ?_⟩
  · have hj : j ≠ i := fun z => no a (z ▸ h)
    obtain ⟨h0, hf, xs, ds, h1, h2, h3, h4⟩ := R.own j a h
    exact ⟨h0, hf, xs, ds, by rw [List.getElem?_set_ne (Ne.symm hj)]; exact h1, h2, h3, by rw [List.getElem?_set_ne (Ne.symm hj)]; exact h4⟩
  · rcases set_get h1 with ⟨rfl, e⟩ | ⟨hj, e⟩
    · cases e
      exact ⟨v, by rw [List.getElem?_set_self hi], r⟩
    · obtain ⟨v', h3, h4⟩ := R.dat j d' e hn h2
      exact ⟨v', by rw [List.getElem?_set_ne (Ne.symm hj)]; exact h3, h4⟩
  · rcases set_get h1 with ⟨rfl, e⟩ | ⟨hj, e⟩
    · exact absurd hfl h2
    · exact R.oo j d' e hn h2 h3
  · rcases set_get h1 with ⟨rfl, e⟩ | ⟨hj, e⟩
    · rw [hfl] at hn; cases hn
    · obtain ⟨v', h3, h4⟩ := R.nr j d' hn e
      exact ⟨v', by rw [List.getElem?_set_ne (Ne.symm hj)]; exact h3, h4⟩
def owSet (ow : Ow) (i : Nat) (a : Option Addr) : Ow := ⟨fun j => if j = i then a else ow j, ow.n⟩
theorem owSet_eq {ow : Ow} {i : Nat} {a : Option Addr} : owSet ow i a i = a := if_pos rfl
theorem owSet_ne {ow : Ow} {i j : Nat} {a : Option Addr} (h : j ≠ i) : owSet ow i a j = ow j := if_neg h
theorem Rel.setO {K : PySem.W.Frag} {G : Gh} {ow : Ow} {σ : St} {H H' : Hp} {δ : DS} {i : Nat} {v : V} {d : D} (R : Rel K fl G ow σ H δ) (s : Same H H') (hfl : fl[i]? = some .O) (hi : i < σ.length) (r : Rs K G.H0 ow H H' .F v d) :
    ∃ ow', Rel K fl G ow' (σ.set i (some v)) H' (δ.set i (some (.d d))) := by
  have R' := R.grow s
  have sub0 : ∀ b, okA ow b → okA (owSet ow i none) b := fun b z => ⟨fun j e => by
    by_cases hj : j = i
    · subst hj; rw [owSet_eq] at e; cases e
    · rw [owSet_ne hj] at e; exact z.1 j e, z.2⟩
  have nrs : ∀ j d', isN fl[j]? = true → (δ.set i (some (.d d)))[j]? = some (some (.d d')) → ∃ v', (σ.set i (some v))[j]? = some (some v') ∧ RT K H' v' d' (ow.n j) ∧ (ow.n j).Nodup := fun j d' hn h1 => by
    rcases set_get h1 with ⟨rfl, e⟩ | ⟨hj, e⟩
    · rw [hfl] at hn; cases hn
    · obtain ⟨v', h3, h4⟩ := R'.nr j d' hn e
      exact ⟨v', by rw [List.getElem?_set_ne (Ne.symm hj)]; exact h3, h4⟩
  rcases r with ⟨hfd, r⟩ | ⟨a, xs, ds, rfl, rfl, ha, hx, hr⟩
  · refine ⟨owSet ow i none, R'.s0, R'.s1, by rw [List.length_set, List.length_set]; exact R.len, fun j a h => ?_, fun j j' a h h' => ?_, fun j h => ?_, fun j d' h1 hn h2 => ?_, fun j d' h1 hn h2 h3 => ?_, R'.nt, R'.nd, fun j j' a h h' => ?_, R'.np, nrs⟩
    · have hj : j ≠ i := fun z => by subst z; rw [owSet_eq] at h; cases h
      rw [owSet_ne hj] at h
      obtain ⟨h0, hf, xs, ds, h1, h2, h3, h4⟩ := R'.own j a h
      exact ⟨h0, hf, xs, ds, by rw [List.getElem?_set_ne (Ne.symm hj)]; exact h1, h2, h3.imp sub0 (fun z => z), by rw [List.getElem?_set_ne (Ne.symm hj)]; exact h4⟩
    · have hj : j ≠ i := fun z => by subst z; rw [owSet_eq] at h; cases h
      have hj' : j' ≠ i := fun z => by subst z; rw [owSet_eq] at h'; cases h'
      rw [owSet_ne hj] at h
      rw [owSet_ne hj'] at h'
      exact R.inj j j' a h h'
    · have hj : j ≠ i := fun z => by subst z; rw [hfl] at h; cases h
      rw [owSet_ne hj]
      exact R.pin j h
    · rcases set_get h1 with ⟨rfl, e⟩ | ⟨hj, e⟩
      · cases e
        exact ⟨v, by rw [List.getElem?_set_self hi], RA.flat hfd r⟩
      · rw [owSet_ne hj] at h2
        obtain ⟨v', h3, h4⟩ := R'.dat j d' e hn h2
        exact ⟨v', by rw [List.getElem?_set_ne (Ne.symm hj)]; exact h3, h4.imp sub0 (fun z => z)⟩
    · rcases set_get h1 with ⟨rfl, e⟩ | ⟨hj, e⟩
      · cases e
        exact hfd
      · rw [owSet_ne hj] at h3
        exact R.oo j d' e hn h2 h3
    · by_cases hj : j' = i
      · subst hj; rw [owSet_eq] at h'; cases h'
      · rw [owSet_ne hj] at h'; exact R.ns j j' a h h'
  · have sub : ∀ b, okA ow b ∧ b ≠ a → okA (owSet ow i (some a)) b := fun b z => ⟨fun j e => by
      by_cases hj : j = i
      · subst hj; rw [owSet_eq] at e; exact z.2 (Option.some.inj e).symm
      · rw [owSet_ne hj] at e; exact z.1.1 j e, z.1.2⟩
    have old : ∀ {v : V} {d : D}, RA K (okA ow) true H v d → RA K (okA (owSet ow i (some a))) true H' v d := fun r => (r.track.imp (fun b z => sub b ⟨z.1, fun e => z.2 (e ▸ ha)⟩) (fun z => z)).same s
    have olds : ∀ {v : List V} {d : List D}, RAs K (okA ow) true H v d → RAs K (okA (owSet ow i (some a))) true H' v d := fun r => (r.track.imp (fun b z => sub b ⟨z.1, fun e => z.2 (e ▸ ha)⟩) (fun z => z)).same s
    have nota : ∀ j, ow j ≠ some a := fun j z => by
      obtain ⟨_, _, _, _, _, h2, _⟩ := R.own j a z
      rw [ha] at h2
      cases h2
    have hF : G.HF a = none := R.s1.free ha
    refine ⟨owSet ow i (some a), R'.s0, R'.s1, by rw [List.length_set, List.length_set]; exact R.len, fun j b h => ?_, fun j j' b h h' => ?_, fun j h => ?_, fun j d' h1 hn h2 => ?_, fun j d' h1 hn h2 h3 => ?_, R'.nt, R'.nd, fun j j' b h h' => ?_, R'.np, nrs⟩
    · by_cases hj : j = i
      · subst hj
        rw [owSet_eq] at h
        cases h
        exact ⟨R.same0.free ha, .inl ⟨hfl, hF⟩, xs, ds, by rw [List.getElem?_set_self hi], hx, hr.imp sub (fun z => z), by rw [List.getElem?_set_self (by rw [← R.len]; exact hi)]⟩
      · rw [owSet_ne hj] at h
        obtain ⟨h0, hf, ys, ds', h1, h2, h3, h4⟩ := R.own j b h
        exact ⟨h0, hf, ys, ds', by rw [List.getElem?_set_ne (Ne.symm hj)]; exact h1, s _ _ h2, olds h3, by rw [List.getElem?_set_ne (Ne.symm hj)]; exact h4⟩
    · by_cases hj : j = i
      · by_cases hj' : j' = i
        · rw [hj, hj']
        · subst hj
          rw [owSet_eq] at h
          cases h
          rw [owSet_ne hj'] at h'
          exact absurd h' (nota j')
      · rw [owSet_ne hj] at h
        by_cases hj' : j' = i
        · subst hj'
          rw [owSet_eq] at h'
          cases h'
          exact absurd h (nota j)
        · rw [owSet_ne hj'] at h'
          exact R.inj j j' b h h'
    · have hj : j ≠ i := fun z => by subst z; rw [hfl] at h; cases h
      rw [owSet_ne hj]
      exact R.pin j h
    · rcases set_get h1 with ⟨rfl, e⟩ | ⟨hj, e⟩
      · rw [owSet_eq] at h2; cases h2
      · rw [owSet_ne hj] at h2
        obtain ⟨v', h3, h4⟩ := R.dat j d' e hn h2
        exact ⟨v', by rw [List.getElem?_set_ne (Ne.symm hj)]; exact h3, old h4⟩
    · rcases set_get h1 with ⟨rfl, e⟩ | ⟨hj, e⟩
      · rw [owSet_eq] at h3; cases h3
      · rw [owSet_ne hj] at h3
        exact R.oo j d' e hn h2 h3
    · by_cases hj : j' = i
      · subst hj
        rw [owSet_eq] at h'
        cases h'
        exact (R.nt j a h).2.1.ne ha
      · rw [owSet_ne hj] at h'; exact R.ns j j' b h h'
theorem Rel.mut {K : PySem.W.Frag} {G : Gh} {ow : Ow} {σ : St} {H : Hp} {δ : DS} {i : Nat} {a : Addr} {ys : List V} {ds : List D} (R : Rel K fl G ow σ H δ) (hfl : fl[i]? = some .O) (ho : ow i = some a) (r : RAs K (okA ow) true H ys ds) :
    Rel K fl G ow σ (upd H a (.lst ys)) (δ.set i (some (.d (.list ds)))) := by
  obtain ⟨h0, hz, xs, ds0, e1, e2, e3, e4⟩ := R.own i a ho
  have na : ¬ okA ow a := fun z => z.1 i ho
  have hF : G.HF a = none := by
    rcases hz with ⟨_, z⟩ | ⟨z, _⟩
    · exact z
    · rw [hfl] at z; cases z
  have hi : i < δ.length := by
    rcases Nat.lt_or_ge i δ.length with z | z
    · exact z
    · rw [List.getElem?_eq_none z] at e4; cases e4
  refine ⟨R.s0, fun b o hb => ?_, by rw [List.length_set]; exact R.len, fun j b h => ?_, R.inj, R.pin, fun j d' h1 hn h2 => ?_, fun j d' h1 hn h2 h3 => ?_, fun j b h => ?_, R.nd, R.ns, R.np, fun j d' hn h1 => ?_⟩
  · rw [upd_ne (fun z => by subst z; rw [hF] at hb; cases hb)]
    exact R.s1 b o hb
  · by_cases hj : j = i
    · subst hj
      rw [ho] at h
      cases h
      exact ⟨h0, hz, ys, ds, e1, upd_same, r.upd e2 na, by rw [List.getElem?_set_self hi]⟩
    · obtain ⟨h0', hf', zs, ds', h1, h2, h3, h4⟩ := R.own j b h
      have hb : b ≠ a := fun z => hj (R.inj j i a (z ▸ h) ho)
      exact ⟨h0', hf', zs, ds', h1, by rw [upd_ne hb]; exact h2, h3.upd e2 na, by rw [List.getElem?_set_ne (Ne.symm hj)]; exact h4⟩
  · rcases set_get h1 with ⟨rfl, e⟩ | ⟨hj, e⟩
    · rw [ho] at h2; cases h2
    · obtain ⟨v', h3, h4⟩ := R.dat j d' e hn h2
      exact ⟨v', h3, h4.upd e2 na⟩
  · rcases set_get h1 with ⟨rfl, e⟩ | ⟨hj, e⟩
    · rw [ho] at h3; cases h3
    · exact R.oo j d' e hn h2 h3
  · obtain ⟨g1, g2, g3⟩ := R.nt j b h
    refine ⟨g1, ?_, g3⟩
    by_cases hb : b = a
    · rw [hb, upd_same]; exact ⟨_, rfl, inferInstance⟩
    · rw [upd_ne hb]; exact g2
  · rcases set_get h1 with ⟨rfl, e⟩ | ⟨hj, e⟩
    · rw [hfl] at hn; cases hn
    · obtain ⟨v', h3, h4, h5⟩ := R.nr j d' hn e
      exact ⟨v', h3, h4.upd e2 (fun z => R.ns j i a z ho), h5⟩
theorem slot_lt {K : PySem.W.Frag} {G : Gh} {ow : Ow} {σ : St} {H : Hp} {δ : DS} {i : Nat} (R : Rel K fl G ow σ H δ) (h : i < δ.length) : i < σ.length := by rw [R.len]; exact h
theorem ds_setA {i : Nat} {x : Str} {pos' : Pos} (hfl : fl[i]? = some .A) (hN : X.N.Nodup) (hi : X.N[i]? = some x) (hv : X.env.scope.names.lookup x = some .local ∨ X.env.scope.names.lookup x = some .cell) (h : DE X fl .A e f)
    (hs : swapsWith e (some (.Name x pos')) pos.line X.env = pure false := by rfl) (hfn : X.fn x = true ∨ X.env.scope.names.lookup x = some .local := by first | exact .inl rfl | exact .inr rfl) :
    DS1 X fl (.Assign [.Name x pos'] e pos) (sSetl i f) := PS.imp (ps_set (i := i) hN hi hv h hs hfn) fun Dn σ H h => by
  obtain ⟨G, ow, δ, o, R, hf, q⟩ := h
  unfold sSetl at hf
  by_cases hl : i < δ.length
  · rw [if_pos hl] at hf
    obtain ⟨d, e1, e2⟩ := bind1 hf
    cases e2
    exact ⟨G, ow, δ, d, R, e1, fun v H' s r => q ow _ H' ((R.grow s).setA hfl (slot_lt R hl) r)⟩
  · rw [if_neg hl] at hf
    cases hf
theorem ds_setO {i : Nat} {x : Str} {pos' : Pos} (hfl : fl[i]? = some .O) (hN : X.N.Nodup) (hi : X.N[i]? = some x) (hv : X.env.scope.names.lookup x = some .local ∨ X.env.scope.names.lookup x = some .cell) (h : DE X fl .F e f)
    (hs : swapsWith e (some (.Name x pos')) pos.line X.env = pure false := by rfl) (hfn : X.fn x = true ∨ X.env.scope.names.lookup x = some .local := by first | exact .inl rfl | exact .inr rfl) :
    DS1 X fl (.Assign [.Name x pos'] e pos) (sSetl i f) := PS.imp (ps_set (i := i) hN hi hv h hs hfn) fun Dn σ H h => by
  obtain ⟨G, ow, δ, o, R, hf, q⟩ := h
  unfold sSetl at hf
  by_cases hl : i < δ.length
  · rw [if_pos hl] at hf
    obtain ⟨d, e1, e2⟩ := bind1 hf
    cases e2
    refine ⟨G, ow, δ, d, R, e1, fun v H' s r => ?_⟩
    obtain ⟨ow', R'⟩ := R.setO s hfl (slot_lt R hl) r
    exact q ow' _ H' R'
  · rw [if_neg hl] at hf
    cases hf
theorem dg_name {i : Nat} {x : Str} {pos : Pos} (hfl : fl[i]? = some .A) (hN : X.N.Nodup) (hi : X.N[i]? = some x) (hv : X.env.scope.names.lookup x = some .local ∨ X.env.scope.names.lookup x = some .cell)
    (hfn : X.fn x = true ∨ X.env.scope.names.lookup x = some .local := by first | exact .inl rfl | exact .inr rfl) : DG X fl [i] (.Name x pos) (gNl i) :=
  PG.imp (pg_name (i := i) hN hi hv hfn) fun v σ H Q h => by
  obtain ⟨G, ow, δ, d, δ', R, r, hf, q⟩ := h
  unfold gNl at hf
  by_cases hl : i < δ.length
  · rw [if_pos hl] at hf
    cases hf
    exact q _ (R.setA hfl (slot_lt R hl) r) fun j hj => List.getElem?_set_ne (fun z => hj (by rw [z]; exact List.mem_singleton.mpr rfl))
  · rw [if_neg hl] at hf
    cases hf
def tDGs (K : PySem.W.Frag) (fl : List Fl) (tg : List Nat) (g : List D → DS → Option DS) : TGs := fun vs σ H Q => ∃ G ow δ ds δ', Rel K fl G ow σ H δ ∧ RAs K (okA ow) true H vs ds ∧ g ds δ = some δ' ∧ ∀ σ', Rel K fl G ow σ' H δ' → (∀ j, j ∉ tg → σ'[j]? = σ[j]?) → Q σ' H
theorem PGs.imp {t t' : TGs} (h : PGs X es t) (i : ∀ v σ H Q, t' v σ H Q → t v σ H Q) : PGs X es t' := fun pins s σ H v u Q I r q => h pins s σ H v u Q I r (i v σ H Q q)
abbrev DGs (X : Cx) (fl : List Fl) (tg : List Nat) (es : List Expr) (g : List D → DS → Option DS) : Prop := PGs X es (tDGs X.K fl tg g)
theorem dgs_nil : DGs X fl [] [] gsNil := PGs.imp pgs_nil fun vs σ H Q h => by
  obtain ⟨G, ow, δ, ds, δ', R, r, hf, q⟩ := h
  cases r with
  | nil => cases hf; exact ⟨rfl, q σ R fun _ _ => rfl⟩
  | cons _ _ => cases hf
theorem dgs_cons {tg tg' : List Nat} {g : FG} {gs : List D → DS → Option DS} (h1 : DG X fl tg e g) (h2 : DGs X fl tg' es gs) (hs : (assignEach (e :: es) X.env).map (·.2) = assign e X.env :: (assignEach es X.env).map (·.2) := by rfl) :
    DGs X fl (tg ++ tg') (e :: es) (gsCons g gs) := PGs.imp (pgs_cons h1 h2 hs) fun vs σ H Q h => by
  obtain ⟨G, ow, δ, ds, δ', R, r, hf, q⟩ := h
  cases r with
  | nil => cases hf
  | cons r1 r2 =>
    obtain ⟨δ1, e1, e2⟩ := bind1 hf
    refine ⟨_, _, rfl, G, ow, δ, _, δ1, R, r1, e1, fun σ' R' k1 => ⟨G, ow, δ1, _, δ', R', r2, e2, fun σ'' R'' k2 => q σ'' R'' fun j hj => ?_⟩⟩
    rw [k2 j fun z => hj (List.mem_append_right _ z), k1 j fun z => hj (List.mem_append_left _ z)]
theorem dg_tup {tg : List Nat} {gs : List D → DS → Option DS} {k n : Nat} (hc : X.calm = true) (h : DGs X fl tg es gs) (hn : (assignEach es X.env).length = n := by rfl) (hst : (assignEach es X.env).findIdx? (·.1) = none := by rfl) :
    DG X fl tg (.Tuple es k pos) (gTn n gs) := PG.imp (pg_tup (n := n) hc h hn hst) fun v σ H Q h => by
  obtain ⟨G, ow, δ, d, δ', R, r, hf, q⟩ := h
  unfold gTn at hf
  split at hf
  · next l =>
    by_cases z : l.length = n
    · rw [if_pos z] at hf
      obtain ⟨a, xs, rfl, hx, hr⟩ := r.tupE
      exact ⟨a, xs, rfl, hx, by rw [hr.length]; exact z, G, ow, δ, l, δ', R, hr, hf, q⟩
    · rw [if_neg z] at hf
      cases hf
  · cases hf
theorem ds_asg {tg : List Nat} {g : FG} {t : Expr} (h : DE X fl .A e f) (hg : DG X fl tg t g) (hs : swapsWithSole [t] e pos.line X.env = pure false := by rfl) (hw : swappedStores [t] e X.env = pure none := by rfl)
    (h1 : (assignEach [t] X.env).map (·.2) = [assign t X.env] := by rfl) : DS1 X fl (.Assign [t] e pos) (sAsg f g) := PS.imp (ps_asg h hg hs hw h1) fun Dn σ H h => by
  obtain ⟨G, ow, δ, o, R, hf, q⟩ := h
  obtain ⟨d, e1, e2⟩ := bind1 hf
  obtain ⟨δ', e3, e4⟩ := bind1 e2
  cases e4
  exact ⟨G, ow, δ, d, R, e1, fun v H' s r => ⟨G, ow, δ, d, δ', R.grow s, r, e3, fun σ' R' _ => q ow σ' H' R'⟩⟩
end
end D3
namespace D3
open PySem PySem.Spec PyProof.Rows L2 My
section
variable {X : Cx} {fl : List Fl} {e a b c : Expr} {es : List Expr} {st : Stmt} {sts body orelse : List Stmt} {k : Kd} {f fa fb fc : FE} {fs gs : FS} {ft gt : FT} {pos : Pos}
theorem own_of {K : PySem.W.Frag} {G : Gh} {ow : Ow} {σ : St} {H : Hp} {δ : DS} {i : Nat} {l : List D} (R : Rel K fl G ow σ H δ) (hfl : fl[i]? = some .O) (h : dVar i δ = some (.list l)) :
    ∃ a xs, ow i = some a ∧ σ[i]? = some (some (.ref a)) ∧ H a = some (.lst xs) ∧ RAs K (okA ow) true H xs l := by
  have e := dVar_eq h
  cases ho : ow i with
  | none =>
    have z := R.oo i _ e (by rw [hfl]; rfl) (by rw [hfl]; simp) ho
    simp [flat] at z
  | some a =>
    obtain ⟨h0, _, xs, ds, h1, h2, h3, h4⟩ := R.own i a ho
    rw [e] at h4
    cases h4
    exact ⟨a, xs, rfl, h1, h2, h3⟩
theorem ds_append {i : Nat} {x : Str} {vpos apos cpos : Pos} (hfl : fl[i]? = some .O) (h : DE X fl .A e f) (hN : X.N[i]? = some x) (hv : Vis X.env.scope x := by first | exact Or.inl rfl | exact Or.inr (Or.inl rfl) | exact Or.inr (Or.inr rfl)) (hd : (x == ("__debug__" : Str)) = false := by decide)
    (hcd : (x == ("__classdict__" : Str)) = false := by decide)
    (hs : swapsWith (.Call (.Attribute (.Name x vpos) "append" apos) [e] [] cpos) none pos.line X.env = pure false := by rfl)
    (hbase : attributeBase (.Name x vpos) "append" X.env (eval (.Name x vpos) X.env) = eval (.Name x vpos) X.env := by rfl)
    (hfew : ((backTo cpos (starEach [e] X.env)).all (fun x => !x.1) && (backToKw cpos (keywordEach [] X.env)).all (fun x => x.1.isSome)
      && decide (([e] : List Expr).length + ([] : List Keyword).length + (if ([] : List Keyword).isEmpty then 0 else 1) < 30)) = true := by rfl)
    (hline : (apos.endLine == cpos.line) = true := by rfl) (hst : starEach [e] X.env = (false, eval e X.env) :: starEach [] X.env := by rfl) (hplain : (backTo cpos (starEach [] X.env)).any (·.1) = false := by rfl) :
    DS1 X fl (.Expr (.Call (.Attribute (.Name x vpos) "append" apos) [e] [] cpos) pos) (sApp i f) :=
  PS.imp (ps_expr (pe_bm PySem.F.plainAttrs_list PySem.F.slot_list_append PySem.F.type_list_append mt_append (pe_var hN hv hd hcd) (pa_cons h pa_nil hst) hbase hfew hline hst hplain) hs) fun Dn σ H h => by
  obtain ⟨G, ow, δ, o, R, hf, q⟩ := h
  obtain ⟨x, e1, hf1⟩ := bind1 hf
  obtain ⟨d, e2, hf2⟩ := bind1 hf1
  clear hf hf1
  have hf := hf2
  clear hf2
  split at hf
  case h_2 => cases hf
  next l =>
  by_cases hl : l.length < 1000000
  · rw [if_pos hl] at hf
    cases hf
    obtain ⟨a, xs, ho, h1, h2, h3⟩ := own_of R hfl e1
    refine ⟨_, h1, .inl ⟨rfl, _, SqL.of h2⟩, G, ow, δ, d, R, e2, fun v H' s r => ?_⟩
    have R' := R.grow s
    refine ⟨a, xs, v, rfl, rfl, s _ _ h2, by rw [h3.length]; exact Nat.lt_trans hl (by decide), ?_⟩
    exact q ow σ _ (R'.mut hfl ho ((h3.same s).append (.cons r .nil)))
  · rw [if_neg hl] at hf
    cases hf
theorem ds_put {i : Nat} {x : Str} {vpos spos : Pos} {ke : Expr} {fk : FE} (hfl : fl[i]? = some .O) (h : DE X fl .A e f) (hk : DE X fl .P ke fk) (hN : X.N[i]? = some x) (hv : Vis X.env.scope x := by first | exact Or.inl rfl | exact Or.inr (Or.inl rfl) | exact Or.inr (Or.inr rfl)) (hd : (x == ("__debug__" : Str)) = false := by decide)
    (hcd : (x == ("__classdict__" : Str)) = false := by decide) (ha : ∀ v, assign (.Subscript (.Name x vpos) ke spos) X.env v = (do
      let ov ← holding [v] (eval (.Name x vpos) X.env)
      let iv ← holding [v, ov] (eval ke X.env)
      standAt spos
      holding [v, ov, iv] (setItem ov iv v)
      release [v, ov, iv] []) := by intro _; rfl)
    (hs : swapsWithSole [.Subscript (.Name x vpos) ke spos] e pos.line X.env = pure false := by rfl) (hw : swappedStores [.Subscript (.Name x vpos) ke spos] e X.env = pure none := by rfl)
    (h1 : (assignEach [.Subscript (.Name x vpos) ke spos] X.env).map (·.2) = [assign (.Subscript (.Name x vpos) ke spos) X.env] := by rfl) :
    DS1 X fl (.Assign [.Subscript (.Name x vpos) ke spos] e pos) (sPut i fk f) :=
  PS.imp (ps_asg h (pg_sub (pe_var hN hv hd hcd) hk set_list ha) hs hw h1) fun Dn σ H h => by
  obtain ⟨G, ow, δ, o, R, hf, q⟩ := h
  obtain ⟨d, e2, hf1⟩ := bind1 hf
  obtain ⟨x, e1, hf2⟩ := bind1 hf1
  obtain ⟨k, e3, hf3⟩ := bind1 hf2
  clear hf hf1 hf2
  have hf := hf3
  clear hf3
  split at hf
  case h_2 => cases hf
  next l j =>
  obtain ⟨n, e4, e5⟩ := bind1 hf
  cases e5
  obtain ⟨a, xs, ho, h1, h2, h3⟩ := own_of R hfl e1
  refine ⟨G, ow, δ, d, R, e2, fun v H' s r => ⟨_, h1, G, ow, δ, _, R.grow s, e3, fun u H2 s2 r2 => ?_⟩⟩
  obtain rfl := RA.intE r2
  have R2 := R.grow (s.trans s2)
  refine ⟨a, xs, j, n, rfl, rfl, (s.trans s2) _ _ h2, by rw [h3.length]; exact e4, ?_⟩
  exact q ow σ _ (R2.mut hfl ho (RAs.set (RA.same s2 r) n (h3.same (s.trans s2))))
def WalkD (K : PySem.W.Frag) (ow : Ow) (L : List Nat) (H1 : Hp) (J : It) (l : List D) : Prop := ∀ H2 : Hp, (∀ b o, H1 b = some o → (∀ i, ow i = some b → i ∈ L) → (∀ i, b ∉ ow.n i) → H2 b = some o) → ∀ i : Nat,
  (∀ d, l[i]? = some d → J.go i H2 ∧ ∀ x H3, J.yld i H2 x H3 → Same H2 H3 ∧ RA K (fun b => okA ow b ∧ H1 b ≠ none) true H3 x d) ∧ (l.length ≤ i → J.stop i H2)
def tDI (K : PySem.W.Frag) (fl : List Fl) (L : List Nat) (fi : FA) : TI := fun σ H R' => ∃ G ow δ l, Rel K fl G ow σ H δ ∧ fi δ = some l ∧ ∀ J H1, Same H H1 → WalkD K ow L H1 J l → R' J H1
abbrev DI (X : Cx) (fl : List Fl) (L : List Nat) (tg iter : Expr) (fi : FA) : Prop := PI X tg iter (tDI X.K fl L fi)
theorem PI.imp {tg iter : Expr} {t t' : TI} (h : PI X tg iter t) (i : ∀ σ H R', t' σ H R' → t σ H R') : PI X tg iter t' := fun pins s σ H R' I q => h pins s σ H R' I (i σ H R' q)
section
variable {K : PySem.W.Frag} {ok : Ok} {pl : Bool} {H1 H2 : Hp} {ow : Ow} {L : List Nat}
theorem nm {b : Addr} {o : HO} (hl : ∀ i b, ow i = some b → ∃ xs, H1 b = some (.lst xs)) (h : H1 b = some o) (hn : ∀ xs, o ≠ .lst xs) : ∀ i, ow i = some b → i ∈ L := fun i e => by
  obtain ⟨xs, z⟩ := hl i b e
  rw [h] at z
  exact absurd (Option.some.inj z) (hn xs)
theorem nm2 {b : Addr} {o : HO} (hl : ∀ i b, b ∈ ow.n i → Chd (H1 b)) (h : H1 b = some o) (hn : Chg o → False) : ∀ i, b ∉ ow.n i := fun i e => by
  obtain ⟨u, z, c⟩ := hl i b e
  rw [h] at z
  cases z
  exact hn c
mutual
theorem RA.keep (hk : ∀ b o, H1 b = some o → (∀ i, ow i = some b → i ∈ L) → (∀ i, b ∉ ow.n i) → H2 b = some o) (hl : ∀ i b, ow i = some b → ∃ xs, H1 b = some (.lst xs)) (hm : ∀ i b, b ∈ ow.n i → Chd (H1 b)) (ho : ∀ b, ok b → okA ow b) : ∀ {v : V} {d : D}, RA K ok pl H1 v d → RA K ok pl H2 v d
  | _, _, .non => .non
  | _, _, .bl b => .bl b
  | _, _, .int i => .int i
  | _, _, .str x => .str x
  | _, _, .lst e k q => .lst (hk _ _ e (fun i z => absurd z ((ho _ k).1 i)) (ho _ k).2) k (RAs.keep hk hl hm ho q)
  | _, _, .lsk e k q => .lsk (by
      rcases e with ⟨o, e⟩ | e
      · exact .inl ⟨o, hk _ _ e (nm hl e (by intro xs z; cases z)) (nm2 hm e Chg.frz)⟩
      · exact .inr e) k (RAs.keep hk hl hm ho q)
  | _, _, .tup e q => .tup (hk _ _ e (nm hl e (by intro xs z; cases z)) (nm2 hm e Chg.tup)) (RAs.keep hk hl hm ho q)
  | _, _, .dic e k => .dic (hk _ _ e (fun i z => absurd z ((ho _ k).1 i)) (ho _ k).2) k
  | _, _, .dik e k => .dik (hk _ _ e (nm hl e (by intro xs z; cases z)) (nm2 hm e Chg.frz)) k
theorem RAs.keep (hk : ∀ b o, H1 b = some o → (∀ i, ow i = some b → i ∈ L) → (∀ i, b ∉ ow.n i) → H2 b = some o) (hl : ∀ i b, ow i = some b → ∃ xs, H1 b = some (.lst xs)) (hm : ∀ i b, b ∈ ow.n i → Chd (H1 b)) (ho : ∀ b, ok b → okA ow b) : ∀ {v : List V} {d : List D}, RAs K ok pl H1 v d → RAs K ok pl H2 v d
  | _, _, .nil => .nil
  | _, _, .cons e q => .cons (RA.keep hk hl hm ho e) (RAs.keep hk hl hm ho q)
end
end
theorem Rel.ownL {K : PySem.W.Frag} {G : Gh} {ow : Ow} {σ : St} {H : Hp} {δ : DS} (R : Rel K fl G ow σ H δ) : ∀ i b, ow i = some b → ∃ xs, H b = some (.lst xs) := fun i b e => by
  obtain ⟨_, _, xs, _, _, h2, _⟩ := R.own i b e
  exact ⟨xs, h2⟩
theorem Rel.ownC {K : PySem.W.Frag} {G : Gh} {ow : Ow} {σ : St} {H : Hp} {δ : DS} (R : Rel K fl G ow σ H δ) : ∀ i b, b ∈ ow.n i → Chd (H b) := fun i b e => (R.nt i b e).2.1
theorem walk_B {K : PySem.W.Frag} {G : Gh} {ow : Ow} {σ : St} {H Hb : Hp} {δ : DS} {L : List Nat} {v : V} {l : List D} (R : Rel K fl G ow σ H δ) (r : Rs K G.H0 ow Hb H (.B L) v (.list l)) : ∃ a xs, v = .ref a ∧ SqL K H a xs ∧
    ∀ H2 : Hp, (∀ b o, H b = some o → (∀ i, ow i = some b → i ∈ L) → (∀ i, b ∉ ow.n i) → H2 b = some o) → SqL K H2 a xs ∧ RAs K (fun b => okA ow b ∧ H b ≠ none) true H2 xs l := by
  rcases r with r | ⟨i, hi, a, xs, ds, ho, rfl, e, hx, hr⟩
  · cases r with
    | lst e k q => exact ⟨_, _, rfl, SqL.of e, fun H2 hk => ⟨SqL.of (hk _ _ e (fun i z => absurd z (k.1 i)) k.2), RAs.keep hk R.ownL R.ownC (fun b z => z.1) q.track⟩⟩
    | lsk e k q => exact ⟨_, _, rfl, e.sq, fun H2 hk => ⟨SqK.sq (by
        rcases e with ⟨o, e⟩ | e
        · exact .inl ⟨o, hk _ _ e (nm R.ownL e (by intro xs z; cases z)) (nm2 R.ownC e Chg.frz)⟩
        · exact .inr e), RAs.keep hk R.ownL R.ownC (fun b z => z.1) q.track⟩⟩
  · cases e
    exact ⟨a, xs, rfl, SqL.of hx, fun H2 hk => ⟨SqL.of (hk _ _ hx (fun j z => by rw [R.inj j i a z ho]; exact hi) (fun j z => R.ns j i a z ho)), RAs.keep hk R.ownL R.ownC (fun b z => z.1) hr.track⟩⟩
theorem di_list {tg : Expr} {L : List Nat} (h : DE X fl (.B L) e f) : DI X fl L tg e (fLst f) := PI.imp (pi_list h) fun σ H R' h => by
  obtain ⟨G, ow, δ, l, R, hf, q⟩ := h
  obtain ⟨d, e1, e2⟩ := bind1 hf
  cases d <;> first | (cases e2; done) | skip
  cases e2
  refine ⟨G, ow, δ, _, R, e1, fun v H1 s r => ?_⟩
  obtain ⟨a, xs, rfl, hx, keep⟩ := walk_B (R.grow s) r
  refine ⟨a, rfl, ⟨xs, hx⟩, q _ _ s fun H2 k2 i => ?_⟩
  obtain ⟨k3, k4⟩ := keep H2 k2
  refine ⟨fun d hd => ?_, fun hl => ⟨xs, k3, by rw [k4.length]; exact hl⟩⟩
  obtain ⟨y, hy, ry⟩ := k4.get hd
  refine ⟨⟨xs, y, k3, hy⟩, fun x H3 hyl => ?_⟩
  obtain ⟨e, hz⟩ := hyl
  subst e
  have : some y = some x := hy.symm.trans (hz xs k3)
  cases this
  exact ⟨Same.refl _, ry⟩
theorem rngD_len (lo hi : Int) : (rngD lo hi).length = (hi - lo).toNat := by simp [rngD]
theorem walk_rng {K : PySem.W.Frag} {ow : Ow} {L : List Nat} {H1 : Hp} (lo hi : Int) : WalkD K ow L H1 (Itr lo (hi - lo).toNat) (rngD lo hi) := by
  intro H2 _ i
  refine ⟨fun d hd => ?_, fun hl => by rw [rngD_len] at hl; exact hl⟩
  unfold rngD at hd
  rw [List.getElem?_map] at hd
  by_cases hi' : i < (hi - lo).toNat
  · rw [List.getElem?_range hi'] at hd
    cases hd
    refine ⟨hi', fun x H3 hy => ?_⟩
    obtain ⟨e, e2⟩ := hy
    subst e e2
    exact ⟨Same.refl _, .int _⟩
  · rw [List.getElem?_eq_none (by simpa using hi')] at hd
    cases hd
theorem rngG_ok {i : Int} (h : rngG i = true) : -(2 ^ 62) ≤ i ∧ i < 2 ^ 62 := by
  unfold rngG at h
  rw [Bool.and_eq_true] at h
  exact ⟨of_decide_eq_true h.1, of_decide_eq_true h.2⟩
theorem di_range1 {tg : Expr} {L : List Nat} {p : Pos} {fa : FA} (hg : Gl X "range") (hm : X.mg "range" = none) (h : DA X fl [a] fa) (hs : starEach [a] X.env = [(false, eval a X.env)] := by rfl) : DI X fl L tg (.Call (.Name "range" p) [a] [] pos) (fRng1 fa) :=
  PI.imp (pi_range1 hg hm h hs) fun σ H R' h => by
  obtain ⟨G, ow, δ, l, R, hf, q⟩ := h
  obtain ⟨ds, e1, e2⟩ := bind1 hf
  split at e2
  · next j =>
    by_cases z : rngG j = true
    · rw [if_pos z] at e2
      cases e2
      refine ⟨G, ow, δ, _, R, e1, fun vs H1 s r => ?_⟩
      cases r with
      | cons r1 r2 =>
        cases r2
        obtain rfl := r1.intE
        refine ⟨j, rfl, (rngG_ok z).1, (rngG_ok z).2, ?_⟩
        have w := walk_rng (K := X.K) (ow := ow) (L := L) (H1 := H1) 0 j
        rw [Int.sub_zero] at w
        exact q _ _ s w
    · rw [if_neg z] at e2
      cases e2
  · cases e2
def lock (L : List Nat) (fl : List Fl) : List Fl := fl.mapIdx fun i x => if x = .O ∧ i ∈ L then .L else x
theorem lock_get {L : List Nat} {i : Nat} : (lock L fl)[i]? = (fl[i]?).map fun x => if x = .O ∧ i ∈ L then .L else x := by
  unfold lock
  rw [List.getElem?_mapIdx]
theorem lock_A {L : List Nat} {i : Nat} : (lock L fl)[i]? = some .A ↔ fl[i]? = some .A := by
  rw [lock_get]
  cases h : fl[i]? with
  | none => simp
  | some x =>
    cases x <;> simp
    by_cases z : i ∈ L <;> simp [z]
theorem lock_O {L : List Nat} {i : Nat} (h : (lock L fl)[i]? = some .O) : fl[i]? = some .O ∧ i ∉ L := by
  rw [lock_get] at h
  cases e : fl[i]? with
  | none => rw [e] at h; simp at h
  | some x =>
    rw [e] at h
    cases x <;> simp at h
    by_cases z : i ∈ L
    · simp [z] at h
    · exact ⟨rfl, z⟩
theorem lock_L {L : List Nat} {i : Nat} (h : fl[i]? = some .L) : (lock L fl)[i]? = some .L := by
  rw [lock_get, h]
  simp
theorem lock_OL {L : List Nat} {i : Nat} (h : fl[i]? = some .O) (hi : i ∈ L) : (lock L fl)[i]? = some .L := by
  rw [lock_get, h]
  simp [hi]
theorem lock_OO {L : List Nat} {i : Nat} (h : fl[i]? = some .O) (hi : i ∉ L) : (lock L fl)[i]? = some .O := by
  rw [lock_get, h]
  simp [hi]
theorem lock_N {L : List Nat} {i : Nat} : (lock L fl)[i]? = some .N ↔ fl[i]? = some .N := by
  rw [lock_get]
  cases h : fl[i]? with
  | none => simp
  | some x =>
    cases x <;> simp
    by_cases z : i ∈ L <;> simp [z]
theorem lock_M {L : List Nat} {i : Nat} : (lock L fl)[i]? = some .M ↔ fl[i]? = some .M := by
  rw [lock_get]
  cases h : fl[i]? with
  | none => simp
  | some x =>
    cases x <;> simp
    by_cases z : i ∈ L <;> simp [z]
theorem lock_isN {L : List Nat} {i : Nat} : isN (lock L fl)[i]? = isN fl[i]? := by
  rw [lock_get]
  cases h : fl[i]? with
  | none => rfl
  | some x =>
    cases x <;> simp [isN]
    by_cases z : i ∈ L <;> simp [z]
def Let (fl' : List Fl) (ow : Ow) (b : Addr) : Prop := (∃ j, ow j = some b ∧ fl'[j]? = some .O) ∨ ∃ j, b ∈ ow.n j ∧ fl'[j]? = some .N
open Classical in
noncomputable def ghL (fl' : List Fl) (G : Gh) (ow : Ow) (H : Hp) : Gh := ⟨G.H0, fun b => if Let fl' ow b then none else H b, ow, ow.n, G.tb⟩
open Classical in
theorem ghL_out {fl' : List Fl} {G : Gh} {ow : Ow} {H : Hp} {b : Addr} (h : ¬ Let fl' ow b) : (ghL fl' G ow H).HF b = H b := by
  unfold ghL
  dsimp only
  rw [if_neg h]
open Classical in
theorem ghL_in {fl' : List Fl} {G : Gh} {ow : Ow} {H : Hp} {b : Addr} (h : Let fl' ow b) : (ghL fl' G ow H).HF b = none := by
  unfold ghL
  dsimp only
  rw [if_pos h]
theorem Rel.lock {K : PySem.W.Frag} {G : Gh} {ow : Ow} {σ : St} {H : Hp} {δ : DS} (L : List Nat) (R : Rel K fl G ow σ H δ) : Rel K (lock L fl) (ghL (lock L fl) G ow H) ow σ H δ := by
  refine ⟨fun b o hb => ?_, fun b o hb => ?_, R.len, fun i a h => ?_, R.inj, fun i h => rfl, fun i d h1 hn h2 => R.dat i d h1 (by rw [lock_isN] at hn; exact hn) h2, fun i d h1 hn h2 h3 => R.oo i d h1 (by rw [lock_isN] at hn; exact hn) (fun z => h2 (lock_A.mpr z)) h3, fun i a h => ?_, R.nd, R.ns, fun i h => rfl, fun i d hn h1 => R.nr i d (by rw [lock_isN] at hn; exact hn) h1⟩
  · have hb' : G.H0 b = some o := hb
    rw [ghL_out]
    · exact R.same0 b o hb'
    · rintro (⟨j, e, _⟩ | ⟨j, e, _⟩)
      · have := (R.own j b e).1
        rw [hb'] at this
        cases this
      · have := (R.nt j b e).1
        rw [hb'] at this
        cases this
  · by_cases z : Let (D3.lock L fl) ow b
    · rw [ghL_in z] at hb; cases hb
    · rw [ghL_out z] at hb; exact hb
  · obtain ⟨h0, hf, xs, ds, h1, h2, h3, h4⟩ := R.own i a h
    refine ⟨h0, ?_, xs, ds, h1, h2, h3, h4⟩
    have out : (D3.lock L fl)[i]? = some .L → (ghL (D3.lock L fl) G ow H).HF a = H a := fun hl => ghL_out (by
      rintro (⟨j, e, hj⟩ | ⟨j, e, hj⟩)
      · rw [R.inj j i a e h, hl] at hj
        cases hj
      · exact R.ns j i a e h)
    rcases hf with ⟨hf, _⟩ | ⟨hf, _⟩
    · by_cases hi : i ∈ L
      · exact .inr ⟨lock_OL hf hi, xs, by rw [out (lock_OL hf hi)]; exact h2⟩
      · exact .inl ⟨lock_OO hf hi, ghL_in (.inl ⟨i, h, lock_OO hf hi⟩)⟩
    · exact .inr ⟨lock_L hf, xs, by rw [out (lock_L hf)]; exact h2⟩
  · obtain ⟨g1, g2, g3⟩ := R.nt i a h
    refine ⟨g1, g2, ?_⟩
    rcases g3 with ⟨z, _⟩ | z
    · exact .inl ⟨lock_N.mpr z, ghL_in (.inr ⟨i, h, lock_N.mpr z⟩)⟩
    · exact .inr (lock_M.mpr z)
theorem Rel.unlock {K : PySem.W.Frag} {G : Gh} {ow ow' : Ow} {σ σ' : St} {H H' : Hp} {δ δ' : DS} {L : List Nat} (R : Rel K fl G ow σ H δ) (R' : Rel K (D3.lock L fl) (ghL (D3.lock L fl) G ow H) ow' σ' H' δ') : Rel K fl G ow' σ' H' δ' := by
  have sub : Same G.HF (ghL (D3.lock L fl) G ow H).HF := fun b o hb => by
    rw [ghL_out]
    · exact R.s1 b o hb
    · rintro (⟨j, e, hj⟩ | ⟨j, e, hj⟩)
      · rcases (R.own j b e).2.1 with ⟨_, z⟩ | ⟨z, _⟩
        · rw [hb] at z; cases z
        · have := (lock_O hj).1
          rw [z] at this
          cases this
      · rcases (R.nt j b e).2.2 with ⟨_, z⟩ | z
        · rw [hb] at z; cases z
        · have := lock_N.mp hj
          rw [z] at this
          cases this
  refine ⟨R.s0, sub.trans R'.s1, R'.len, fun i a h => ?_, R'.inj, fun i h => ?_, fun i d h1 hn h2 => R'.dat i d h1 (by rw [lock_isN]; exact hn) h2, fun i d h1 hn h2 h3 => R'.oo i d h1 (by rw [lock_isN]; exact hn) (fun z => h2 (lock_A.mp z)) h3, fun i a h => ?_, R'.nd, R'.ns, fun i h => ?_, fun i d hn h1 => R'.nr i d (by rw [lock_isN]; exact hn) h1⟩
  · obtain ⟨h0, hf, rest⟩ := R'.own i a h
    refine ⟨h0, ?_, rest⟩
    rcases hf with ⟨hf, hz⟩ | ⟨hf, _⟩
    · exact .inl ⟨(lock_O hf).1, sub.free hz⟩
    · have e : ow' i = ow i := R'.pin i hf
      rw [e] at h
      exact (R.own i a h).2.1
  · have e : ow' i = ow i := R'.pin i (lock_L h)
    rw [e]
    exact R.pin i h
  · obtain ⟨g1, g2, g3⟩ := R'.nt i a h
    rcases g3 with ⟨z, hz⟩ | z
    · exact ⟨g1, g2, .inl ⟨lock_N.mp z, sub.free hz⟩⟩
    · exact ⟨g1, g2, .inr (lock_M.mp z)⟩
  · have e : ow'.n i = ow.n i := R'.np i (lock_M.mpr h)
    rw [e]
    exact R.np i h
theorem ds_for {tg iter : Expr} {L : List Nat} {T : List Nat} {fi : FA} {g : FG} (hp : PassesOwn (model X.prog X.w) X.A X.env X.xe) (hc : X.calm = true) (hi : DI X fl L tg iter fi) (hg : DG X (lock L fl) T tg g) (hb : DSs X (lock L fl) body fs)
    (hs : ∀ x, foldedSetIterable iter X.env x = pure x := by intro _; rfl) : DS1 X fl (.For tg iter body [] pos) (sFor fi g fs) := PS.imp (ps_for hp hc hi hg hb hs) fun Dn σ H h => by
  obtain ⟨G, ow, δ, o, R0, hf, q⟩ := h
  obtain ⟨l, e1, e2⟩ := bind1 hf
  refine ⟨G, ow, δ, l, R0, e1, fun J H1 s wk => ?_⟩
  have R1 := R0.grow s
  have RL := R1.lock L
  refine ⟨fun i m σ' H' => m = l.length - i ∧ ∃ ow' δ', Rel X.K (lock L fl) (ghL (lock L fl) G ow H1) ow' σ' H' δ' ∧ forD g fs (l.drop i) δ' = some o, ⟨_, rfl, ow, δ, RL, by simpa using e2⟩, ?_⟩
  rintro i m σ' H' ⟨rfl, ow', δ', R', hd⟩
  have kept : ∀ b o, H1 b = some o → (∀ i, ow i = some b → i ∈ L) → (∀ i, b ∉ ow.n i) → H' b = some o := fun b o hb hl hn => R'.s1 b o (by
    rw [ghL_out]
    · exact hb
    · rintro (⟨j, e, hj⟩ | ⟨j, e, _⟩)
      · exact (lock_O hj).2 (hl j e)
      · exact hn j e)
  obtain ⟨w1, w2⟩ := wk H' kept i
  by_cases hlt : i < l.length
  · have hdrop : l.drop i = l[i] :: l.drop (i + 1) := List.drop_eq_getElem_cons hlt
    rw [hdrop, forD] at hd
    obtain ⟨δ1, e3, hd⟩ := bind1 hd
    obtain ⟨o1, e4, hd⟩ := bind1 hd
    obtain ⟨go, yl⟩ := w1 l[i] (List.getElem?_eq_getElem hlt)
    refine .inr ⟨go, fun σ' H' => ∃ ow' δ', Rel X.K (lock L fl) (ghL (lock L fl) G ow H1) ow' σ' H' δ' ∧ forD g fs (l.drop (i + 1)) δ' = some o, fun σ2 H2 ⟨ow2, δ2, R2, h2⟩ => ⟨l.length - (i + 1), by omega, rfl, ow2, δ2, R2, h2⟩, fun x H3 hy => ?_⟩
    obtain ⟨s3, r3⟩ := yl x H3 hy
    have sub : ∀ b, okA ow b ∧ H1 b ≠ none → okA ow' b := fun b z => by
      obtain ⟨z1, z2⟩ := z
      refine ⟨fun j e => ?_, fun j e => ?_⟩
      · rcases (R'.own j b e).2.1 with ⟨_, hz⟩ | ⟨hz, _⟩
        · have : (ghL (lock L fl) G ow H1).HF b = H1 b := ghL_out (by rintro (⟨j', e', _⟩ | ⟨j', e', _⟩); exact z1.1 j' e'; exact z1.2 j' e')
          rw [this] at hz
          exact z2 hz
        · have e' : ow' j = ow j := R'.pin j hz
          rw [e'] at e
          exact z1.1 j e
      · rcases (R'.nt j b e).2.2 with ⟨_, hz⟩ | w
        · have : (ghL (lock L fl) G ow H1).HF b = H1 b := ghL_out (by rintro (⟨j', e', _⟩ | ⟨j', e', _⟩); exact z1.1 j' e'; exact z1.2 j' e')
          rw [this] at hz
          exact z2 hz
        · have e' : ow'.n j = ow.n j := R'.np j w
          rw [e'] at e
          exact z1.2 j e
    refine ⟨_, ow', δ', _, δ1, R'.grow s3, r3.imp sub (fun z => z), e3, fun σ4 R4 _ => ⟨_, ow', δ1, o1, R4, e4, ?_⟩⟩
    · cases o1 with
      | nx δ2 => exact fun ow2 σ2 H2 R2 => ⟨ow2, δ2, R2, hd⟩
      | ct δ2 => exact fun ow2 σ2 H2 R2 => ⟨ow2, δ2, R2, hd⟩
      | bk δ2 => cases hd; exact fun ow2 σ2 H2 R2 => q ow2 σ2 H2 (R1.unlock R2)
      | rt d => cases hd; exact q
      | ex c f v => cases hd; exact q
  · have e : l.drop i = [] := List.drop_eq_nil_of_le (by omega)
    rw [e, forD] at hd
    cases hd
    exact .inl ⟨w2 (by omega), q ow' σ' H' (R1.unlock R')⟩
end
end D3
namespace D3
open PySem PySem.Spec PyProof.Rows L2 My
def notStar : Expr → Bool
  | .Starred _ _ => false
  | _ => true
theorem star_of {e : Expr} {es : List Expr} {env : Env} (h : notStar e = true) : starEach (e :: es) env = (false, eval e env) :: starEach es env := by
  cases e <;> first | rfl | cases h
theorem pl_of {es : List Expr} {env : Env} {pos : Pos} (h : es.all notStar = true) : (backTo pos (starEach es env)).any (·.1) = false := by
  induction es with
  | nil => rfl
  | cons e es ih =>
    rw [List.all_cons, Bool.and_eq_true] at h
    rw [star_of h.1]
    have := ih h.2
    unfold backTo at this ⊢
    rw [List.map_cons, List.any_cons, this]
    rfl
def isR : Kd → Bool
  | .P => true
  | .A => true
  | .R => true
  | .C => true
  | _ => false
def okOf (H0 : Hp) (ow : Ow) (Hb : Hp) : Kd → Ok
  | .P => ok1
  | .A => okA ow
  | .R => okN H0
  | _ => okN Hb
def plOf : Kd → Bool
  | .P => true
  | .A => true
  | _ => false
section
variable {K : PySem.W.Frag} {H0 Hb Hc H : Hp} {ow : Ow} {v : V} {d : D} {k : Kd}
theorem Rs.ra (hk : isR k = true) (h : Rs K H0 ow Hb H k v d) : RA K (okOf H0 ow Hb k) (plOf k) H v d := by
  cases k <;> first | exact h | cases hk
theorem Rs.of_ra (hk : isR k = true) (h : RA K (okOf H0 ow Hb k) (plOf k) H v d) : Rs K H0 ow Hb H k v d := by
  cases k <;> first | exact h | cases hk
theorem okOf_back (s : Same Hb Hc) (hk : isR k = true) : ∀ a, okOf H0 ow Hc k a → okOf H0 ow Hb k a := fun a z => by
  cases k <;> first | exact z | exact s.free z | cases hk
theorem Rs.of_flat (hf : flat d = true) (h : RA K ok0 false H v d) : Rs K H0 ow Hb H k v d := by
  cases k with
  | P => exact RA.flat hf h
  | B L => exact .inl (RA.flat hf h)
  | A => exact RA.flat hf h
  | R => exact RA.flat hf h
  | F => exact .inl ⟨hf, h⟩
  | C => exact RA.flat hf h
  | FC => exact .inl ⟨hf, h⟩
  | T =>
    obtain ⟨as, h1, _, h3⟩ := RA.rt h
    cases as with
    | nil => exact ⟨[], h1, .nil, fun _ z => by cases z⟩
    | cons a r => exact (h3 a List.mem_cons_self).elim
theorem Rs.back (s : Same Hb Hc) (h : Rs K H0 ow Hc H k v d) : Rs K H0 ow Hb H k v d := by
  cases k with
  | P => exact h
  | B L => exact h
  | A => exact h
  | R => exact h
  | F =>
    rcases h with h | ⟨a, xs, ds, h1, h2, h3, h4⟩
    · exact .inl h
    · exact .inr ⟨a, xs, ds, h1, h2, s.free h3, h4⟩
  | C => exact RA.imp (fun a z => s.free z) (fun z => z) h
  | FC =>
    rcases h with h | ⟨a, xs, ds, h1, h2, h3, h4, h5⟩
    · exact .inl h
    · exact .inr ⟨a, xs, ds, h1, h2, s.free h3, h4, h5.imp (fun b z => ⟨s.free z.1, z.2⟩) (fun z => z)⟩
  | T =>
    obtain ⟨as, h1, h2, h3⟩ := h
    exact ⟨as, h1, h2, fun a z => s.free (h3 a z)⟩
end
def tDB (K : PySem.W.Frag) (fl : List Fl) (k : Kd) (f : FA) : TA := fun σ H Q => ∃ G ow δ ds, Rel K fl G ow σ H δ ∧ f δ = some ds ∧ ∀ vs H', Same H H' → RAs K (okOf G.H0 ow H k) (plOf k) H' vs ds → Q vs H'
abbrev DB (X : Cx) (fl : List Fl) (k : Kd) (es : List Expr) (f : FA) : Prop := PA X es (tDB X.K fl k f)
section
variable {X : Cx} {fl : List Fl} {e a b c : Expr} {es rest : List Expr} {k : Kd} {f fa fb fc : FE} {ft gt : FT} {pos : Pos}
theorem db_nil : DB X fl k [] dNil := PA.imp pa_nil fun σ H Q h => by
  obtain ⟨G, ow, δ, ds, R, hf, q⟩ := h
  cases hf
  exact q [] H (Same.refl H) .nil
theorem db_cons {fr : FA} (hk : isR k = true) (h : DE X fl k e f) (hr : DB X fl k es fr) (hs : starEach (e :: es) X.env = (false, eval e X.env) :: starEach es X.env := by exact star_of rfl) : DB X fl k (e :: es) (dCons f fr) := PA.imp (pa_cons h hr hs) fun σ H Q h => by
  obtain ⟨G, ow, δ, ds, R, hf, q⟩ := h
  obtain ⟨d, e1, hf⟩ := bind1 hf
  obtain ⟨r, e2, hf⟩ := bind1 hf
  cases hf
  refine ⟨G, ow, δ, d, R, e1, fun v H1 s1 r1 => ⟨G, ow, δ, r, R.grow s1, e2, fun vs H2 s2 r2 => ?_⟩⟩
  exact q _ H2 (s1.trans s2) (.cons ((r1.ra hk).same s2) (r2.imp (okOf_back s1 hk) (fun z => z)))
theorem da_of (h : DB X fl .P es fa') : DA X fl es fa' := PA.imp h fun σ H Q h => by
  obtain ⟨G, ow, δ, ds, R, hf, q⟩ := h
  exact ⟨G, ow, δ, ds, R, hf, fun vs H' s r => q vs H' s r⟩
theorem de_tup {x1} {fa : FA} (hk : isR k = true) (h : DB X fl k es fa) : DE X fl k (.Tuple es x1 pos) (dTup fa) := PE.imp (pe_tup h) fun σ H Q h => by
  obtain ⟨G, ow, δ, d, R, hf, q⟩ := h
  obtain ⟨l, e1, e2⟩ := bind1 hf
  by_cases z : l.length ≤ sizeLine
  · rw [if_pos z] at e2
    cases e2
    refine ⟨G, ow, δ, l, R, e1, fun vs H' s r => ⟨by rw [r.length]; exact z, fun p hp => ?_⟩⟩
    have g := same_new hp (.tup vs)
    exact q _ _ (s.trans g) (Rs.of_ra hk (.tup upd_same (r.same g)))
  · rw [if_neg z] at e2
    cases e2
theorem de_lstA {fa : FA} (h : DB X fl .A es fa) : DE X fl .F (.List es pos) (dLst fa) := PE.imp (pe_lst h) fun σ H Q h => by
  obtain ⟨G, ow, δ, d, R, hf, q⟩ := h
  obtain ⟨l, e1, e2⟩ := bind1 hf
  by_cases z : l.length ≤ sizeLine
  · rw [if_pos z] at e2
    cases e2
    refine ⟨G, ow, δ, l, R, e1, fun vs H' s r => ⟨by rw [r.length]; exact z, fun p hp => ?_⟩⟩
    have g := same_new hp (.lst vs)
    exact q _ _ (s.trans g) (.inr ⟨p, vs, l, rfl, rfl, s.free hp, upd_same, (r.track.imp (fun b w => ⟨w.1, fun e => w.2 (e ▸ hp)⟩) (fun z => z)).same g⟩)
  · rw [if_neg z] at e2
    cases e2
theorem de_lstC {fa : FA} (h : DB X fl .C es fa) : DE X fl .FC (.List es pos) (dLst fa) := PE.imp (pe_lst h) fun σ H Q h => by
  obtain ⟨G, ow, δ, d, R, hf, q⟩ := h
  obtain ⟨l, e1, e2⟩ := bind1 hf
  by_cases z : l.length ≤ sizeLine
  · rw [if_pos z] at e2
    cases e2
    refine ⟨G, ow, δ, l, R, e1, fun vs H' s r => ⟨by rw [r.length]; exact z, fun p hp => ?_⟩⟩
    have g := same_new hp (.lst vs)
    exact q _ _ (s.trans g) (.inr ⟨p, vs, l, rfl, rfl, s.free hp, upd_same, (r.track.imp (fun b w => ⟨w.1, fun e => w.2 (e ▸ hp)⟩) (fun z => z)).same g⟩)
  · rw [if_neg z] at e2
    cases e2
theorem RAs.at {K : PySem.W.Frag} {ok : Ok} {pl : Bool} {H : Hp} {vs : List V} {l : List D} {i : Int} {d : D} (r : RAs K ok pl H vs l) (h : pAt l i = some d) : ∃ v, atI vs i = some v ∧ RA K ok pl H v d := by
  unfold pAt at h
  unfold atI
  obtain ⟨j, e1, e2⟩ := bind1 h
  obtain ⟨y, e3, ry⟩ := r.get e2
  exact ⟨y, by rw [r.length, show ixN l.length i = some j from e1]; exact e3, ry⟩
theorem de_ix {L : List Nat} (ha : DE X fl (.B L) a fa) (hb : DE X fl .P b fb) (hs : PlainIx b) : DE X fl .A (.Subscript a b pos) (dOp gIx fa fb) := PE.imp (pe_ix ix_seq ha hb hs) fun σ H Q h => by
  obtain ⟨G, ow, δ, d, R, hf, q⟩ := h
  obtain ⟨x, y, e1, e2, e3⟩ := bind2 hf
  refine ⟨G, ow, δ, x, R, e1, fun v H1 s1 r1 => ⟨G, ow, δ, y, R.grow s1, e2, fun u H2 s2 r2 => ?_⟩⟩
  unfold gIx at e3
  split at e3
  · next l i =>
    obtain rfl := RA.intE r2
    rcases r1 with r1 | ⟨i', _, p, xs, ds, ho, rfl, ez, hx, hr⟩
    · obtain ⟨p, xs, rfl, hx, hr⟩ := RA.lstE (RA.same s2 r1)
      obtain ⟨z, ez, rz⟩ := hr.at e3
      exact .inl ⟨p, xs, i, z, rfl, rfl, hx, ez, q z H2 (s1.trans s2) rz⟩
    · cases ez
      obtain ⟨z, ez, rz⟩ := (hr.same s2).at e3
      exact .inl ⟨p, xs, i, z, rfl, rfl, SqL.of (s2 _ _ hx), ez, q z H2 (s1.trans s2) rz⟩
  · next l i =>
    obtain rfl := RA.intE r2
    rcases r1 with r1 | ⟨i', _, p, xs, ds, ho, rfl, ez, hx, hr⟩
    · obtain ⟨p, xs, rfl, hx, hr⟩ := RA.tupE (RA.same s2 r1)
      obtain ⟨z, ez, rz⟩ := hr.at e3
      exact .inr (.inl ⟨p, xs, i, z, rfl, rfl, hx, ez, q z H2 (s1.trans s2) rz⟩)
    · cases ez
  · cases e3
theorem de_one {op : BoolOp} (h : DE X fl k a f) : DE X fl k (.BoolOp op [a] pos) f := pe_one h
theorem de_and (h1 : DE X fl .P a fa) (h2 : DE X fl k (.BoolOp .And (b :: rest) pos) fb) : DE X fl k (.BoolOp .And (a :: b :: rest) pos) (dAnd fa fb) := PE.imp (pe_and h1 h2) fun σ H Q h => by
  obtain ⟨G, ow, δ, d, R, hf, q⟩ := h
  obtain ⟨x, e1, e2⟩ := bind1 hf
  refine ⟨G, ow, δ, x, R, e1, fun v H1 s1 r1 => ?_⟩
  split at e2
  · obtain rfl := RA.blE r1
    exact ⟨true, rfl, iteT ⟨G, ow, δ, d, R.grow s1, e2, fun u H2 s2 r2 => q u H2 (s1.trans s2) (r2.back s1)⟩⟩
  · obtain rfl := RA.blE r1
    cases e2
    exact ⟨false, rfl, iteF (q _ H1 s1 (Rs.of_flat rfl (.bl _)))⟩
  · cases e2
theorem de_or (h1 : DE X fl .P a fa) (h2 : DE X fl k (.BoolOp .Or (b :: rest) pos) fb) : DE X fl k (.BoolOp .Or (a :: b :: rest) pos) (dOr fa fb) := PE.imp (pe_or h1 h2) fun σ H Q h => by
  obtain ⟨G, ow, δ, d, R, hf, q⟩ := h
  obtain ⟨x, e1, e2⟩ := bind1 hf
  refine ⟨G, ow, δ, x, R, e1, fun v H1 s1 r1 => ?_⟩
  split at e2
  · obtain rfl := RA.blE r1
    cases e2
    exact ⟨true, rfl, iteT (q _ H1 s1 (Rs.of_flat rfl (.bl _)))⟩
  · obtain rfl := RA.blE r1
    exact ⟨false, rfl, iteF ⟨G, ow, δ, d, R.grow s1, e2, fun u H2 s2 r2 => q u H2 (s1.trans s2) (r2.back s1)⟩⟩
  · cases e2
theorem de_not (h1 : DE X fl .P a fa) : DE X fl .FC (.UnaryOp .Not a pos) (dNot fa) := PE.imp (pe_not h1) fun σ H Q h => by
  obtain ⟨G, ow, δ, d, R, hf, q⟩ := h
  obtain ⟨x, e1, e2⟩ := bind1 hf
  refine ⟨G, ow, δ, x, R, e1, fun v H1 s1 r1 => ?_⟩
  split at e2
  · next c =>
    obtain rfl := RA.blE r1
    cases e2
    exact ⟨c, rfl, q _ H1 s1 (Rs.of_flat rfl (.bl _))⟩
  · cases e2
theorem dt_not (h : DT X fl a ft) : DT X fl (.UnaryOp .Not a pos) (tNot ft) := PT.imp (pt_not h) fun σ H Q h => by
  obtain ⟨G, ow, δ, t, R, hf, q⟩ := h
  unfold tNot at hf
  cases e : ft δ with
  | none => rw [e] at hf; cases hf
  | some x =>
    rw [e] at hf
    cases hf
    exact ⟨G, ow, δ, x, R, e, fun H' s => q H' s⟩
theorem dw_and1 (h : DT X fl a ft) : DW X fl (.BoolOp .And [a] pos) ft := pw_and1 h
theorem dw_or1 (h : DT X fl a ft) : DW X fl (.BoolOp .Or [a] pos) ft := pw_or1 h
theorem dw_and (h1 : DT X fl a ft) (h2 : DW X fl (.BoolOp .And (b :: rest) pos) gt) : DW X fl (.BoolOp .And (a :: b :: rest) pos) (tAnd ft gt) := PW.imp (pw_and h1 h2) fun σ H Q h => by
  obtain ⟨G, ow, δ, t, R, hf, q⟩ := h
  obtain ⟨x, e1, e2⟩ := bind1 hf
  refine ⟨G, ow, δ, x, R, e1, fun H1 s1 => ?_⟩
  cases x with
  | true => exact iteT ⟨G, ow, δ, t, R.grow s1, e2, fun H2 s2 => q H2 (s1.trans s2)⟩
  | false => cases e2; exact iteF (q H1 s1)
theorem dw_or (h1 : DT X fl a ft) (h2 : DW X fl (.BoolOp .Or (b :: rest) pos) gt) : DW X fl (.BoolOp .Or (a :: b :: rest) pos) (tOr ft gt) := PW.imp (pw_or h1 h2) fun σ H Q h => by
  obtain ⟨G, ow, δ, t, R, hf, q⟩ := h
  obtain ⟨x, e1, e2⟩ := bind1 hf
  refine ⟨G, ow, δ, x, R, e1, fun H1 s1 => ?_⟩
  cases x with
  | true => cases e2; exact iteT (q H1 s1)
  | false => exact iteF ⟨G, ow, δ, t, R.grow s1, e2, fun H2 s2 => q H2 (s1.trans s2)⟩
theorem dt_w (h : DW X fl a ft) : DT X fl a ft := PW.pt h
theorem isN_eq {K : PySem.W.Frag} {ok : Ok} {pl : Bool} {H : Hp} {v : V} {d : D} (r : RA K ok pl H v d) : decide (v = .non) = isNone d := by
  cases r <;> rfl
theorem de_notN {j pos'} (h : DE X fl .P a f) : DE X fl .FC (.Compare a [.IsNot] [.Constant .none j pos'] pos) (dUn gNotN f) := PE.imp (pe_cmp (pc_notN h)) fun σ H Q h => by
  obtain ⟨G, ow, δ, d, R, hf, q⟩ := h
  obtain ⟨x, e1, e2⟩ := bind1 hf
  cases e2
  refine ⟨G, ow, δ, x, R, e1, fun v H1 s1 r1 => ?_⟩
  show Q (.bl (!decide (v = .non))) H1
  rw [isN_eq (RA.same (Same.refl H1) r1)]
  exact q _ H1 s1 (.inl ⟨rfl, .bl _⟩)
def BrC (K : PySem.W.Frag) (r : List V → Hp → VK → Prop) (g : List D → Option D) : Prop := ∀ (H : Hp) (xs : List V) (ds : List D) (d : D) (Q : VK), RAs K ok1 true H xs ds → g ds = some d → (∀ v, flat d = true → RA K ok0 false H v d → Q v H) → r xs H Q
theorem de_blt {id : String} {r : List V → Hp → VK → Prop} {g : List D → Option D} {x : Str} {p : Pos} {fa : FA} (hc : CallR X (.builtin id) r) (hb : BrC X.K r g) (hg : Gl X x) (hm : X.mg x = none) (hv : bootBuiltins x = some (.builtin id)) (ha : DB X fl .P (e :: es) fa) (hn : x ≠ "__name__" := by decide) (hdb : (x == ("__debug__" : Str)) = false := by decide)
    (he : starEach (e :: es) X.env = (false, eval e X.env) :: starEach es X.env := by exact star_of rfl) (hpl : (backTo pos (starEach es X.env)).any (·.1) = false := by exact pl_of rfl) : DE X fl .FC (.Call (.Name x p) (e :: es) [] pos) (dCall g fa) :=
  PE.imp (pe_callB hc hg hm hv ha hn hdb he hpl) fun σ H Q h => by
  obtain ⟨G, ow, δ, d, R, hf, q⟩ := h
  obtain ⟨ds, e1, e2⟩ := bind1 hf
  exact ⟨G, ow, δ, ds, R, e1, fun vs H' s r' => hb H' vs ds d Q r' e2 fun v hv rv => q v H' s (.inl ⟨hv, rv⟩)⟩
theorem b_len {K : PySem.W.Frag} : BrC K (fun xs H Q => ∃ p ys, xs = [.ref p] ∧ (SqL K H p ys ∨ SqT K H p ys) ∧ Q (.int ys.length) H) gLen := by
  intro H xs ds d Q r e q
  unfold gLen at e
  split at e
  · next l =>
    cases e
    cases r with
    | cons r1 r2 =>
      cases r2
      obtain ⟨a, ys, rfl, hx, hr⟩ := r1.lstE
      refine ⟨a, ys, rfl, .inl hx, ?_⟩
      rw [hr.length]
      exact q _ rfl (.int _)
  · next l =>
    cases e
    cases r with
    | cons r1 r2 =>
      cases r2
      obtain ⟨a, ys, rfl, hx, hr⟩ := r1.tupE
      refine ⟨a, ys, rfl, .inr hx, ?_⟩
      rw [hr.length]
      exact q _ rfl (.int _)
  · cases e
theorem b_abs {K : PySem.W.Frag} : BrC K (fun xs H Q => ∃ i, xs = [.int i] ∧ Q (.int (if i < 0 then -i else i)) H) gAbs := by
  intro H xs ds d Q r e q
  unfold gAbs at e
  split at e
  · cases e
    cases r with
    | cons r1 r2 =>
      cases r2
      obtain rfl := r1.intE
      exact ⟨_, rfl, q _ rfl (.int _)⟩
  · cases e
theorem b_max2 {K : PySem.W.Frag} : BrC K (fun xs H Q => ∃ i j, xs = [.int i, .int j] ∧ Q (.int (if j > i then j else i)) H) gMax2 := by
  intro H xs ds d Q r e q
  unfold gMax2 at e
  split at e
  · cases e
    cases r with
    | cons r1 r2 =>
      cases r2 with
      | cons r2 r3 =>
        cases r3
        obtain rfl := r1.intE
        obtain rfl := r2.intE
        exact ⟨_, _, rfl, q _ rfl (.int _)⟩
  · cases e
theorem b_min2 {K : PySem.W.Frag} : BrC K (fun xs H Q => ∃ i j, xs = [.int i, .int j] ∧ Q (.int (if j < i then j else i)) H) gMin2 := by
  intro H xs ds d Q r e q
  unfold gMin2 at e
  split at e
  · cases e
    cases r with
    | cons r1 r2 =>
      cases r2 with
      | cons r2 r3 =>
        cases r3
        obtain rfl := r1.intE
        obtain rfl := r2.intE
        exact ⟨_, _, rfl, q _ rfl (.int _)⟩
  · cases e
theorem tyD_mem (d : D) : tyD d = "NoneType" ∨ tyD d = "bool" ∨ tyD d = "int" ∨ tyD d = "str" ∨ tyD d = "list" ∨ tyD d = "tuple" ∨ tyD d = "dict" := by
  cases d <;> simp [tyD]
def rIsD (K : PySem.W.Frag) : List V → Hp → VK → Prop := fun xs H Q => ∃ x c d, xs = [x, .ty c] ∧ (c = "int" ∨ c = "bool" ∨ c = "tuple" ∨ c = "list" ∨ c = "str") ∧ RA K ok1 true H x d ∧ Q (.bl (isT c (tyD d))) H
theorem call_isD : CallR X (.builtin "isinstance") (rIsD X.K) := by
  intro pins s σ H xs us Q I r h
  obtain ⟨x, c, d, rfl, hc, ra, q⟩ := h
  obtain ⟨u, w', rfl, rx, rc⟩ := vals2 r
  cases rc
  have kn := kit_nn (K := X.K) hc (tyD_mem d)
  have fin : ∀ tk, EP X pins σ Q (.bool (isT c (tyD d))) { s with toks := tk } := fun tk => ⟨.bl _, H, I.tok _, rfl, q⟩
  cases ra with
  | non => cases (show u = Value.none from rx); exact PySem.W.kia_one PySem.W.kitx_none I.kIn True.intro kn (fun z => nomatch z) fin
  | bl b => cases (show u = Value.bool b from rx); exact PySem.W.kia_one PySem.W.kitx_bool I.kIn True.intro kn (fun z => nomatch z) fin
  | int i => obtain ⟨t, z⟩ := (show ∃ t, u = Value.int i t from rx); cases z; exact PySem.W.kia_one PySem.W.kitx_int I.kIn True.intro kn (fun z => nomatch z) fin
  | str y => obtain ⟨t, z⟩ := (show ∃ t, u = Value.str y t from rx); cases z; exact PySem.W.kia_one PySem.W.kitx_str I.kIn True.intro kn (fun z => nomatch z) fin
  | @lst a xs ds e k q' =>
    cases (show u = Value.ref a from rx)
    obtain ⟨its, _, ⟨o, n, e1, e2, _⟩, _⟩ := I.list (SqL.of e)
    exact PySem.W.kia_one PySem.W.kitx_list I.kIn ⟨_, e1, e2⟩ kn (fun z => nomatch z) fin
  | @lsk a xs ds e k q' =>
    cases (show u = Value.ref a from rx)
    obtain ⟨its, _, ⟨o, n, e1, e2, _⟩, _⟩ := I.list e.sq
    exact PySem.W.kia_one PySem.W.kitx_list I.kIn ⟨_, e1, e2⟩ kn (fun z => nomatch z) fin
  | @tup a xs ds e q' =>
    cases (show u = Value.ref a from rx)
    obtain ⟨its, _, ⟨o, e1, e2, _⟩, _⟩ := I.tuple e.sq
    exact PySem.W.kia_one PySem.W.kitx_tuple I.kIn ⟨_, e1, e2⟩ kn (fun z => nomatch z) fin
  | @dic a kvs e k =>
    rcases dh0_or kvs with ⟨ks, z⟩ | ⟨ks, z⟩
    · rw [z] at e; exact isinst_ok I rx (TyOf.dK e) kn fin
    · rw [z] at e; exact isinst_ok I rx (TyOf.dT e) kn fin
  | @dik a kvs ob e k =>
    cases (show u = Value.ref a from rx)
    have ob := (show ObjOk X.prog X.w H s.heap a (dh0 kvs) from (show L2.Rd H a (dh0 kvs) from .inr ⟨_, e⟩).ok I.hok)
    rcases dh0_or kvs with ⟨ks, z⟩ | ⟨ks, z⟩
    · rw [z] at ob
      obtain ⟨_, _, vs, _, dd⟩ := ob
      obtain ⟨o1, _, _, h1, h2, _⟩ := dd
      exact PySem.W.kia_one PySem.W.kitx_dict I.kIn ⟨_, h1, h2.1⟩ kn (fun z => nomatch z) fin
    · rw [z] at ob
      obtain ⟨_, _, xs, _, o1, _, _, h1, h2, _⟩ := ob
      exact PySem.W.kia_one PySem.W.kitx_dict I.kIn ⟨_, h1, h2.1⟩ kn (fun z => nomatch z) fin
theorem de_isi {T : String} {x : Str} {p p' : Pos} (hc : T = "int" ∨ T = "bool" ∨ T = "tuple" ∨ T = "list" ∨ T = "str") (h : DE X fl .P a f) (hg : Gl X "isinstance") (hm : X.mg "isinstance" = none) (hg' : Gl X x) (hm' : X.mg x = none) (hv' : bootBuiltins x = some (.type T))
    (hn' : x ≠ "__name__" := by decide) (hd' : (x == ("__debug__" : Str)) = false := by decide)
    (he : starEach [a, .Name x p'] X.env = (false, eval a X.env) :: starEach [.Name x p'] X.env := by rfl) (he2 : starEach [.Name x p'] X.env = (false, eval (.Name x p') X.env) :: starEach [] X.env := by rfl) (hpl : (backTo pos (starEach [.Name x p'] X.env)).any (·.1) = false := by rfl) :
    DE X fl .FC (.Call (.Name "isinstance" p) [a, .Name x p'] [] pos) (dUn (gIs T) f) :=
  PE.imp (pe_callB call_isD hg hm boot_isinstance (pa_cons h (pa_cons (pe_bltn (v := .ty T) hg' hm' hv' rfl hn' hd') pa_nil he2) he) (by decide) (by decide) he hpl) fun σ H Q h => by
  obtain ⟨G, ow, δ, d, R, hf, q⟩ := h
  obtain ⟨x, e1, e2⟩ := bind1 hf
  cases e2
  exact ⟨G, ow, δ, x, R, e1, fun v H1 s1 r1 => ⟨v, T, x, rfl, hc, r1, q _ H1 s1 (.inl ⟨rfl, .bl _⟩)⟩⟩
end
def spD (K : PySem.W.Frag) (F : List D → Option D) : Sp := fun vs H Q _ => ∃ ds d, (Tb H ∧ RAs K ok1 true H vs ds) ∧ F ds = some d ∧ ∀ v H', Same H H' → RA K (okN H) false H' v d → Q v H'
section
variable {P : Program} {w : World} {K : PySem.W.Frag} {mg : Str → Option Value} {base : Heap} {x : Str} {ps N : List Str} {st : Stmt} {k n : Nat} {fs : FS} {fl : List Fl}
theorem rel_start {vs : List V} {ds : List D} {H : Hp} (p : Nat) (hp : ∀ i, i < p → fl[i]? = some .A) (hl : ds.length = p) (hN : p ≤ N.length) (r' : Tb H ∧ RAs K ok1 true H vs ds) :
    Rel K fl ⟨H, H, fun _ => none, fun _ => [], r'.1⟩ ow0 (L2.start N vs) H (ds.map (fun d => some (.d d)) ++ List.replicate (N.length - p) none) := by
  have r := r'.2
  have hv : vs.length = p := by rw [r.length]; exact hl
  have get : ∀ i d, (ds.map (fun d => some (U.d d)) ++ List.replicate (N.length - p) none)[i]? = some (some (.d d)) → i < p ∧ ds[i]? = some d := fun i d h => by
    by_cases hi : i < p
    · rw [List.getElem?_append_left (by rw [List.length_map, hl]; exact hi), List.getElem?_map] at h
      cases e : ds[i]? with
      | none => rw [e] at h; cases h
      | some z => rw [e] at h; cases h; exact ⟨hi, rfl⟩
    · rw [List.getElem?_append_right (by rw [List.length_map, hl]; omega), List.getElem?_replicate] at h
      split at h <;> cases h
  refine ⟨Same.refl H, Same.refl H, ?_, fun i a h => (by cases h), fun i j a h => (by cases h), fun i h => rfl, fun i d h _ _ => ?_, fun i d h _ h2 _ => ?_, fun i a h => (by cases h), fun i j a h => (by cases h), fun i j a h => (by cases h), fun i h => rfl, fun i d hn h => ?_⟩
  · unfold L2.start
    simp only [List.length_append, List.length_map, List.length_replicate, hv, hl]
  · obtain ⟨hi, e⟩ := get i d h
    obtain ⟨v, e1, e2⟩ := r.get e
    refine ⟨v, ?_, e2.imp (fun _ _ => ⟨fun i z => (by cases z), fun i z => (by cases z)⟩) (fun z => z)⟩
    unfold L2.start
    rw [List.getElem?_append_left (by rw [List.length_map, hv]; exact hi), List.getElem?_map, e1]
    rfl
  · exact absurd (hp i (get i d h).1) h2
  · rw [hp i (get i d h).1] at hn
    cases hn
end
section
variable {X : Cx} {fl : List Fl} {e : Expr} {es : List Expr} {pos p : Pos} {x : Str} {ps : List Str} {n : Nat} {F : List D → Option D} {fa : FA}
theorem de_call (h : Has X.prog X.w X.K X.mg X.base n x ps (spD X.K F)) (hr : Room n X.A) (ha : DB X fl .P (e :: es) fa) (hg : Gl X x := by rfl) (hdb : (x == ("__debug__" : Str)) = false := by decide)
    (he : starEach (e :: es) X.env = (false, eval e X.env) :: starEach es X.env := by exact star_of rfl) (hpl : (backTo pos (starEach es X.env)).any (·.1) = false := by exact pl_of rfl) :
    DE X fl .C (.Call (.Name x p) (e :: es) [] pos) (dCall F fa) := PE.imp (pe_callH h hr ha hg hdb he hpl) fun σ H Q h => by
  obtain ⟨G, ow, δ, d, R, hf, q⟩ := h
  obtain ⟨ds, e1, e2⟩ := bind1 hf
  refine ⟨G, ow, δ, ds, R, e1, fun vs H' s r => ?_⟩
  show spD X.K F (vs ++ []) H' Q E0
  rw [List.append_nil]
  exact ⟨ds, d, ⟨R.tb.same s, r⟩, e2, fun v H2 s2 r2 => q v H2 (s.trans s2) (RA.imp (fun a z => s.free z) (fun z => z) r2)⟩
end
end D3
namespace D3
open PySem PySem.Spec PyProof.Rows L2 My
section
variable {X : Cx} {fl fl' : List Fl} {e a b c elt tg iter : Expr} {es ifs : List Expr} {k : Kd} {f fa fb fc : FE} {ft gt : FT} {pos : Pos} {scope : Scope} {ix L TT : List Nat} {fi : FA} {g : FG}
theorem pts_yes : PTs X [] (tDT X.K fl D3.tYes) := fun pins s σ H Q I h => by
  obtain ⟨G, ow, δ, b, R, hf, q⟩ := h
  cases hf
  exact pts_nil pins s σ H Q I (q H (Same.refl H))
theorem cap_rel {K : PySem.W.Frag} {G : Gh} {ow : Ow} {σ : St} {H H1 : Hp} {δ : DS} (t : Nat) (ix : List Nat) (hfl : ∀ i, i < t + ix.length → fl'[i]? = some .A) (R : Rel K fl G ow σ H δ) (s : Same H H1) :
    Rel K fl' ⟨H, H, fun _ => none, fun _ => [], R.tb⟩ ow0 (capσ t ix σ) H1 (capD t ix δ) := by
  have get : ∀ i d, (capD t ix δ)[i]? = some (some (.d d)) → i < t + ix.length ∧ ∃ j, ix[i - t]? = some j ∧ t ≤ i ∧ δ[j]? = some (some (.d d)) := fun i d h => by
    unfold capD at h
    by_cases hi : i < t
    · rw [List.getElem?_append_left (by rw [List.length_replicate]; exact hi), List.getElem?_replicate, if_pos hi] at h
      cases h
    · rw [List.getElem?_append_right (by rw [List.length_replicate]; omega), List.length_replicate, List.getElem?_map] at h
      cases e : ix[i - t]? with
      | none => rw [e] at h; cases h
      | some j =>
        rw [e] at h
        have hl : i - t < ix.length := by
          rcases Nat.lt_or_ge (i - t) ix.length with z | z
          · exact z
          · rw [List.getElem?_eq_none z] at e; cases e
        refine ⟨by omega, j, rfl, by omega, ?_⟩
        have h' : (δ[j]?).getD none = some (.d d) := by simpa using h
        cases q : δ[j]? with
        | none => rw [q] at h'; cases h'
        | some o => rw [q] at h'; simp at h'; rw [h']
  refine ⟨Same.refl H, s, ?_, fun i a h => (by cases h), fun i j a h => (by cases h), fun i h => rfl, fun i d h _ _ => ?_, fun i d h _ h2 _ => absurd (hfl i (get i d h).1) h2, fun i a h => (by cases h), fun i j a h => (by cases h), fun i j a h => (by cases h), fun i h => rfl, fun i d hn h => (by rw [hfl i (get i d h).1] at hn; cases hn)⟩
  · unfold capσ capD
    simp
  · obtain ⟨hi, j, ej, ht, ed⟩ := get i d h
    have key : ∃ v, σ[j]? = some (some v) ∧ RA K ok1 true H v d := by
      cases hN : isN fl[j]? with
      | true =>
        obtain ⟨v, h1, h2, _⟩ := R.nr j d hN ed
        exact ⟨v, h1, h2.ra fun _ _ => trivial⟩
      | false =>
      cases ho : ow j with
      | none =>
        obtain ⟨v, h1, h2⟩ := R.dat j d ed hN ho
        exact ⟨v, h1, h2.imp (fun _ _ => trivial) (fun z => z)⟩
      | some a =>
        obtain ⟨_, _, xs, ds, h1, h2, h3, h4⟩ := R.own j a ho
        rw [ed] at h4
        cases h4
        exact ⟨_, h1, .lst h2 trivial (h3.imp (fun _ _ => trivial) (fun z => z))⟩
    obtain ⟨v, h1, h2⟩ := key
    refine ⟨v, ?_, (h2.imp (fun _ _ => ⟨fun i z => (by cases z), fun i z => (by cases z)⟩) (fun z => z)).same s⟩
    unfold capσ
    rw [List.getElem?_append_right (by rw [List.length_replicate]; omega), List.length_replicate, List.getElem?_map, ej]
    show some ((σ[j]?).getD none) = _
    rw [h1]
    rfl
theorem comp_bridge {σ : St} {H : Hp} {Q : VK} {t : Nat} (hfl : ∀ i, i < t + ix.length → fl'[i]? = some .A) (htg : ∀ j ∈ TT, j < t)
    (h : tD X.K fl .FC (dComp fi g ft f t ix) σ H Q) : tComp (tDI X.K fl L fi) (tDG X.K fl' TT g) (tDT X.K fl' ft) (tD X.K fl' .C f) t (capσ t ix) σ H Q := by
  obtain ⟨G, ow, δ, d, R, hf, q⟩ := h
  obtain ⟨l, e1, e2⟩ := bind1 hf
  by_cases hl : l.length ≤ 100000
  case neg => rw [if_neg hl] at e2; cases e2
  rw [if_pos hl] at e2
  obtain ⟨r, e3, e4⟩ := bind1 e2
  cases e4
  refine ⟨G, ow, δ, l, R, e1, fun J H1 s1 wk Dl hD => ?_⟩
  have R1 := R.grow s1
  let okD : Ok := fun b => okN H b ∧ b ≠ Dl
  refine ⟨fun i m xs H2 => m = l.length - i ∧ H2 Dl = some (.lst xs) ∧ Same H1 H2 ∧ xs.length ≤ i ∧ i ≤ l.length ∧ ∃ ds rest, RAs X.K okD false H2 xs ds ∧ compD g ft f (capD t ix δ) (l.drop i) = some rest ∧ r = ds ++ rest,
    ⟨_, rfl, upd_same, same_new hD _, Nat.le_refl _, Nat.zero_le _, [], r, .nil, by simpa using e3, rfl⟩, ?_⟩
  rintro i m xs H2 ⟨rfl, hDl, s2, hxl, hil, ds, rest, hr, hc, rfl⟩
  refine ⟨hDl, ?_⟩
  obtain ⟨w1, w2⟩ := wk H2 (fun b o hb _ _ => s2 b o hb) i
  by_cases hlt : i < l.length
  · have hdrop : l.drop i = l[i] :: l.drop (i + 1) := List.drop_eq_getElem_cons hlt
    rw [hdrop, compD] at hc
    obtain ⟨δ1, e5, hc⟩ := bind1 hc
    obtain ⟨bb, e6, hc⟩ := bind1 hc
    obtain ⟨go, yl⟩ := w1 l[i] (List.getElem?_eq_getElem hlt)
    refine .inr ⟨go, Nat.lt_of_le_of_lt (Nat.le_trans hxl (Nat.le_trans hil hl)) (by decide), fun x H3 hy => ?_⟩
    obtain ⟨s3, r3⟩ := yl x H3 hy
    have s13 := s2.trans s3
    have Rb := (cap_rel t ix hfl R1 (Same.refl H1)).grow s13
    refine ⟨_, _, _, _, δ1, Rb, r3.imp (fun _ _ => ⟨fun i z => (by cases z), fun i z => (by cases z)⟩) (fun z => z), e5, fun σ4 R4 keep4 => ⟨?_, ?_⟩⟩
    · apply List.ext_getElem?
      intro n
      rw [List.getElem?_drop, List.getElem?_drop]
      exact keep4 (t + n) fun z => absurd (htg _ z) (by omega)
    · refine ⟨_, _, δ1, bb, R4, e6, fun H5 s5 => ?_⟩
      cases bb with
      | false =>
        rw [if_neg Bool.false_ne_true] at hc ⊢
        have s35 := s3.trans s5
        exact ⟨l.length - (i + 1), by omega, rfl, s35 _ _ hDl, s2.trans s35, by omega, hlt, ds, rest, hr.same s35, hc, rfl⟩
      | true =>
        rw [if_pos rfl] at hc ⊢
        obtain ⟨y, e7, hc⟩ := bind1 hc
        obtain ⟨l', e8, hc⟩ := bind1 hc
        cases hc
        refine ⟨_, _, δ1, y, R4.grow s5, e7, fun v H6 s6 r6 => ?_⟩
        have s35 := s3.trans s5
        have s36 := s35.trans s6
        refine ⟨s36 _ _ hDl, l.length - (i + 1), by omega, rfl, upd_same, ?_, by rw [List.length_append, List.length_singleton]; omega, hlt, ds ++ [y], l', ?_, e8, by simp⟩
        · intro b o hb
          rw [upd_ne (fun z => by subst z; rw [hD] at hb; cases hb)]
          exact (s2.trans s36) b o hb
        · have nd : ¬ okD Dl := fun z => z.2 rfl
          have s05 : Same H H5 := s1.trans (s2.trans s35)
          have ry : RA X.K okD false H6 v y := RA.imp (fun b z => ⟨s05.free z, fun e => by subst e; rw [okN, s35 _ _ hDl] at z; cases z⟩) (fun z => z) r6
          exact ((hr.same s36).append (.cons ry .nil)).upd (s36 _ _ hDl) nd
  · have ed : l.drop i = [] := List.drop_eq_nil_of_le (by omega)
    rw [ed, compD] at hc
    cases hc
    refine .inl ⟨w2 (by omega), ?_⟩
    rw [List.append_nil] at q
    exact q (.ref Dl) H2 (s1.trans s2) (.inr ⟨Dl, xs, ds, rfl, rfl, s1.free hD, hDl, hr⟩)
theorem de_comp (hc : X.calm = true) (T Vn : List Str) (ix : List Nat) (hi : DI X fl L tg iter fi)
    (hg : ∀ cl C s3 H3 fp, DG (blk X (T ++ Vn) scope cl C s3 H3 fp) fl' TT tg g) (ht : ∀ cl C s3 H3 fp, PTs (blk X (T ++ Vn) scope cl C s3 H3 fp) ifs (tDT X.K fl' ft)) (he : ∀ cl C s3 H3 fp, DE (blk X (T ++ Vn) scope cl C s3 H3 fp) fl' .C elt f)
    (hfl : ∀ i, i < T.length + ix.length → fl'[i]? = some .A := by decide) (htg : ∀ j ∈ TT, j < T.length := by decide)
    (hB : capB X.N X.env.scope.names scope.names Vn ix = true := by rfl) (hk : scope.kind = .function := by rfl) (hcell : ∀ y ∈ scope.names, y.2 ≠ .cell := by decide +kernel)
    (hnames : ∀ x ∈ scope.names, x.2 = .local → scope.names.lookup x.1 = some .local := by decide +kernel)
    (hfr : ∀ x ∈ scope.names, x.2 = .free → x.1 ∈ Vn := by decide +kernel) (hs : ∀ x, foldedSetIterable iter X.env x = pure x := by intro _; rfl) :
    DE X fl .FC (.ListComp elt [⟨tg, iter, ifs, 0⟩] scope pos) (dComp fi g ft f T.length ix) :=
  PE.imp (pe_comp hc T Vn ix hi hg ht he hB hk hcell hnames hfr hs) fun _ _ _ h => comp_bridge hfl htg h
theorem ds_setCA {i : Nat} {x : Str} {pos' spos : Pos} (hfx : fl[i]? = some .A) (hN : X.N.Nodup) (hi' : X.N[i]? = some x) (hx : X.env.scope.names.lookup x = some .local) (hc : X.calm = true) (T Vn : List Str) (ix : List Nat) (hi : DI X fl L tg iter fi)
    (hg : ∀ cl C s3 H3 fp, DG (blk X (T ++ Vn) scope cl C s3 H3 fp) fl' TT tg g) (ht : ∀ cl C s3 H3 fp, PTs (blk X (T ++ Vn) scope cl C s3 H3 fp) ifs (tDT X.K fl' ft)) (he : ∀ cl C s3 H3 fp, DE (blk X (T ++ Vn) scope cl C s3 H3 fp) fl' .C elt f)
    (hfl : ∀ i, i < T.length + ix.length → fl'[i]? = some .A := by decide) (htg : ∀ j ∈ TT, j < T.length := by decide)
    (hsw : swapsWith (.ListComp elt [⟨tg, iter, ifs, 0⟩] scope pos) (some (.Name x pos')) spos.line X.env = pure true := by rfl)
    (hB : capB X.N X.env.scope.names scope.names Vn ix = true := by rfl) (hk : scope.kind = .function := by rfl) (hcell : ∀ y ∈ scope.names, y.2 ≠ .cell := by decide +kernel)
    (hnames : ∀ x ∈ scope.names, x.2 = .local → scope.names.lookup x.1 = some .local := by decide +kernel)
    (hfr : ∀ x ∈ scope.names, x.2 = .free → x.1 ∈ Vn := by decide +kernel) (hs : ∀ x, foldedSetIterable iter X.env x = pure x := by intro _; rfl) :
    DS1 X fl (.Assign [.Name x pos'] (.ListComp elt [⟨tg, iter, ifs, 0⟩] scope pos) spos) (sSetl i (dComp fi g ft f T.length ix)) :=
  PS.imp (ps_setC hN hi' hx hc T Vn ix hi hg ht he hsw hB hk hcell hnames hfr hs) fun Dn σ H h => by
  obtain ⟨G, ow, δ, o, R, hf, q⟩ := h
  unfold sSetl at hf
  by_cases hl : i < δ.length
  · rw [if_pos hl] at hf
    obtain ⟨d, e1, e2⟩ := bind1 hf
    cases e2
    exact comp_bridge (fl := fl) hfl htg ⟨G, ow, δ, d, R, e1, fun v H' s r => q ow _ H' ((R.grow s).setA hfx (slot_lt R hl) ((r.FC_F R).F_A R))⟩
  · rw [if_neg hl] at hf
    cases hf
theorem new_F {K : PySem.W.Frag} {G : Gh} {ow : Ow} {H H1 : Hp} {p : Addr} {vs : List V} {l : List D} (s : Same H H1) (hp : H1 p = none) (r : RAs K (okA ow) true H1 vs l) : Rs K G.H0 ow H (upd H1 p (.lst vs)) .F (.ref p) (.list l) :=
  .inr ⟨p, vs, l, rfl, rfl, s.free hp, upd_same, (r.track.imp (fun b w => ⟨w.1, fun e => w.2 (e ▸ hp)⟩) (fun z => z)).same (same_new hp _)⟩
theorem B_list {K : PySem.W.Frag} {H0 : Hp} {ow : Ow} {Hb H : Hp} {L : List Nat} {v : V} {l : List D} (r : Rs K H0 ow Hb H (.B L) v (.list l)) : ∃ a xs, v = .ref a ∧ SqL K H a xs ∧ RAs K (okA ow) true H xs l := by
  rcases r with r | ⟨i, hi, a, xs, ds, ho, rfl, e, hx, hr⟩
  · exact r.lstE
  · cases e
    exact ⟨a, xs, rfl, SqL.of hx, hr⟩
def rCatS (K : PySem.W.Frag) : R2 := fun x y H Q => ∃ l b xs zs, x = .ref l ∧ y = .ref b ∧ SqL K H l xs ∧ SqL K H b zs ∧ xs.length + zs.length ≤ sizeLine ∧ ∀ p, H p = none → Q (.ref p) (upd H p (.lst (xs ++ zs)))
theorem op_catS : OpR X (binaryOp .Add) (rCatS X.K) := by
  intro pins s σ H x y v u Q I rx ry h
  obtain ⟨l, b, xs, zs, rfl, rfl, hH, hB, hz, q⟩ := h
  cases rx
  cases ry
  obtain ⟨its, r, p, _⟩ := I.list hH
  obtain ⟨its2, r2, p2, _⟩ := I.list hB
  obtain ⟨⟨cls, dd, data, sl⟩, ho, hc, n, hd⟩ := p.isList
  obtain ⟨⟨cls2, dd2, data2, sl2⟩, ho2, hc2, n2, hd2⟩ := p2.isList
  simp only at hc hd hc2 hd2
  subst hc hd hc2 hd2
  have e1 := r.length
  have e2 := r2.length
  have e : its.toArray ++ its2.toArray = (its ++ its2).toArray := by simp
  refine concat_meets ⟨_, ho, rfl⟩ ⟨_, ho2, rfl⟩ noFill_list_add seq_list_add PySem.F.slot_list_add PySem.F.entry_list_add (PySem.F.args_list_add_2 _ _) (list_addW l b its.toArray its2.toArray n n2 dd dd2 sl sl2 (by simp; omega)) ⟨ho, ho2, ?_⟩
  rw [e]
  exact ⟨.ref _, _, I.lnew (t' := s.toks) (r.append r2) (by rw [List.length_append]; omega), rfl, q _ I.fresh⟩
theorem de_cat {L L' : List Nat} (h1 : DE X fl (.B L) a fa) (h2 : DE X fl (.B L') b fb) : DE X fl .F (.BinOp a .Add b pos) (dOp gCat fa fb) := PE.imp (pe_op op_catS h1 h2) fun σ H Q h => by
  obtain ⟨G, ow, δ, d, R, hf, q⟩ := h
  obtain ⟨x, y, e1, e2, e3⟩ := bind2 hf
  refine ⟨G, ow, δ, x, R, e1, fun v H1 s1 r1 => ⟨G, ow, δ, y, R.grow s1, e2, fun u H2 s2 r2 => ?_⟩⟩
  unfold gCat at e3
  split at e3
  · next l m =>
    by_cases z : l.length + m.length ≤ 1000000
    · rw [if_pos z] at e3
      cases e3
      obtain ⟨p, xs, rfl, hx, hr⟩ := B_list r1
      obtain ⟨p', ys, rfl, hy, hr'⟩ := B_list r2
      refine ⟨p, p', xs, ys, rfl, rfl, s2.seq hx, hy, ?_, fun pn hp => q _ _ ((s1.trans s2).trans (same_new hp _)) (new_F (G := G) (s1.trans s2) hp ((hr.same s2).append hr'))⟩
      rw [hr.length, hr'.length]
      exact Nat.le_trans z (by decide)
    · rw [if_neg z] at e3
      cases e3
  · cases e3
theorem de_list {L : List Nat} {p : Pos} (h : DE X fl (.B L) a f) (hg : Gl X "list") (hm : X.mg "list" = none)
    (he : starEach [a] X.env = (false, eval a X.env) :: starEach [] X.env := by rfl) (hpl : (backTo pos (starEach [] X.env)).any (·.1) = false := by rfl) : DE X fl .F (.Call (.Name "list" p) [a] [] pos) (dUn gList f) :=
  PE.imp (pe_callTy call_list_of hg hm boot_list (pa_cons h pa_nil he) (by decide) (by decide) he hpl) fun σ H Q h => by
  obtain ⟨G, ow, δ, d, R, hf, q⟩ := h
  obtain ⟨x, e1, e2⟩ := bind1 hf
  refine ⟨G, ow, δ, x, R, e1, fun v H1 s1 r1 => ?_⟩
  unfold gList at e2
  split at e2
  · cases e2
    obtain ⟨p, xs, rfl, hx, hr⟩ := B_list r1
    exact ⟨p, xs, rfl, .inl hx, fun pn hp => q _ _ (s1.trans (same_new hp _)) (new_F (G := G) s1 hp hr)⟩
  · cases e2
    rcases r1 with r1 | ⟨i, hi, a, xs, ds, ho, rfl, e, hx, hr⟩
    · obtain ⟨p, xs, rfl, hx, hr⟩ := r1.tupE
      exact ⟨p, xs, rfl, .inr hx, fun pn hp => q _ _ (s1.trans (same_new hp _)) (new_F (G := G) s1 hp hr)⟩
    · cases e
  · cases e2
theorem PO.imp {o : Option Expr} {t t' : TO} (h : PO X o t) (i : ∀ σ H Q, t' σ H Q → t σ H Q) : PO X o t' := fun pins s σ H Q I q => h pins s σ H Q I (i σ H Q q)
end
end D3
namespace D3
open PySem PySem.Spec PyProof.Rows L2 My
section
variable {X : Cx} {pins : List (Addr × Obj)} {σ : St} {H : Hp} {s : Shared} {h' : Heap}
theorem Inv.turnedL {t' : Nat} {ch : List Addr} (I : Inv X pins σ H s) (k : ∀ b o, b ∉ ch → s.heap.get? b = some o → h'.get? b = some o) (hf : ∀ b ∈ ch, FpOk X pins H b) : Inv X pins σ H { s with heap := h', toks := t' } := by
  have nit : ∀ b u, H b = some u → b ∉ ch := fun b u e z => by rw [(hf b z).1] at e; cases e
  refine I.step (g' := s.gens) (d' := s.drawn) (ch := ch) (fun b hb => ?_) (fun b o _ _ hc e _ => k b o hc e) (fun b o _ _ hc e _ => ⟨o.slots, k b o hc e⟩) (fun _ _ _ _ n => n)
    (fun b o hc e => ⟨o, k b o hc e⟩) (fun _ _ e => e) (fun _ _ _ e => e) (fun _ _ _ e => e) (fun m hm => ?_) (fun b u e => ?_) I.bare
  · obtain ⟨f0, f1, f2, f3, f4, f5⟩ := hf b hb
    exact ⟨f3, f1, f4, f5⟩
  · obtain ⟨o, es, ep, ho, r⟩ := hm
    exact ⟨o, es, ep, k _ o (fun z => (hf _ z).2.1 rfl) ho, r⟩
  · refine (I.hok b u e).stay (fun c v hc q => k c v ?_ q) (fun _ q => q) fun _ _ q => q
    rcases hc with z | z
    · rw [z]; exact nit b u e
    · exact nit c _ z
end
section
variable {X : Cx} {fl : List Fl} {a : Expr} {f : FE} {pos : Pos}
end
structure Bl (mg : Str → Option Value) : Prop where
  len_ : mg "len" = none
  range_ : mg "range" = none
  abs_ : mg "abs" = none
  isinstance_ : mg "isinstance" = none
  int_ : mg "int" = none
  bool_ : mg "bool" = none
  tuple_ : mg "tuple" = none
  list_ : mg "list" = none
  str_ : mg "str" = none
  max_ : mg "max" = none
  min_ : mg "min" = none
  sorted_ : mg "sorted" = none
  sum_ : mg "sum" = none
  reversed_ : mg "reversed" = none
  enumerate_ : mg "enumerate" = none
  zip_ : mg "zip" = none
  set_ : mg "set" = none
  any_ : mg "any" = none
  all_ : mg "all" = none
  dict_ : mg "dict" = none
end D3
namespace D3
open PySem PySem.Spec PyProof.Rows L2 My
structure FunD (K : PySem.W.Frag) (x : Str) (st : Stmt) (f : Addr) (fd : FuncData) : Prop where
  ex : ∃ (oc : Value) (od : Option Addr) (dV kV doc pm : Value) (an : Option Addr) (cdv ct : Value) (osl : Array (Option Value)),
    fd = PySem.W.fnOf x x (defArgs st) (defBody st) (defScope st) dV kV doc pm an cdv ct ∧ K.lookup f = some ⟨oc, od, .func fd, osl⟩ ∧ PySem.W.codeIn K cdv x = true
  kp : PySem.W.keepIn K (.ref f) = true
structure Dg (K : PySem.W.Frag) (mg : Str → Option Value) (x : Str) (st : Stmt) (ps : List Str) : Prop where
  ex : ∃ (f : Addr) (fd : FuncData), FunD K x st f fd ∧ Binds K fd ps [] ∧ mg x = some (.ref f)
theorem dg_mk {K : PySem.W.Frag} {h : Heap} {mg : Str → Option Value} {f : Addr} {oc kV dc pm cd ct : Value} {od an : Option Addr} {sl : Array (Option Value)} {x : Str} {st : Stmt} {ps : List Str} (X : K.In h) (G : h.Ns mainGlobals mg)
    (hb : ∀ (kV doc pm : Value) (an : Option Addr) (cdv ct : Value) (us : List Value), us.length = ps.length → bindArgs (PySem.W.fnOf x x (defArgs st) (defBody st) (defScope st) .none kV doc pm an cdv ct) ⟨us, []⟩ = pure (ps.zip us))
    (a : PySem.W.nsIn K mainGlobals x = some (some (.ref f))) (l : K.lookup f = some ⟨oc, od, .func (PySem.W.fnOf x x (defArgs st) (defBody st) (defScope st) .none kV dc pm an cd ct), sl⟩) (c : PySem.W.codeIn K cd x = true) (k : PySem.W.keepIn K (.ref f) = true) : Dg K mg x st ps :=
  ⟨_, _, ⟨⟨oc, od, .none, kV, dc, pm, an, cd, ct, sl, rfl, l, c⟩, k⟩, .all (hb kV dc pm an cd ct), PySem.W.mg_of X G a⟩
structure Dl (K : PySem.W.Frag) (mg : Str → Option Value) (x y : Str) (st : Stmt) : Prop where
  ex : ∃ (f : Addr) (fd : FuncData), FunD K x st f fd ∧ (∀ (s : Shared) (u : Value), BindsTo s fd ⟨[u], []⟩ [(y, u)]) ∧ mg x = some (.ref f)
theorem dl_mk {K : PySem.W.Frag} {h : Heap} {mg : Str → Option Value} {f : Addr} {oc kV dc pm cd ct : Value} {od an : Option Addr} {sl : Array (Option Value)} {x y : Str} {st : Stmt} (X : K.In h) (G : h.Ns mainGlobals mg)
    (hb : ∀ (kV doc pm : Value) (an : Option Addr) (cdv ct : Value) (u : Value), bindArgs (PySem.W.fnOf x x (defArgs st) (defBody st) (defScope st) .none kV doc pm an cdv ct) ⟨[u], []⟩ = pure [(y, u)])
    (a : PySem.W.nsIn K mainGlobals x = some (some (.ref f))) (l : K.lookup f = some ⟨oc, od, .func (PySem.W.fnOf x x (defArgs st) (defBody st) (defScope st) .none kV dc pm an cd ct), sl⟩) (c : PySem.W.codeIn K cd x = true) (k : PySem.W.keepIn K (.ref f) = true) : Dl K mg x y st :=
  ⟨_, _, ⟨⟨oc, od, .none, kV, dc, pm, an, cd, ct, sl, rfl, l, c⟩, k⟩, fun s u => .of_eq (hb kV dc pm an cd ct u), PySem.W.mg_of X G a⟩
section
variable {P : Program} {w : World} {K : PySem.W.Frag} {mg : Str → Option Value} {base : Heap} {x : Str} {ps N : List Str} {st : Stmt} {k n : Nat} {fs : FS} {fl : List Fl}
theorem FunD.ok {f : Addr} {fd : FuncData} {sp : Sp} (F : FunD K x st f fd) (S : FnScope N ps (defScope st)) (len : ∀ vs H Q E, sp vs H Q E → vs.length = ps.length)
    (hbody : ∀ (cdv : Value) (A : Around) (outer : List Env) (s : Shared) (H : Hp) (vs : List V) (Q : VK) (E : XK), Room k (A.deeper (envOfC x (defScope st) s.heap.objs.size f cdv)) → sp vs H Q E →
      ∃ t, PSs (cxOf CX0 P w K mg base N x (defScope st) f cdv A outer s H E).nox (defBody st) t ∧ t { nx := fun _ H' => Q .non H', rt := Q } (L2.start N vs) H) : FnOk P w K mg base CX0 (k + 1) f fd ps sp := by
  obtain ⟨oc, od, dV, kV, doc, pm, an, cdv, ct, osl, rfl, lk, hcd⟩ := F.ex
  refine fn_of lk hcd S len fun A outer s H vs Q E hr hsp => ?_
  obtain ⟨t, h, q⟩ := hbody cdv A outer s H vs Q E hr hsp
  exact ⟨t, h.nox, q⟩
theorem fun_ok {f : Addr} {fd : FuncData} (Fn : FunD K x st f fd) (S : FnScope N ps (defScope st)) (hp : ∀ i, i < ps.length → fl[i]? = some .A) (hN : ps.length ≤ N.length)
    (hbody : ∀ (f : Addr) (cdv : Value) (A : Around) (outer : List Env) (s : Shared) (H : Hp) (E : XK), Room k (A.deeper (envOfC x (defScope st) s.heap.objs.size f cdv)) → DSs (cx P w K mg base N x st f cdv A outer s H E) fl (defBody st) fs) :
    FnOk P w K mg base CX0 (k + 1) f fd ps (spD K (fnD ps.length (N.length - ps.length) fs)) := by
  refine Fn.ok S (fun vs H Q E h => ?_) (fun cdv A outer s H vs Q E hr h => ?_)
  · obtain ⟨ds, d, r, hf, _⟩ := h
    unfold fnD at hf
    by_cases z : ds.length = ps.length
    · rw [r.2.length]; exact z
    · rw [if_neg z] at hf; cases hf
  · obtain ⟨ds, d, r, hf, q⟩ := h
    refine ⟨_, hbody f cdv A outer s H E hr, ?_⟩
    unfold fnD at hf
    by_cases z : ds.length = ps.length
    · rw [if_pos z] at hf
      split at hf
      · next d' e =>
        cases hf
        exact ⟨_, _, _, _, rel_start ps.length hp z hN r, e, fun v H' s r => q v H' s r⟩
      · next δ' e =>
        cases hf
        exact ⟨_, _, _, _, rel_start ps.length hp z hN r, e, fun ow' σ' H' R' => q .non H' R'.same0 .non⟩
      · cases hf
    · rw [if_neg z] at hf; cases hf
theorem dg_ok (Dd : Dg K mg x st ps) (S : FnScope N ps (defScope st)) (hp : ∀ i, i < ps.length → fl[i]? = some .A) (hN : ps.length ≤ N.length)
    (hbody : ∀ (f : Addr) (cdv : Value) (A : Around) (outer : List Env) (s : Shared) (H : Hp) (E : XK), Room k (A.deeper (envOfC x (defScope st) s.heap.objs.size f cdv)) → DSs (cx P w K mg base N x st f cdv A outer s H E) fl (defBody st) fs) :
    Has P w K mg base (k + 1) x ps (spD K (fnD ps.length (N.length - ps.length) fs)) := by
  obtain ⟨f, fd, Fn, b, m⟩ := Dd.ex
  exact ⟨f, fd, fun_ok Fn S hp hN hbody, b, Fn.kp, m⟩
end
def spLaw (K : PySem.W.Frag) : Sp := fun vs H Q _ => ∃ (a : Addr) (ns : List Int), Tb H ∧ vs = [.ref a] ∧ SqL K H a (ns.map V.int) ∧ ns.length ≤ 63 ∧ ∀ H', Q (.bl true) H'
theorem ra_ints {K : PySem.W.Frag} {ok : Ok} {pl : Bool} {H : Hp} : ∀ ns : List Int, RAs K ok pl H (ns.map V.int) (ns.map PyData.int)
  | [] => .nil
  | n :: r => .cons (.int n) (ra_ints r)
theorem law_imp {K : PySem.W.Frag} {F : List D → Option D} (hF : ∀ ns : List Int, ns.length ≤ 63 → F [.list (ns.map .int)] = some (.bool true)) (vs : List V) (H : Hp) (Q : VK) (E : XK) (h : spLaw K vs H Q E) : spD K F vs H Q E := by
  obtain ⟨a, ns, tb, rfl, hS, hl, q⟩ := h
  refine ⟨_, _, ⟨tb, .cons ?_ .nil⟩, hF ns hl, fun v H' s r => ?_⟩
  · rcases hS with (h | ⟨o, h⟩) | h
    · exact .lst h trivial (ra_ints ns)
    · exact .lsk (.inl ⟨o, h⟩) rfl (ra_ints ns)
    · exact .lsk (.inr h) rfl (ra_ints ns)
  · obtain rfl := r.blE
    exact q H'
end D3
namespace D3
open PySem PySem.Spec PyProof.Rows L2 My
section
variable {prog : Program} {w : World} {A : Around} {E : Value → Shared → Prop} {s : Shared}
end
section
variable {X : Cx} {fl : List Fl} {a : Expr} {f : FE} {pos p p2 pos2 : Pos}
end
section
variable {X : Cx} {fl : List Fl} {a b : Expr} {pos p p2 pos2 : Pos} {fa : FA}
end
end D3
namespace D3
open PySem PySem.Spec PyProof.Rows L2 My
section
variable {X : Cx}
theorem ints_are : ∀ {ns : List Int} {its : List Value}, Vals (ns.map V.int) its → IntsAre its ns
  | [], _, .nil => .nil
  | n :: r, _, .cons h t => by
    obtain ⟨k, rfl⟩ := h
    exact .cons _ _ (ints_are t)
theorem intsD_ra {K : PySem.W.Frag} {ok : Ok} {pl : Bool} {H : Hp} : ∀ {l : List D} {ns : List Int} {ys : List V}, intsD l = some ns → RAs K ok pl H ys l → ys = ns.map V.int
  | [], _, _, e, .nil => by cases e; rfl
  | d :: r, ns, _, e, .cons h t => by
    cases d <;> first | (cases e; done) | skip
    obtain rfl := h.intE
    cases e2 : intsD r with
    | none => rw [intsD, e2] at e; cases e
    | some m =>
      rw [intsD, e2] at e
      cases e
      rw [intsD_ra e2 t]
      rfl
theorem b_sum {K : PySem.W.Frag} : BrC K (fun xs H Q => ∃ (p : Addr) (ns : List Int), xs = [.ref p] ∧ SqL K H p (ns.map V.int) ∧ Q (.int ns.sum) H) gSum := by
  intro H xs ds d Q r e q
  unfold gSum at e
  split at e
  · next l =>
    cases e2 : intsD l with
    | none => rw [e2] at e; cases e
    | some ns =>
      rw [e2] at e
      cases e
      cases r with
      | cons r1 r2 =>
        cases r2
        obtain ⟨a, ys, rfl, hx, hr⟩ := r1.lstE
        obtain rfl := intsD_ra e2 hr
        exact ⟨a, ns, rfl, hx, q _ rfl (.int _)⟩
  · cases e
theorem sorted_eq : ∀ {l m : List Int}, l.Perm m → l.Pairwise (· ≤ ·) → m.Pairwise (· ≤ ·) → l = m
  | [], m, p, _, _ => p.nil_eq
  | a :: l, m, p, h1, h2 => by
    cases m with
    | nil => exact absurd p.length_eq (by simp)
    | cons b m =>
      obtain ⟨a1, a2⟩ := List.pairwise_cons.mp h1
      obtain ⟨b1, b2⟩ := List.pairwise_cons.mp h2
      have e : a = b := by
        have x1 : a ∈ b :: m := p.mem_iff.mp List.mem_cons_self
        have x2 : b ∈ a :: l := p.mem_iff.mpr List.mem_cons_self
        rcases List.mem_cons.mp x1 with z | z
        · exact z
        · rcases List.mem_cons.mp x2 with y | y
          · exact y.symm
          · exact Int.le_antisymm (a1 b y) (b1 a z)
      subst e
      rw [sorted_eq (List.Perm.cons_inv p) a2 b2]
theorem vals_ints : ∀ {ns : List Int} {its : List Value}, IntsAre its ns → Vals (ns.map V.int) its
  | _, _, .nil => .nil
  | _, _, .cons n t r => .cons ⟨t, rfl⟩ (vals_ints r)
theorem call_sortedL : CallR X (.builtin "sorted") (fun xs H Q => ∃ (p : Addr) (ns : List Int), xs = [.ref p] ∧ SqL X.K H p (ns.map V.int) ∧ ns.length < 64 ∧ ∀ l, H l = none → Q (.ref l) (upd H l (.lst ((srtI ns).map V.int)))) := by
  intro pins s σ H xs us Q I r h
  obtain ⟨p, ns, rfl, hx, h64, q⟩ := h
  obtain ⟨u, rfl, rx⟩ := vals1 r
  cases rx
  obtain ⟨its, rvs, pl, hz⟩ := I.list hx
  have hi := ints_are rvs
  refine sorted_ints pl.isList hi (by rw [hi.length]; exact h64) fun out ns' a1 a2 a3 => ?_
  obtain rfl := sorted_eq (a2.trans (srtI_perm ns).symm) a3 (srtI_sorted ns)
  obtain ⟨e, he⟩ := sortedAll_at s.heap its out
  have hn : H (s.heap.objs.size + 1) = none := I.hok.fresh (Nat.le_succ _)
  have ll : (srtI ns).length = ns.length := (srtI_perm ns).length_eq
  have I2 := I.laid (h' := sortedAll s.heap its out) (t' := s.toks) (a := s.heap.objs.size + 1) (o := .lst ((srtI ns).map V.int)) (fun b u e => sortedAll_old e) (Nat.le_succ _)
    ⟨by rw [List.length_map, ll]; exact Nat.le_trans (Nat.le_of_lt h64) (by decide), out.toList, e, vals_ints a1, by simpa [seqObj] using he⟩
  exact ⟨.ref _, _, I2, rfl, q _ hn⟩
theorem de_sorted {fl : List Fl} {e : Expr} {fa : FA} {p pos : Pos} (ha : DB X fl .P [e] fa) (hg : Gl X "sorted") (hm : X.mg "sorted" = none)
    (he : starEach [e] X.env = (false, eval e X.env) :: starEach [] X.env := by rfl) (hpl : (backTo pos (starEach [] X.env)).any (·.1) = false := by rfl) : DE X fl .FC (.Call (.Name "sorted" p) [e] [] pos) (dCall gSort fa) :=
  PE.imp (pe_callB call_sortedL hg hm (show bootBuiltins "sorted" = some (.builtin "sorted") by decide +kernel) ha (by decide) (by decide) he hpl) fun σ H Q h => by
  obtain ⟨G, ow, δ, d, R, hf, q⟩ := h
  obtain ⟨ds, e1, e2⟩ := bind1 hf
  refine ⟨G, ow, δ, ds, R, e1, fun vs H' s r' => ?_⟩
  unfold gSort at e2
  split at e2
  · next l =>
    cases e3 : intsD l with
    | none => rw [e3] at e2; cases e2
    | some ns =>
      rw [e3, Option.bind_some] at e2
      by_cases h64 : ns.length < 64
      · rw [if_pos h64] at e2
        cases e2
        cases r' with
        | cons r1 r2 =>
          cases r2
          obtain ⟨a, ys, rfl, hx, hr⟩ := r1.lstE
          obtain rfl := intsD_ra e3 hr
          exact ⟨a, ns, rfl, hx, h64, fun l hn => q _ _ (s.trans (same_new hn _)) (.inr ⟨_, _, _, rfl, rfl, s.free hn, upd_same, ra_ints _⟩)⟩
      · rw [if_neg h64] at e2; cases e2
  · cases e2
end
end D3
namespace D3
open PySem PySem.Spec PyProof.Rows L2 My
def gK (n : Nat) (us ws : List α) : List α := if ws.length = n then us ++ ws else []
structure HasD (P : Program) (w : World) (K : PySem.W.Frag) (mg : Str → Option Value) (base : Heap) (n : Nat) (x : Str) (ps : List Str) (sp : Sp) (dvs : List V) (ks : List Str) : Prop where
  ex : ∃ (f : Addr) (fd : FuncData) (ds : List Value), FnOk P w K mg base CX0 n f fd ps sp ∧ Binds K fd ps ds ∧ Vals dvs ds ∧ KBinds K fd ps ks (gK ks.length) (gK ks.length) ∧ PySem.W.keepIn K (.ref f) = true ∧ mg x = some (.ref f)
structure DgD (K : PySem.W.Frag) (mg : Str → Option Value) (x : Str) (st : Stmt) (ps : List Str) (dvs : List V) (ks : List Str) : Prop where
  ex : ∃ (f : Addr) (fd : FuncData) (ds : List Value), FunD K x st f fd ∧ Binds K fd ps ds ∧ Vals dvs ds ∧ KBinds K fd ps ks (gK ks.length) (gK ks.length) ∧ mg x = some (.ref f)
section
variable {P : Program} {w : World} {K : PySem.W.Frag} {mg : Str → Option Value} {base : Heap} {x : Str} {ps N ks : List Str} {st : Stmt} {k n : Nat} {fs : FS} {fl : List Fl} {dvs : List V}
theorem HasD.mono {sp : Sp} (h : HasD P w K mg base k x ps sp dvs ks) (l : k ≤ n) : HasD P w K mg base n x ps sp dvs ks := by
  obtain ⟨f, fd, ds, F, b, v, kb, kp, m⟩ := h.ex
  exact ⟨f, fd, ds, F.mono l, b, v, kb, kp, m⟩
end
section
variable {X : Cx} {fl : List Fl} {e ke : Expr} {es : List Expr} {pos p kpos : Pos} {x kn : Str} {ps : List Str} {n : Nat} {F : List D → Option D} {fa : FA} {fk : FE} {i : Int} {dvs : List V}
theorem b_int1 {K : PySem.W.Frag} : BrC K (fun xs H Q => (∃ i, xs = [.int i] ∧ Q (.int i) H) ∨ ∃ k, xs = [.bl k] ∧ Q (.int (if k then 1 else 0)) H) gInt := by
  intro H xs ds d Q r e q
  unfold gInt at e
  split at e
  · cases e
    cases r with
    | cons r1 r2 =>
      cases r2
      obtain rfl := r1.intE
      exact .inl ⟨_, rfl, q _ rfl (.int _)⟩
  · cases e
    cases r with
    | cons r1 r2 =>
      cases r2
      obtain rfl := r1.blE
      exact .inr ⟨_, rfl, q _ rfl (.int _)⟩
  · cases e
theorem dt_isN {j pos'} {a : Expr} {f : FE} (h : DE X fl .P a f) : DT X fl (.Compare a [.Is] [.Constant .none j pos'] pos) (tBool (dUn gIsN f)) := PT.imp (pt_cmp (pc_isN h)) fun σ H Q h => by
  obtain ⟨G, ow, δ, c, R, hf, q⟩ := h
  obtain ⟨d, e1, e2⟩ := bind1 hf
  obtain ⟨x, e3, e4⟩ := bind1 e1
  cases e4
  cases e2
  refine ⟨G, ow, δ, x, R, e3, fun v H1 s1 r1 => ?_⟩
  refine ⟨decide (v = .non), rfl, ?_⟩
  rw [isN_eq (RA.same (Same.refl H1) r1)]
  exact q H1 s1
theorem de_intc {p : Pos} (ha : DB X fl .P [e] fa) (hg : Gl X "int") (hm : X.mg "int" = none)
    (he : starEach [e] X.env = (false, eval e X.env) :: starEach [] X.env := by rfl) (hpl : (backTo pos (starEach [] X.env)).any (·.1) = false := by rfl) : DE X fl .FC (.Call (.Name "int" p) [e] [] pos) (dCall gInt fa) :=
  PE.imp (pe_callTy call_int1 hg hm boot_int ha (by decide) (by decide) he hpl) fun σ H Q h => by
  obtain ⟨G, ow, δ, d, R, hf, q⟩ := h
  obtain ⟨ds, e1, e2⟩ := bind1 hf
  exact ⟨G, ow, δ, ds, R, e1, fun vs H' s r' => b_int1 H' vs ds d Q r' e2 fun v hv rv => q v H' s (.inl ⟨hv, rv⟩)⟩
end
end D3
namespace D3
open PySem PySem.Spec PyProof.Rows L2 My
section
variable {X : Cx}
theorem bools_at : ∀ {bs : List Bool} {its : List Value}, Vals (bs.map V.bl) its → its = bs.map Value.bool
  | [], _, .nil => rfl
  | b :: r, _, .cons h t => by
    cases h
    rw [bools_at t]
    rfl
theorem all_range (bs : List Bool) : (List.range bs.length).all (fun i => bs.getD i false) = bs.all id := by
  rw [Bool.eq_iff_iff, List.all_eq_true, List.all_eq_true]
  constructor
  · intro h b hb
    obtain ⟨i, hi, rfl⟩ := List.getElem_of_mem hb
    have := h i (List.mem_range.mpr hi)
    rw [List.getD_eq_getElem?_getD, List.getElem?_eq_getElem hi] at this
    exact this
  · intro h i hi
    have hi := List.mem_range.mp hi
    rw [List.getD_eq_getElem?_getD, List.getElem?_eq_getElem hi]
    exact h _ (List.getElem_mem hi)
theorem bools_truth {prog : Program} {w : World} {A : Around} (bs : List Bool) : TruthOf prog w A (fun i v => (bs.map Value.bool).toArray[i]? = some v) (fun i => bs.getD i false) := by
  intro i v s Q E hv hQ
  have hv' : (bs.map Value.bool)[i]? = some v := by simpa using hv
  rw [List.getElem?_map] at hv'
  cases e : bs[i]? with
  | none => rw [e] at hv'; cases hv'
  | some b =>
    rw [e] at hv'
    cases hv'
    have eb : bs.getD i false = b := by rw [List.getD_eq_getElem?_getD, e]; rfl
    have hQ' : Q (bs.getD i false) s := hQ
    rw [eb] at hQ'
    exact wpAny_truthy_bool hQ'
theorem call_allL (hc : X.calm = true) : CallR X (.builtin "all") (fun xs H Q => ∃ (p : Addr) (bs : List Bool), xs = [.ref p] ∧ SqL X.K H p (bs.map V.bl) ∧ Q (.bl (bs.all id)) H) := by
  intro pins s σ H xs us Q I r h
  obtain ⟨p, bs, rfl, hx, q⟩ := h
  obtain ⟨u, rfl, rx⟩ := vals1 r
  cases rx
  obtain ⟨its, rvs, pl, hz⟩ := I.list hx
  obtain rfl := bools_at rvs
  have hl : s.heap.IsList p (bs.map Value.bool).toArray := pl.isList
  have hlt : p < s.heap.objs.size := by obtain ⟨_, e, _⟩ := id hl; exact Heap.lt_size e
  refine call_all_walk (wpAny_pyIter_list hl ?_)
  refine ⟨_, _, _, _, _, _, _, rfl, Walks.list (A := X.A.in1) (I.ok.hd hc) _ p (Nat.ne_of_lt hlt) (bs.map Value.bool).toArray, ⟨⟨_, Heap.get?_push_size _ rfl, rfl, rfl⟩, hl.push _⟩, bools_truth bs, fun h' tk hk => ?_⟩
  have e : (bs.map Value.bool).toArray.size = bs.length := by simp
  rw [e, all_range]
  exact ⟨.bl _, H, I.kept (old_kept hk), rfl, q⟩
theorem boolsD_ra {K : PySem.W.Frag} {ok : Ok} {pl : Bool} {H : Hp} : ∀ {l : List D} {bs : List Bool} {ys : List V}, boolsD l = some bs → RAs K ok pl H ys l → ys = bs.map V.bl
  | [], _, _, e, .nil => by cases e; rfl
  | d :: r, bs, _, e, .cons h t => by
    cases d <;> first | (cases e; done) | skip
    obtain rfl := h.blE
    cases e2 : boolsD r with
    | none => rw [boolsD, e2] at e; cases e
    | some m =>
      rw [boolsD, e2] at e
      cases e
      rw [boolsD_ra e2 t]
      rfl
theorem b_all {K : PySem.W.Frag} : BrC K (fun xs H Q => ∃ (p : Addr) (bs : List Bool), xs = [.ref p] ∧ SqL K H p (bs.map V.bl) ∧ Q (.bl (bs.all id)) H) gAll := by
  intro H xs ds d Q r e q
  unfold gAll at e
  split at e
  · next l =>
    cases e2 : boolsD l with
    | none => rw [e2] at e; cases e
    | some bs =>
      rw [e2] at e
      cases e
      cases r with
      | cons r1 r2 =>
        cases r2
        obtain ⟨a, ys, rfl, hx, hr⟩ := r1.lstE
        obtain rfl := boolsD_ra e2 hr
        exact ⟨a, bs, rfl, hx, q _ rfl (.bl _)⟩
  · cases e
theorem b_any {K : PySem.W.Frag} : BrC K (fun xs H Q => ∃ (p : Addr) (bs : List Bool), xs = [.ref p] ∧ SqL K H p (bs.map V.bl) ∧ Q (.bl (bs.any id)) H) gAny := by
  intro H xs ds d Q r e q
  unfold gAny at e
  split at e
  · next l =>
    cases e2 : boolsD l with
    | none => rw [e2] at e; cases e
    | some bs =>
      rw [e2] at e
      cases e
      cases r with
      | cons r1 r2 =>
        cases r2
        obtain ⟨a, ys, rfl, hx, hr⟩ := r1.lstE
        obtain rfl := boolsD_ra e2 hr
        exact ⟨a, bs, rfl, hx, q _ rfl (.bl _)⟩
  · cases e
end
section
variable {X : Cx} {fl : List Fl} {a : Expr} {f : FE} {pos : Pos} {ta : TE}
end
section
variable {X : Cx} {fl : List Fl} {a b c : Expr} {f fa fb fc : FE} {pos : Pos}
theorem dt_notN {j pos'} (h : DE X fl .P a f) : DT X fl (.Compare a [.IsNot] [.Constant .none j pos'] pos) (tBool (dUn gNotN f)) := PT.imp (pt_cmp (pc_notN h)) fun σ H Q h => by
  obtain ⟨G, ow, δ, bb, R, hf, q⟩ := h
  obtain ⟨d, hf, hd⟩ := bind1 hf
  obtain ⟨x, e1, e2⟩ := bind1 hf
  cases e2
  cases hd
  refine ⟨G, ow, δ, x, R, e1, fun v H1 s1 r1 => ?_⟩
  refine ⟨!decide (v = .non), rfl, ?_⟩
  rw [isN_eq (RA.same (Same.refl H1) r1)]
  exact q H1 s1
end
def Itz (K : PySem.W.Frag) (a b : Addr) : It :=
  ⟨fun i H => ∃ xs ys x y, SqL K H a xs ∧ SqL K H b ys ∧ xs[i]? = some x ∧ ys[i]? = some y,
   fun i H x H' => ∃ p u v, H p = none ∧ H' = upd H p (.tup [u, v]) ∧ x = .ref p ∧ (∀ xs, SqL K H a xs → xs[i]? = some u) ∧ ∀ ys, SqL K H b ys → ys[i]? = some v,
   fun i H => ∃ xs ys, SqL K H a xs ∧ SqL K H b ys ∧ (xs.length ≤ i ∨ ys.length ≤ i)⟩
theorem zip_apart {h : Heap} {z TI TO i1 i2 l1 l2 : Addr} {k1 k2 : Nat} {f0 a b : Value} {x y : Value} {xs ys : Array Value} (hz : IsZip h z TI TO f0) (hTI : IsPair h TI x y) (hTO : IsPair h TO a b) (h1 : h.IsListIter i1 l1 k1) (h2 : h.IsListIter i2 l2 k2) (hl1 : h.IsList l1 xs) (hl2 : h.IsList l2 ys) (nT : TI ≠ TO) (ni : i1 ≠ i2) :
    ZipApart z TI TO i1 i2 l1 l2 := by
  obtain ⟨o1, e1, c1, d1⟩ := h1
  obtain ⟨o2, e2, c2, d2⟩ := h2
  obtain ⟨p1, g1, k1, m1⟩ := hl1
  obtain ⟨p2, g2, k2, m2⟩ := hl2
  have ne : ∀ {u v : Addr} {o o' : Obj}, h.get? u = some o → h.get? v = some o' → o.cls ≠ o'.cls → u ≠ v := fun e e' n z => by
    subst z
    rw [e] at e'
    cases e'
    exact n rfl
  exact ⟨ne hTI hz (by simp), ne hTO hz (by simp), ne e1 hz (by rw [c1]; simp), ne e2 hz (by rw [c2]; simp), nT, ne hTI e1 (by rw [c1]; simp), ne hTI e2 (by rw [c2]; simp), ne hTO e1 (by rw [c1]; simp), ne hTO e2 (by rw [c2]; simp), ni,
    ne g1 hz (by rw [k1]; simp), ne g1 hTO (by rw [k1]; simp), ne g1 e1 (by rw [k1, c1]; simp), ne g1 e2 (by rw [k1, c2]; simp), ne g2 hz (by rw [k2]; simp), ne g2 hTO (by rw [k2]; simp), ne g2 e1 (by rw [k2, c1]; simp), ne g2 e2 (by rw [k2, c2]; simp)⟩
theorem turn_zip {P : Program} {w : World} {K : PySem.W.Frag} {elts : List Expr} {x1} {tpos : Pos} (a b z TI TO i1 i2 : Addr) (nT : TI ≠ TO) (ni : i1 ≠ i2) :
    Turn P w K (.Tuple elts x1 tpos) (Itz K a b) [z, TI, TO, i1, i2] z (fun i h => IsZip h z TI TO .none ∧ IsPair h TI (.ref i1) (.ref i2) ∧ (∃ u v, IsPair h TO u v) ∧ h.IsListIter i1 a i ∧ h.IsListIter i2 b i) where
  mem := by simp
  obj := fun i h st c hc => by
    obtain ⟨hz, hTI, ⟨u, v, hTO⟩, ⟨o1, e1, c1, d1⟩, ⟨o2, e2, c2, d2⟩⟩ := st
    simp only [List.mem_cons, List.mem_singleton, List.not_mem_nil, or_false] at hc
    rcases hc with rfl | rfl | rfl | rfl | rfl
    · exact ⟨_, hz, fun v z => by cases z⟩
    · exact ⟨_, hTI, fun v z => by cases z⟩
    · exact ⟨_, hTO, fun v z => by cases z⟩
    · exact ⟨o1, e1, fun v z => by rw [d1] at z; cases z⟩
    · exact ⟨o2, e2, fun v z => by rw [d2] at z; cases z⟩
  keep := fun i h h' st k => by
    obtain ⟨hz, hTI, ⟨u, v, hTO⟩, h1, h2⟩ := st
    exact ⟨k _ (by simp) _ hz, k _ (by simp) _ hTI, ⟨u, v, k _ (by simp) _ hTO⟩, h1.at fun o e => k i1 (by simp) o e, h2.at fun o e => k i2 (by simp) o e⟩
  item := by
    intro X hP hw hK hc i pins s σ H E I hf st hg
    subst hP hw hK
    obtain ⟨xs, ys, x, y, hqa, hqb, hx, hy⟩ := hg
    obtain ⟨itsa, rva, pa, hza⟩ := I.list hqa
    obtain ⟨itsb, rvb, pb, hzb⟩ := I.list hqb
    obtain ⟨ua, hua, rua⟩ := rva.get hx
    obtain ⟨ub, hub, rub⟩ := rvb.get hy
    obtain ⟨hz, hTI, ⟨u, v, hTO⟩, h1, h2⟩ := st
    have D := zip_apart hz hTI hTO h1 h2 pa.isList pb.isList nT ni
    have lts : ∀ c ∈ [z, TI, TO, i1, i2], c < s.heap.objs.size := fun c hc => by
      simp only [List.mem_cons, List.mem_singleton, List.not_mem_nil, or_false] at hc
      rcases hc with rfl | rfl | rfl | rfl | rfl
      · exact Heap.lt_size hz
      · exact Heap.lt_size hTI
      · exact Heap.lt_size hTO
      · obtain ⟨o, e, _⟩ := h1; exact Heap.lt_size e
      · obtain ⟨o, e, _⟩ := h2; exact Heap.lt_size e
    refine wpAny_pyNext_zip_item D hz hTI hTO h1 h2 pa.isList pb.isList (x := ua) (y := ub) (by simpa using hua) (by simpa using hub) fun hh g1 g2 g3 g4 g5 g6 g7 => ?_
    refine ⟨_, rfl, wpAny_letOwnedTupleGo_zip g1 fun hh2 e1 e2 => ?_⟩
    replace e2 : Heap.SameBut z hh hh2 := e2
    have hn : H s.heap.objs.size = none := I.hok.fresh (Nat.le_refl _)
    have I0 : Inv X pins σ (upd H s.heap.objs.size (.tup [x, y])) { s with heap := s.heap.push { cls := .type "tuple", data := .seq #[ua, ub] } } :=
      I.laid (t' := s.toks) (fun b o e => Heap.get?_push_of_some _ e) (Nat.le_refl _) ⟨show 2 ≤ sizeLine by decide, [ua, ub], .cons rua (.cons rub .nil), ⟨_, Heap.get?_push_size _ rfl, rfl, _, rfl⟩⟩
    have ne : ∀ c, c ∈ [z, TI, TO, i1, i2] → c ≠ s.heap.objs.size := fun c hc => Nat.ne_of_lt (lts c hc)
    have I1 : Inv X pins σ (upd H s.heap.objs.size (.tup [x, y])) { s with heap := hh2, toks := s.toks } := by
      refine Inv.turnedL (s := { s with heap := s.heap.push { cls := .type "tuple", data := .seq #[ua, ub] } }) (ch := [z, TI, TO, i1, i2]) I0 (fun c o hc e => ?_) fun c hc => ⟨by rw [upd_ne (ne c hc)]; exact (hf c hc).1, (hf c hc).2⟩
      have b1 : c ≠ z := fun q => hc (by simp [q])
      have b2 : c ≠ TO := fun q => hc (by simp [q])
      have b3 : c ≠ i1 := fun q => hc (by simp [q])
      have b4 : c ≠ i2 := fun q => hc (by simp [q])
      rcases Heap.get?_push_cases e with ⟨e3, e4⟩ | e3
      · subst e3 e4
        exact (e2.2 _ b1).trans g5
      · exact (e2.2 _ b1).trans (g7 c o b1 b2 b3 b4 e3)
    refine ⟨.ref s.heap.objs.size, _, I1, rfl, ⟨_, x, y, hn, rfl, rfl, fun zs hz' => by rw [I.list_inj hz' hqa]; exact hx, fun zs hz' => by rw [I.list_inj hz' hqb]; exact hy⟩, ⟨e1, (e2.2 _ D.TIz).trans (g7 _ _ D.TIz D.TITO D.TIi1 D.TIi2 hTI), ⟨_, _, (e2.2 _ D.TOz).trans g2⟩, g3.at fun o e => (e2.2 _ D.i1z).trans e, g4.at fun o e => (e2.2 _ D.i2z).trans e⟩, fun c hc => ?_⟩
    rw [upd_ne (ne c hc)]
    exact (hf c hc).1
  done := by
    intro X hP hw hK hc i pins s σ H E I hf st hg
    subst hP hw hK
    obtain ⟨xs, ys, hqa, hqb, hx⟩ := hg
    obtain ⟨itsa, rva, pa, hza⟩ := I.list hqa
    obtain ⟨itsb, rvb, pb, hzb⟩ := I.list hqb
    obtain ⟨hz, hTI, ⟨u, v, hTO⟩, h1, h2⟩ := st
    have D := zip_apart hz hTI hTO h1 h2 pa.isList pb.isList nT ni
    have la := rva.length
    have lb := rvb.length
    refine wpAny_pyNext_zip_end (I.ok.hd hc) D hz hTI hTO h1 h2 pa.isList pb.isList ?_ fun h' eb => ⟨rfl, Inv.turnedL (t' := s.toks) (ch := [z, TI, TO, i1, i2]) I (fun c o hc e => eb c o (fun q => hc (by simp [q])) (fun q => hc (by simp [q])) (fun q => hc (by simp [q])) (fun q => hc (by simp [q])) e) hf⟩
    rcases hx with hx | hx
    · exact .inl (by simp; omega)
    · exact .inr (by simp; omega)
  self := fun _ _ _ _ _ st h => wpAny_pyIter_zip st.1 h
section
variable {X : Cx} {fl : List Fl} {a b : Expr} {f g : FE} {pos : Pos}
def iZip (K : PySem.W.Frag) (ta tb : TE) : TI := fun σ H R => ta σ H fun x H1 => tb σ H1 fun y H2 => ∃ p q, x = .ref p ∧ y = .ref q ∧ (∃ xs, SqL K H2 p xs) ∧ (∃ ys, SqL K H2 q ys) ∧ R (Itz K p q) H2
theorem boot_zip : bootBuiltins "zip" = some (.type "zip") := by decide +kernel
theorem pi_zip {elts : List Expr} {x1} {tpos p : Pos} {ta tb : TE} (hg : Gl X "zip") (hm : X.mg "zip" = none) (ha : PE X a ta) (hb : PE X b tb) (he : starEach [a, b] X.env = (false, eval a X.env) :: starEach [b] X.env := by rfl) (he2 : starEach [b] X.env = (false, eval b X.env) :: starEach [] X.env := by rfl)
    (hpl : (backTo pos (starEach [b] X.env)).any (·.1) = false := by rfl) : PI X (.Tuple elts x1 tpos) (.Call (.Name "zip" p) [a, b] [] pos) (iZip X.K ta tb) := by
  intro pins s σ H R I h
  refine wpAny_Call_Name_kw (ld_blt I hg hm boot_zip (PyProof.Rows.callWith_type1 (thn ((pa_cons ha (pa_cons hb pa_nil he2) he) pos pins s σ H (fun vs H1 => match vs with | [x, y] => ∃ p q, x = .ref p ∧ y = .ref q ∧ (∃ xs, SqL X.K H1 p xs) ∧ (∃ ys, SqL X.K H1 q ys) ∧ R (Itz X.K p q) H1 | _ => False) I h) fun us s1 ⟨vs, H1, I1, r1, q1⟩ => ?_) he hpl))
  cases r1 with
  | nil => exact q1.elim
  | cons r rr =>
    cases rr with
    | nil => exact q1.elim
    | cons r' rr' =>
    cases rr' with
    | cons _ _ => exact q1.elim
    | nil =>
    obtain ⟨l, m, e, e', ⟨xs, hq⟩, ⟨ys, hq'⟩, q⟩ := q1
    subst e e'
    cases r
    cases r'
    obtain ⟨its, rv, pl, hz⟩ := I1.list hq
    obtain ⟨its', rv', pl', hz'⟩ := I1.list hq'
    refine call_zip_2 pl.isList pl'.isList fun h' g1 g2 g3 g4 g5 g6 hk => ?_
    have I2 : Inv X pins σ H1 { s1 with heap := h' } := I1.kept (t' := s1.toks) hk
    refine wpAny_pyIter_zip (s := { s1 with heap := h' }) g1 ?_
    refine ⟨s1.heap.objs.size + 4, [s1.heap.objs.size + 4, s1.heap.objs.size + 2, s1.heap.objs.size + 3, s1.heap.objs.size, s1.heap.objs.size + 1], _, _, H1, rfl, I2, turn_zip l m (s1.heap.objs.size + 4) (s1.heap.objs.size + 2) (s1.heap.objs.size + 3) s1.heap.objs.size (s1.heap.objs.size + 1) (Nat.ne_of_lt (Nat.lt_succ_self _)) (Nat.ne_of_lt (Nat.lt_succ_self _)), ⟨g1, g2, ⟨_, _, g3⟩, g4, g5⟩, fun b hb => ?_, q⟩
    have hb' : s1.heap.objs.size ≤ b := by
      simp only [List.mem_cons, List.mem_singleton, List.not_mem_nil, or_false] at hb
      rcases hb with rfl | rfl | rfl | rfl | rfl <;> omega
    exact I1.fpOk hb' (I1.hok.fresh hb')
theorem zipD_get : ∀ (l m : List D) (i : Nat), (zipD l m)[i]? = (l[i]?).bind fun x => (m[i]?).map fun y => PyData.tuple [x, y]
  | [], _, i => by simp [zipD]
  | _ :: _, [], i => by cases i <;> simp [zipD]
  | x :: l, y :: m, 0 => by simp [zipD]
  | x :: l, y :: m, i + 1 => by simp [zipD, zipD_get l m i]
theorem zipD_len : ∀ (l m : List D), (zipD l m).length = min l.length m.length
  | [], _ => by simp [zipD]
  | _ :: _, [] => by simp [zipD]
  | x :: l, y :: m => by simp [zipD, zipD_len l m]
theorem RsB.same {K : PySem.W.Frag} {G : Gh} {ow : Ow} {Hb H H' : Hp} {L : List Nat} {v : V} {d : D} (e : Same H H') (h : Rs K G.H0 ow Hb H (.B L) v d) : Rs K G.H0 ow Hb H' (.B L) v d := by
  rcases h with h | ⟨i, hi, a, xs, ds, h1, h2, h3, h4, h5⟩
  · exact .inl (RA.same e h)
  · exact .inr ⟨i, hi, a, xs, ds, h1, h2, h3, e _ _ h4, h5.same e⟩
theorem di_zip {elts : List Expr} {x1} {tpos p : Pos} {L1 L2 L : List Nat} (ha : DE X fl (.B L1) a f) (hb : DE X fl (.B L2) b g) (hg : Gl X "zip") (hm : X.mg "zip" = none) (hL : L = L1 ++ L2 := by rfl)
    (he : starEach [a, b] X.env = (false, eval a X.env) :: starEach [b] X.env := by rfl) (he2 : starEach [b] X.env = (false, eval b X.env) :: starEach [] X.env := by rfl)
    (hpl : (backTo pos (starEach [b] X.env)).any (·.1) = false := by rfl) : DI X fl L (.Tuple elts x1 tpos) (.Call (.Name "zip" p) [a, b] [] pos) (fZip f g) := PI.imp (pi_zip hg hm ha hb he he2 hpl) fun σ H R' h => by
  subst hL
  obtain ⟨G, ow, δ, l, R, hf, q⟩ := h
  obtain ⟨d, e1, hf⟩ := bind1 hf
  obtain ⟨d', e2, hf⟩ := bind1 hf
  obtain ⟨l0, rfl⟩ : ∃ l0, d = .list l0 := by cases d <;> first | exact ⟨_, rfl⟩ | (cases hf; done)
  obtain ⟨m0, rfl⟩ : ∃ m0, d' = .list m0 := by cases d' <;> first | exact ⟨_, rfl⟩ | (cases hf; done)
  cases hf
  refine ⟨G, ow, δ, _, R, e1, fun v H1 s1 r1 => ⟨G, ow, δ, _, R.grow s1, e2, fun v' H2 s2 r2 => ?_⟩⟩
  have r1' := RsB.same s2 r1
  obtain ⟨pa, xs, rfl, hx, keepa⟩ := walk_B ((R.grow s1).grow s2) r1'
  obtain ⟨pb, ys, rfl, hy, keepb⟩ := walk_B ((R.grow s1).grow s2) r2
  refine ⟨pa, pb, rfl, rfl, ⟨xs, hx⟩, ⟨ys, hy⟩, q _ _ (s1.trans s2) fun H3 k3 i => ?_⟩
  obtain ⟨a1, a2⟩ := keepa H3 fun b o e z => k3 b o e fun i w => List.mem_append_left _ (z i w)
  obtain ⟨b1, b2⟩ := keepb H3 fun b o e z => k3 b o e fun i w => List.mem_append_right _ (z i w)
  refine ⟨fun d hd => ?_, fun hl => ⟨xs, ys, a1, b1, ?_⟩⟩
  · rw [zipD_get] at hd
    cases ea : l0[i]? with
    | none => rw [ea] at hd; cases hd
    | some x0 =>
      cases eb : m0[i]? with
      | none => rw [ea, eb] at hd; cases hd
      | some y0 =>
        rw [ea, eb] at hd
        cases hd
        obtain ⟨x, hx1, rx⟩ := a2.get ea
        obtain ⟨y, hy1, ry⟩ := b2.get eb
        refine ⟨⟨xs, ys, x, y, a1, b1, hx1, hy1⟩, fun z H4 hyl => ?_⟩
        obtain ⟨p', u, v, hp, rfl, rfl, hu, hv⟩ := hyl
        have eu : some x = some u := hx1.symm.trans (hu xs a1)
        have ev : some y = some v := hy1.symm.trans (hv ys b1)
        cases eu
        cases ev
        have gg := same_new hp (.tup [x, y])
        exact ⟨gg, .tup upd_same (.cons (rx.same gg) (.cons (ry.same gg) .nil))⟩
  · rw [zipD_len] at hl
    rw [a2.length, b2.length]
    omega
end
end D3
namespace D3
open PySem PySem.Spec PyProof.Rows L2 My
theorem RTs.length {K : PySem.W.Frag} {H : Hp} : ∀ {v : List V} {d : List D} {as : List Addr}, RTs K H v d as → v.length = d.length
  | _, _, _, .nil => rfl
  | _, _, _, .cons _ q => by simp [RTs.length q]
section
variable {X : Cx} {fl : List Fl} {e a b c : Expr} {es rest : List Expr} {k : Kd} {f fa fb fc : FE} {ft gt : FT} {pos : Pos}
end
section
variable {K : PySem.W.Frag} {fl : List Fl}
end
section
variable {K : PySem.W.Frag} {H : Hp}
theorem RTs.snoc {w : V} {d : D} (r : RT K H w d []) : ∀ {vs : List V} {ds : List D} {as : List Addr}, RTs K H vs ds as → RTs K H (vs ++ [w]) (ds ++ [d]) as
  | _, _, _, .nil => by
    have := RTs.cons r (.nil (K := K) (H := H))
    simpa using this
  | _, _, _, .cons e q => .cons e (RTs.snoc r q)
end
section
variable {X : Cx} {fl : List Fl} {e ke : Expr} {f fk : FE} {pos : Pos}
end
end D3
namespace D3
open PySem
def qM (g : List D → Option (List D)) (i : Nat) (x : Option D) (δ : DS) : Option Oc := match x with
  | some (.list l) => match g l with
    | some m => some (.nx (δ.set i (some (.d (.list m)))))
    | none => none
  | _ => none
def insK (n : Nat) (j : Int) : Nat := if j < 0 then (j + n).toNat else min j.toNat n
def insD (j : Int) (d : D) (l : List D) : Option (List D) := if l.length < 1000000 ∧ -(2 ^ 62) ≤ j ∧ j < 2 ^ 62 then some (l.take (insK l.length j) ++ d :: l.drop (insK l.length j)) else none
def sClr (i : Nat) : FS := fun δ => qM (fun _ => some []) i (dVar i δ) δ
def qIn (i : Nat) (k d x : Option D) (δ : DS) : Option Oc := match k, d with
  | some (.int j), some d => qM (insD j d) i x δ
  | _, _ => none
def sIns (i : Nat) (fk f : FE) : FS := fun δ => qIn i (fk δ) (f δ) (dVar i δ) δ
theorem qM_inv {g : List D → Option (List D)} {i : Nat} {x : Option D} {δ : DS} {o : Oc} (h : qM g i x δ = some o) : ∃ l m, x = some (.list l) ∧ g l = some m ∧ o = .nx (δ.set i (some (.d (.list m)))) := by
  unfold qM at h
  split at h
  · next l =>
    split at h
    · next m e => cases h; exact ⟨l, m, rfl, e, rfl⟩
    · cases h
  · cases h
theorem v_clrO {i : Nat} {δ : DS} : sClr i δ = qM (fun _ => some []) i (dVar i δ) δ := rfl
theorem v_ins {i : Nat} {fk f : FE} {δ : DS} : sIns i fk f δ = qIn i (fk δ) (f δ) (dVar i δ) δ := rfl
theorem v_ins_s {i : Nat} {j : Int} {d : D} {x : Option D} {δ : DS} : qIn i (some (.int j)) (some d) x δ = qM (insD j d) i x δ := rfl
theorem qM_s {g : List D → Option (List D)} {i : Nat} {l m : List D} {δ : DS} (h : g l = some m) : qM g i (some (.list l)) δ = some (.nx (δ.set i (some (.d (.list m))))) := by
  show (match g l with
    | some m => some (Oc.nx (δ.set i (some (.d (.list m)))))
    | none => none) = _
  rw [h]
def gNotin : D → D → Option D := fun x y => match y with
  | .list l => if (SeqAt.shaped x && SeqAt.shaped (.list l)) = true then some (.bool (!l.any fun z => PyData.eqv z x)) else none
  | .tuple l => if (SeqAt.shaped x && SeqAt.shaped (.tuple l)) = true then some (.bool (!l.any fun z => PyData.eqv z x)) else none
  | _ => none
def clr (T : List Nat) (δ : DS) : DS := δ.mapIdx fun i x => if i ∈ T then none else x
end D3
namespace D3
open PySem PySem.Spec PyProof.Rows L2 My
section
variable {X : Cx}
def rInsert : V → List V → Hp → VK → Prop := fun x vs H Q => ∃ l xs i y, x = .ref l ∧ vs = [.int i, y] ∧ H l = some (.lst xs) ∧ -(2 ^ 63) ≤ i ∧ i < 2 ^ 63 ∧ xs.length < sizeLine ∧ Q .non (upd H l (.lst (xs.take (insK xs.length i) ++ y :: xs.drop (insK xs.length i))))
theorem ins_arr (li : List Value) (k : Nat) (y : Value) : (li.toArray.extract 0 k).push y ++ li.toArray.extract k = (li.take k ++ y :: li.drop k).toArray := by
  apply Array.ext'
  simp [List.extract_eq_drop_take]
  exact List.take_of_length_le (by simp)
theorem mt_insert : MtM X "list.insert" rInsert := by
  intro pins s σ H x vs v us Q I rx rv h
  obtain ⟨l, xs, i, y, rfl, rfl, hH, h1, h2, hz, q⟩ := h
  cases rx
  obtain ⟨u1, u2, rfl, ru1, ru2⟩ := rv.two
  obtain ⟨t, rfl⟩ := ru1
  obtain ⟨z, its, n, r, hl, e⟩ := I.lstM hH
  refine call_meets F.slot_list_insert ⟨_, e, rfl⟩ F.entry_list_insert (F.args_list_insert_3 _ _ _) (AutoSeq1.list_insert_list_int_val_1 l its.toArray n i t u2 (by simp [fitsIndex_both h1 h2]) (by rw [List.size_toArray]; omega)) ⟨e, ?_⟩
  refine ⟨.non, _, I.lset (its' := its.take (insK xs.length i) ++ u2 :: its.drop (insK xs.length i)) hH e ?_ ((r.take _).append (.cons ru2 (r.drop _))) ?_, rfl, q⟩
  · show (its.toArray.extract 0 (if i < 0 then (i + (its.toArray.size : Int)).toNat else min i.toNat its.toArray.size)).push u2 ++ its.toArray.extract (if i < 0 then (i + (its.toArray.size : Int)).toNat else min i.toNat its.toArray.size) = _
    rw [hl]
    exact ins_arr its (insK its.length i) u2
  · rw [List.length_append, List.length_cons, List.length_take, List.length_drop]
    omega
end
section
variable {X : Cx} {fl : List Fl} {e ke : Expr} {f fk : FE} {pos : Pos}
theorem ds_clr {i : Nat} {x : Str} {vpos apos cpos : Pos} (hfl : fl[i]? = some .O) (hN : X.N[i]? = some x) (hv : Vis X.env.scope x := by first | exact Or.inl rfl | exact Or.inr (Or.inl rfl) | exact Or.inr (Or.inr rfl)) (hd : (x == ("__debug__" : Str)) = false := by decide)
    (hcd : (x == ("__classdict__" : Str)) = false := by decide)
    (hs : swapsWith (.Call (.Attribute (.Name x vpos) "clear" apos) [] [] cpos) none pos.line X.env = pure false := by rfl)
    (hbase : attributeBase (.Name x vpos) "clear" X.env (eval (.Name x vpos) X.env) = eval (.Name x vpos) X.env := by rfl)
    (hline : (apos.endLine == cpos.line) = true := by rfl) :
    DS1 X fl (.Expr (.Call (.Attribute (.Name x vpos) "clear" apos) [] [] cpos) pos) (sClr i) :=
  PS.imp (ps_expr (pe_bm0 PySem.F.plainAttrs_list PySem.F.slot_list_clear PySem.F.type_list_clear mt_clear (pe_var hN hv hd hcd) hbase hline) hs) fun Dn σ H hh => by
  obtain ⟨G, ow, δ, o, R, hf, q⟩ := hh
  obtain ⟨l, m, e1, e2, rfl⟩ := qM_inv hf
  cases e2
  obtain ⟨a, xs, ho, h1, h2, h3⟩ := own_of R hfl e1
  exact ⟨_, h1, .inl ⟨rfl, _, SqL.of h2⟩, a, xs, rfl, rfl, h2, q ow σ _ (R.mut hfl ho .nil)⟩
theorem ds_ins {i : Nat} {x : Str} {vpos apos cpos : Pos} (hfl : fl[i]? = some .O) (hk : DE X fl .P ke fk) (h : DE X fl .A e f) (hN : X.N[i]? = some x) (hv : Vis X.env.scope x := by first | exact Or.inl rfl | exact Or.inr (Or.inl rfl) | exact Or.inr (Or.inr rfl)) (hd : (x == ("__debug__" : Str)) = false := by decide)
    (hcd : (x == ("__classdict__" : Str)) = false := by decide)
    (hs : swapsWith (.Call (.Attribute (.Name x vpos) "insert" apos) [ke, e] [] cpos) none pos.line X.env = pure false := by rfl)
    (hbase : attributeBase (.Name x vpos) "insert" X.env (eval (.Name x vpos) X.env) = eval (.Name x vpos) X.env := by rfl)
    (hfew : ((backTo cpos (starEach [ke, e] X.env)).all (fun x => !x.1) && (backToKw cpos (keywordEach [] X.env)).all (fun x => x.1.isSome)
      && decide (([ke, e] : List Expr).length + ([] : List Keyword).length + (if ([] : List Keyword).isEmpty then 0 else 1) < 30)) = true := by rfl)
    (hline : (apos.endLine == cpos.line) = true := by rfl) (hst : starEach [ke, e] X.env = (false, eval ke X.env) :: starEach [e] X.env := by exact star_of rfl) (hst2 : starEach [e] X.env = (false, eval e X.env) :: starEach [] X.env := by exact star_of rfl) (hplain : (backTo cpos (starEach [e] X.env)).any (·.1) = false := by exact pl_of rfl) :
    DS1 X fl (.Expr (.Call (.Attribute (.Name x vpos) "insert" apos) [ke, e] [] cpos) pos) (sIns i fk f) :=
  PS.imp (ps_expr (pe_bm PySem.F.plainAttrs_list PySem.F.slot_list_insert PySem.F.type_list_insert mt_insert (pe_var hN hv hd hcd) (pa_cons hk (pa_cons h pa_nil hst2) hst) hbase hfew hline hst hplain) hs) fun Dn σ H hh => by
  obtain ⟨G, ow, δ, o, R, hf, q⟩ := hh
  unfold sIns qIn at hf
  split at hf
  case h_2 => cases hf
  next j d ek ed =>
  obtain ⟨l, m, e1, e2, rfl⟩ := qM_inv hf
  unfold insD at e2
  by_cases hl : l.length < 1000000 ∧ -(2 ^ 62) ≤ j ∧ j < 2 ^ 62
  case neg => rw [if_neg hl] at e2; cases e2
  rw [if_pos hl] at e2
  cases e2
  obtain ⟨a, xs, ho, h1, h2, h3⟩ := own_of R hfl e1
  refine ⟨_, h1, .inl ⟨rfl, _, SqL.of h2⟩, G, ow, δ, _, R, ek, fun v H' s r => ?_⟩
  obtain rfl := RA.intE r
  refine ⟨G, ow, δ, d, R.grow s, ed, fun u H2 s2 r2 => ?_⟩
  have S := s.trans s2
  refine ⟨a, xs, j, u, rfl, rfl, S _ _ h2, by omega, by omega, by rw [h3.length]; exact Nat.lt_trans hl.1 (by decide), ?_⟩
  have R' := R.grow S
  have h3' := h3.same S
  refine q ow σ _ (R'.mut hfl ho ?_)
  rw [h3.length]
  exact (h3'.take _).append (.cons r2 (h3'.drop _))
end
section
variable {X : Cx} {fl : List Fl} {a : Expr} {pos p p2 pos2 : Pos} {fa : FA}
end
end D3
namespace D3
open PySem PySem.Spec PyProof.Rows L2 My
section
variable {X : Cx} {pins : List (Addr × Obj)} {σ : L2.St} {H : Hp} {s : Shared}
end
section
variable {X : Cx} {K : PySem.W.Frag}
end
section
variable {X : Cx} {fl : List Fl} {es : List Expr} {pos : Pos}
end
section
variable {X : Cx} {fl : List Fl} {e : Expr} {f : FE}
end
section
variable {X : Cx} {fl : List Fl} {a : Expr} {f : FE} {pos p : Pos}
end
section
variable {X : Cx} {fl : List Fl} {a b : Expr} {fa fb : FE} {pos : Pos}
end
end D3
namespace D3
open PySem PySem.Spec PyProof.Rows L2 My
section
variable {X : Cx} {K : PySem.W.Frag}
def rNotinD (K : PySem.W.Frag) : R2 := fun x y H Q => ∃ da l, RdV K H x da ∧ ((RdV K H y (.list l) ∧ SeqAt.shaped (.list l) = true) ∨ (RdV K H y (.tuple l) ∧ SeqAt.shaped (.tuple l) = true)) ∧ SeqAt.shaped da = true ∧ Q (.bl (!l.any fun z => PyData.eqv z da)) H
theorem in_room {A : Around} {l : List D} {d : D} (hu : A.units + 64 < cLine) (h : PyData.depthAll l + 1 ≤ 64) : A.units + 1 + min (PyData.depthAll l) d.depth < cLine := by
  have := Nat.min_le_left (PyData.depthAll l) d.depth
  omega
theorem shaped_list {l : List D} (h : SeqAt.shaped (.list l) = true) : PyData.canLayAll0 l = true ∧ PyData.depthAll l + 1 ≤ 64 := by
  unfold SeqAt.shaped at h
  rw [Bool.and_eq_true] at h
  refine ⟨by simpa [PyData.canLay0] using h.1, ?_⟩
  have := of_decide_eq_true h.2
  simpa [PyData.depth] using this
theorem shaped_tuple {l : List D} (h : SeqAt.shaped (.tuple l) = true) : PyData.canLayAll0 l = true ∧ PyData.depthAll l + 1 ≤ 64 := by
  unfold SeqAt.shaped at h
  rw [Bool.and_eq_true] at h
  refine ⟨by simpa [PyData.canLay0] using h.1, ?_⟩
  have := of_decide_eq_true h.2
  simpa [PyData.depth] using this
theorem op_notinD (hu : X.A.units + 64 < cLine) : OpR X (compareOp .NotIn) (rNotinD X.K) := by
  intro pins s σ H x y v u Q I rx ry h
  obtain ⟨da, l, ha, hb, sa, q⟩ := h
  obtain ⟨as, za⟩ := ha.reads I rx
  rcases hb with ⟨hb, sb⟩ | ⟨hb, sb⟩
  · obtain ⟨bs, zb⟩ := hb.reads I ry
    exact SeqAt.notIn_list_reads zb za (shaped_list sb).1 (SeqAt.canLay_of_shaped sa) (in_room hu (shaped_list sb).2) ⟨.bl _, H, I, rfl, q⟩
  · obtain ⟨bs, zb⟩ := hb.reads I ry
    exact SeqAt.notIn_tuple_reads zb za (shaped_tuple sb).1 (SeqAt.canLay_of_shaped sa) (in_room hu (shaped_tuple sb).2) ⟨.bl _, H, I, rfl, q⟩
theorem b_notin : BrO K (rNotinD K) gNotin := by
  intro H x y dx dy d Q rx ry e q
  cases dy with
  | list l =>
    by_cases z : (SeqAt.shaped dx && SeqAt.shaped (.list l)) = true
    · have e : (if (SeqAt.shaped dx && SeqAt.shaped (.list l)) = true then some (PyData.bool (!l.any fun z => PyData.eqv z dx)) else none) = some d := e
      rw [if_pos z] at e
      cases e
      rw [Bool.and_eq_true] at z
      exact ⟨dx, l, rx.rd (SeqAt.canLay_of_shaped z.1), .inl ⟨ry.rd (SeqAt.canLay_of_shaped z.2), z.2⟩, z.1, q _ rfl (.bl _)⟩
    · have e : (if (SeqAt.shaped dx && SeqAt.shaped (.list l)) = true then some (PyData.bool (!l.any fun z => PyData.eqv z dx)) else none) = some d := e
      rw [if_neg z] at e
      cases e
  | tuple l =>
    by_cases z : (SeqAt.shaped dx && SeqAt.shaped (.tuple l)) = true
    · have e : (if (SeqAt.shaped dx && SeqAt.shaped (.tuple l)) = true then some (PyData.bool (!l.any fun z => PyData.eqv z dx)) else none) = some d := e
      rw [if_pos z] at e
      cases e
      rw [Bool.and_eq_true] at z
      exact ⟨dx, l, rx.rd (SeqAt.canLay_of_shaped z.1), .inr ⟨ry.rd (SeqAt.canLay_of_shaped z.2), z.2⟩, z.1, q _ rfl (.bl _)⟩
    · have e : (if (SeqAt.shaped dx && SeqAt.shaped (.tuple l)) = true then some (PyData.bool (!l.any fun z => PyData.eqv z dx)) else none) = some d := e
      rw [if_neg z] at e
      cases e
  | _ => cases e
end
section
variable {X : Cx} {fl : List Fl} {a : Expr} {f : FE} {pos : Pos}
end
section
variable {X : Cx} {fl : List Fl} {e : Expr} {es : List Expr} {f : FE} {pos p : Pos} {x : Str} {n : Nat} {F : List D → Option D} {fa : FA}
end
section
variable {P : Program} {w : World} {K : PySem.W.Frag} {mg : Str → Option Value} {base : Heap} {x : Str} {ps N : List Str} {st : Stmt} {k n : Nat} {fs : FS} {fl : List Fl}
end
section
variable {P : Program} {w : World} {K : PySem.W.Frag} {mg : Str → Option Value} {base : Heap} {x : Str} {ps : List Str} {st : Stmt} {n : Nat}
end
end D3
namespace D3
open PySem PySem.Spec PyProof.Rows L2 My
section
variable {K : PySem.W.Frag} {fl flA : List Fl} {G : Gh} {ow : Ow} {σ σ' : St} {H H1 : Hp} {δ : DS} {T : List Nat}
theorem clr_get {i : Nat} {x : U} (h : (clr T δ)[i]? = some (some x)) : i ∉ T ∧ δ[i]? = some (some x) := by
  unfold clr at h
  rw [List.getElem?_mapIdx] at h
  cases e : δ[i]? with
  | none => rw [e] at h; cases h
  | some y =>
    rw [e, Option.map_some] at h
    by_cases z : i ∈ T
    · rw [if_pos z] at h; cases h
    · rw [if_neg z] at h; exact ⟨z, h⟩
theorem clr_ne {i : Nat} (h : i ∉ T) : (clr T δ)[i]? = δ[i]? := by
  unfold clr
  rw [List.getElem?_mapIdx]
  cases δ[i]? with
  | none => rfl
  | some y => rw [Option.map_some, if_neg h]
theorem clr_len : (clr T δ).length = δ.length := by unfold clr; rw [List.length_mapIdx]
theorem Rel.forget (R : Rel K fl G ow σ H δ) (hT : ∀ i ∈ T, fl[i]? = some .A) (hl : σ'.length = σ.length) (hσ : ∀ j, j ∉ T → σ'[j]? = σ[j]?) : Rel K fl G ow σ' H (clr T δ) := by
  refine ⟨R.s0, R.s1, by rw [clr_len, hl]; exact R.len, fun i a h => ?_, R.inj, R.pin, fun i d h hn ho => ?_, fun i d h hn h2 ho => R.oo i d (clr_get h).2 hn h2 ho, R.nt, R.nd, R.ns, R.np, fun i d hn h => ?_⟩
  · obtain ⟨h0, hf, xs, ds, h1, h2, h3, h4⟩ := R.own i a h
    have ni : i ∉ T := fun z => by
      rw [hT i z] at hf
      rcases hf with ⟨w, _⟩ | ⟨w, _⟩ <;> cases w
    exact ⟨h0, hf, xs, ds, by rw [hσ i ni]; exact h1, h2, h3, by rw [clr_ne ni]; exact h4⟩
  · obtain ⟨ni, e⟩ := clr_get h
    obtain ⟨v, h1, h2⟩ := R.dat i d e hn ho
    exact ⟨v, by rw [hσ i ni]; exact h1, h2⟩
  · obtain ⟨ni, e⟩ := clr_get h
    obtain ⟨v, h1, h2⟩ := R.nr i d hn e
    exact ⟨v, by rw [hσ i ni]; exact h1, h2⟩
end
section
variable {X : Cx} {fl flA : List Fl} {e : Expr} {es : List Expr} {f : FE} {fa : FA} {pos : Pos}
end
section
variable {X : Cx} {fl : List Fl} {pos : Pos}
end
end D3
namespace D3
open PySem
inductive Or where
  | o (x : Oc)
  | ex (c : Str) (v : D)
abbrev FX := DS → Option Or
def xOf (f : FS) : FX := fun δ => (f δ).bind fun o => some (.o o)
def xSeq (f g : FX) : FX := fun δ => (f δ).bind fun o => match o with
  | .o (.nx δ') => g δ'
  | o => some o
def xIf (c : FT) (f g : FX) : FX := fun δ => (c δ).bind fun b => if b = true then f δ else g δ
def xRaise (c : Str) (f : FE) : FX := fun δ => (f δ).bind fun d => some (.ex c d)
def fnX (p q : Nat) (b : FX) : List D → Option Or := fun ds => if ds.length = p then match b (ds.map (fun d => some (.d d)) ++ List.replicate q none) with
    | some (.o (.rt d)) => some (.o (.rt d))
    | some (.o (.nx _)) => some (.o (.rt .none))
    | some (.ex c d) => some (.ex c d)
    | _ => none
  else none
def xForD (g : FG) (b : FX) : List D → DS → Option Or
  | [], δ => some (.o (.nx δ))
  | d :: r, δ => (g d δ).bind fun δ1 => (b δ1).bind fun o => match o with
    | .o (.nx δ') => xForD g b r δ'
    | .o (.ct δ') => xForD g b r δ'
    | .o (.bk δ') => some (.o (.nx δ'))
    | .o (.rt v) => some (.o (.rt v))
    | .o (.ex c f v) => some (.o (.ex c f v))
    | .ex c v => some (.ex c v)
def xFor (fi : FA) (g : FG) (b : FX) : FX := fun δ => (fi δ).bind fun l => xForD g b l δ
def xCall (F : List D → Option Or) (dd : List D) (fa : FA) : FX := fun δ => (fa δ).bind fun ds => match F (ds ++ dd) with
  | some (.o (.rt _)) => some (.o (.nx δ))
  | some (.ex c d) => some (.ex c d)
  | _ => none
def sTryA (j : Nat) (F : List D → Option Or) (cs : List Str) (dd : List D) (fa : FA) (fS : Str → D → DS → Option D) : FS := fun δ => (fa δ).bind fun ds => match F (ds ++ dd) with
  | some (.o (.rt d)) => if fl1 d = true ∧ j < δ.length then some (.nx (δ.set j (some (.d d)))) else none
  | some (.ex c d) => if c ∈ cs then (fS c d δ).bind fun r => some (.rt r) else none
  | _ => none
def suR (W : List D → Option D) (s0 s1 : Str) (fr : FE) (i j : Nat) : Str → D → DS → Option D := fun _ d δ => if i < δ.length ∧ j < δ.length then match d with
  | .int z => (W [.int z]).bind fun w => match w with
    | .bool true => (fr ((δ.set i none).set j (some (.d (.bool true))))).bind fun r => (gEq (.int z) r).bind fun q => match q with
      | .bool true => some (.str s1)
      | .bool false => some (.str s0)
      | _ => none
    | .bool false => some (.str s0)
    | _ => none
  | _ => none
  else none
end D3
namespace XC
open PySem
open Sem (wp)
structure Two (h : Heap) (C N I : Addr) (bmB : List Value) (mN mI : Str → Option Value) (B newId : String) : Prop where
  ex : ∃ (nm q : Str) (bs : List Value) (sn : List Str) (sub : List Value) (ab : Bool) (col : Option Bool) (dd : Option Addr) (k0 k1 k2 k3 k5 : Option Value),
    h.get? C = some (excClassObj nm q C N bs (.ref I :: bmB) true sn sub ab col dd k0 k1 k2 k3 k5 newId)
  nsC : h.Ns N mN
  up : ∃ (nm q : Str) (NI : Addr) (bs : List Value) (sn : List Str) (sub : List Value) (ab : Bool) (col : Option Bool) (dd : Option Addr) (k0 k1 k2 k3 k5 : Option Value) (nid : String),
    h.get? I = some (excClassObj nm q I NI bs bmB true sn sub ab col dd k0 k1 k2 k3 k5 nid) ∧ h.Ns NI mI
  mro : mroOf (.type B) = pure bmB
section
variable {M : Model} {A : Around} {E : Value → Shared → Prop} {h : Heap} {g : Array GenState} {d : Drawn} {t : Nat} {os : OsState}
variable {C N I : Addr} {bmB : List Value} {mN mI : Str → Option Value} {B newId initId : String}
theorem Two.keeps {h' : Heap} (T : Two h C N I bmB mN mI B newId) (k : ∀ b o, h.get? b = some o → h'.get? b = some o) : Two h' C N I bmB mN mI B newId := by
  obtain ⟨⟨nm, q, bs, sn, sub, ab, col, dd, k0, k1, k2, k3, k5, hC⟩, hn, ⟨jnm, jq, NI, jbs, jsn, jsub, jab, jcol, jdd, j0, j1, j2, j3, j5, nid, hI, hm⟩, hb⟩ := T
  exact ⟨⟨nm, q, bs, sn, sub, ab, col, dd, k0, k1, k2, k3, k5, k _ _ hC⟩, hn.keeps k, ⟨jnm, jq, NI, jbs, jsn, jsub, jab, jcol, jdd, j0, j1, j2, j3, j5, nid, k _ _ hI, hm.keeps k⟩, hb⟩
theorem Two.tail (T : Two h C N I bmB mN mI B newId) (hi : mI "__init__" = none) : OwnTail h bmB (.ref I :: bmB) := by
  obtain ⟨jnm, jq, NI, jbs, jsn, jsub, jab, jcol, jdd, j0, j1, j2, j3, j5, nid, hI, hm⟩ := T.up
  exact .own hI hm hi .base
theorem Two.look {name : Str} {y : Option Value} {Q : Option Value → Shared → Prop} (T : Two h C N I bmB mN mI B newId) (hB : typeLookup (.type B) name = pure y)
    (hq : Q (match mN name with
      | some v => some v
      | none => match mI name with
        | some v => some v
        | none => y) ⟨h, g, d, t, os⟩) : wpAny M A (typeLookup (.ref C) name) Q E ⟨h, g, d, t, os⟩ := by
  obtain ⟨⟨nm, q, bs, sn, sub, ab, col, dd, k0, k1, k2, k3, k5, hC⟩, hn, ⟨jnm, jq, NI, jbs, jsn, jsub, jab, jcol, jdd, j0, j1, j2, j3, j5, nid, hI, hm⟩, hb⟩ := T
  have rest : lookupAlong bmB name = pure y := by
    rw [typeLookup_eq, hb] at hB
    exact hB
  rw [typeLookup_eq]
  refine wpAny_bind (wpAny_mroOf_exc hC ?_)
  rw [lookupAlong_cons]
  refine wpAny_bind (wpAny_classOwn_exc hC hn ?_)
  cases e1 : mN name with
  | some v =>
    rw [e1] at hq
    exact wpAny_pure hq
  | none =>
    rw [e1] at hq
    show wpAny M A (lookupAlong (.ref I :: bmB) name) Q E _
    rw [lookupAlong_cons]
    refine wpAny_bind (wpAny_classOwn_cls hI hm ?_)
    cases e2 : mI name with
    | some v =>
      rw [e2] at hq
      exact wpAny_pure hq
    | none =>
      rw [e2] at hq
      show wpAny M A (lookupAlong bmB name) Q E _
      rw [rest]
      exact wpAny_pure hq
end
section
variable {prog : Program} {w : World} {A : Around} {E : Value → Shared → Prop} {h : Heap} {g : Array GenState} {d : Drawn} {t : Nat} {os : OsState}
variable {C N I : Addr} {bmB : List Value} {mN mI : Str → Option Value} {B newId initId : String}
theorem Two.make {rest : List Value} {fI : Addr} {oI : Obj} {Q : Fin → Shared → Prop} (T : Two h C N I bmB mN mI B newId) (F : ExcBaseFacts B newId initId bmB) (hi : mI "__init__" = none) (hN : mN "__init__" = some (.ref fI))
    (hf : h.get? fI = some oI) (hfc : oI.cls = .type "function") (hrest : rest.length ≤ sizeLine)
    (hq : ∀ h' e, h.objs.size ≤ e → Heap.MadeExcOf h h' e (.ref C) rest → wpAny (model prog w) A (call (.ref fI) (.ref e :: rest)) (fun r s' => r = .none ∧ Q (.done (.ret (.ref e))) s') E ⟨h', g, d, t, os⟩) :
    wpAny (model prog w) A (Builtin.«type.__call__» ⟨.ref C :: rest, []⟩) Q E ⟨h, g, d, t, os⟩ := by
  have TT := T.tail hi
  have T0 := T
  obtain ⟨⟨nm, q, bs, sn, sub, ab, col, dd, k0, k1, k2, k3, k5, hC⟩, hn, ⟨jnm, jq, NI, jbs, jsn, jsub, jab, jcol, jdd, j0, j1, j2, j3, j5, nid, hI, hm⟩, hb⟩ := T
  repeat (first
    | with_reducible refine wpAny_loadPart_at hC ?_
    | with_reducible refine wpAny_madeBy_exc hC ?_
    | wp_step)
  refine codeAny_call_builtin_code (Code.quiet_builtin _ F.quiet) (wpAny_check_new_subT F TT hC ?_)
  refine codeAny_exc_new_subT F TT hC ?_ hrest
  show wpAny _ _ _ _ _ _
  obtain ⟨h2, e2⟩ : ∃ h2, h2 = (h.push { cls := .type "tuple", data := .seq rest.toArray }).push { cls := .ref C, data := .fields #[.ref h.objs.size, .none, .none, .none, .bool false, .none] } := ⟨_, rfl⟩
  rw [← e2]
  have kp : ∀ b o, h.get? b = some o → h2.get? b = some o := fun b o z => by
    rw [e2]; exact Heap.get?_push_of_some _ (Heap.get?_push_of_some _ z)
  have hx : h2.get? (h.objs.size + 1) = some { cls := .ref C, data := .fields #[.ref h.objs.size, .none, .none, .none, .bool false, .none] } := by
    rw [e2]; heap_get
  have ht : h2.get? h.objs.size = some { cls := .type "tuple", data := .seq rest.toArray } := by
    rw [e2]; exact Heap.get?_push_of_some _ (Heap.get?_push_at rfl rfl)
  have hC2 := kp _ _ hC
  have cc : (Value.ref C :: .ref I :: bmB).contains (.ref C) = true := by simp
  unfold isInstance
  repeat (first
    | with_reducible refine wpAny_loadPart_at hx ?_
    | (with_reducible refine wpAny_isSubtype_exc hC2 ?_; rw [cc])
    | wp_step)
  show wpAny _ _ (typeLookup (.ref C) _) _ _ _
  refine (T0.keeps kp).look F.init.lookup ?_
  rw [hN]
  refine wpAny_holding (wpAny_bind ?_)
  unfold bindSpecial
  refine wpAny_bind (wpAny_typeOf (T := "function") ⟨_, kp _ _ hf, hfc⟩ ?_)
  rw [if_pos (by decide)]
  refine wpAny_pure (wpAny_bind (wpAny_mono (hq h2 (h.objs.size + 1) (Nat.le_succ _) ⟨kp, Heap.get?_none_of_le (Nat.le_succ _), h.objs.size, hx, Heap.get?_none_of_le (Nat.le_refl _), ht⟩) (fun r s' hr => ?_) fun _ _ z => z))
  obtain ⟨rfl, hQ⟩ := hr
  wp_walk
  exact hQ
end
end XC
namespace XC
open PySem Builtin Builtin.ObjectAttr
open Sem (wp)
section
variable {prog : Program} {w : World} {A : Around} {E : Value → Shared → Prop} {h : Heap} {g : Array GenState} {d : Drawn} {t : Nat} {os : OsState}
variable {C N I x : Addr} {bmB : List Value} {mN mI : Str → Option Value} {B newId initId sa owner : String} {name : Str} {v : Value}
theorem Two.store0 {tk : Tok} {o : Obj} {Q : Fin → Shared → Prop} (T : Two h C N I bmB mN mI B newId) (SF : StoreFacts B bmB sa owner) (n1 : mN name = none) (n2 : mI name = none) (hB : typeLookup (.type B) name = pure none)
    (hx : h.get? x = some o) (hc : o.cls = .ref C) (hnc : ∀ c, o.data ≠ .cls c) (hdn : o.dict = none)
    (hq : ∀ h' tk' dx, h'.get? x = some { o with dict := some dx } → h.objs.size ≤ dx → dx ≠ x → h'.Ns1 dx (fun y => if y = name then some v else none) → (∀ b u, b ≠ x → h.get? b = some u → h'.get? b = some u) → Q (.done (.ret .none)) ⟨h', g, d, tk', os⟩) :
    wpAny (model prog w) A (Builtin.«object.__setattr__» ⟨[.ref x, .str name tk, v], []⟩) Q E ⟨h, g, d, t, os⟩ := by
  have T0 := T
  obtain ⟨⟨nm, q, bs, sn, sub, ab, col, dd, k0, k1, k2, k3, k5, hC⟩, hn, ⟨jnm, jq, NI, jbs, jsn, jsub, jab, jcol, jdd, j0, j1, j2, j3, j5, nid, hI, hm⟩, hb⟩ := T
  have pass : refuseLoop (.ref x) "__setattr__" (.ref C :: .ref I :: bmB) = pure () := by
    rw [refuseLoop_ref, refuseLoop_ref]; exact SF.passes _
  unfold Builtin.«object.__setattr__»
  repeat (first
    | rw [refuse_eq]
    | rw [pass]
    | (with_reducible refine wpAny_loadPart_at hx ?_; rw [hc])
    | with_reducible refine wpAny_mroOf_exc hC ?_
    | (with_reducible refine T0.look hB ?_; rw [n1, n2])
    | wp_step)
  rw [hdn, if_neg (by simp [typeHasDict])]
  split
  · rename_i z
    cases z
  split
  · rename_i c z
    exact absurd z (hnc c)
  obtain ⟨h1, e1⟩ : ∃ h1, h1 = h.push { cls := .type "dict", data := .dict #[] } := ⟨_, rfl⟩
  have x1 : h1.get? x = some o := by rw [e1]; exact Heap.get?_push_of_some _ hx
  have ne : x ≠ h.objs.size := Nat.ne_of_lt (Heap.lt_size hx)
  refine wpAny_bind (wpAny_alloc' ?_)
  rw [← e1]
  refine wpAny_bind (wpAny_update' x1 (wpAny_pure ?_))
  obtain ⟨h2, e2⟩ : ∃ h2, h2 = h1.update x fun o => { cls := o.cls, dict := some h.objs.size, data := o.data, slots := o.slots } := ⟨_, rfl⟩
  rw [← e2]
  have d2 : h2.get? h.objs.size = some { cls := .type "dict", data := .dict #[] } := by
    rw [e2, e1]
    exact (Heap.get?_update_ne _ _ _ _ ne.symm).trans (Heap.get?_push_at rfl rfl)
  have x2 : h2.get? x = some { cls := o.cls, dict := some h.objs.size, data := o.data, slots := o.slots } := by
    rw [e2]
    refine Heap.get?_update_self _ x1 ?_
    have fr := (Heap.get?_some_iff.mp hx).2
    obtain ⟨oc, od, odt, osl⟩ := o
    cases odt <;> first | rfl | exact fr
  have k2 : ∀ b u, b ≠ x → h.get? b = some u → h2.get? b = some u := fun b u z q => by
    rw [e2, e1]
    exact (Heap.get?_update_ne _ _ _ _ z).trans (Heap.get?_push_of_some _ q)
  have n0 : h2.Ns h.objs.size (fun _ => none) := ⟨_, #[], _, d2, rfl, fun e z => absurd z (by simp), fun _ => rfl⟩
  show wpAny _ _ (storeInDict h.objs.size (.str name tk) name v) _ _ _
  unfold storeInDict newKeyGuard
  refine wpAny_bind (wpAny_pure (wpAny_bind (wpAny_nsSet1 (Heap.Ns1.of_empty n0) fun h3 n3 hs => ?_)))
  obtain ⟨oD, esD, epD, a1, a2, a3⟩ := n3.count (Within.cons name v Within.nil)
  refine wpAny_bind (wpAny_lookBehind a1 (by rw [a2]; exact pastItsLine_dict (Nat.le_trans a3 (show 1 ≤ sizeLine + 1 by decide))) ?_)
  wp_walk
  exact hq h3 _ h.objs.size ((hs.2 x ne).trans x2) (Nat.le_refl _) ne.symm n3 fun b u z q => (hs.2 b (Nat.ne_of_lt (Heap.lt_size q))).trans (k2 b u z q)
theorem Two.set0 {o : Obj} {Q : Unit → Shared → Prop} (T : Two h C N I bmB mN mI B newId) (SF : StoreFacts B bmB sa owner) (s1 : mN "__setattr__" = none) (s2 : mI "__setattr__" = none) (n1 : mN name = none) (n2 : mI name = none) (hB : typeLookup (.type B) name = pure none)
    (hx : h.get? x = some o) (hc : o.cls = .ref C) (hnc : ∀ c, o.data ≠ .cls c) (hdn : o.dict = none)
    (hq : ∀ h' tk' dx, h'.get? x = some { o with dict := some dx } → h.objs.size ≤ dx → dx ≠ x → h'.Ns1 dx (fun y => if y = name then some v else none) → (∀ b u, b ≠ x → h.get? b = some u → h'.get? b = some u) → Q () ⟨h', g, d, tk', os⟩) :
    wpAny (model prog w) A (setAttr (.ref x) name v) Q E ⟨h, g, d, t, os⟩ := by
  have T0 := T
  obtain ⟨⟨nm, q, bs, sn, sub, ab, col, dd, k0, k1, k2, k3, k5, hC⟩, hn, ⟨jnm, jq, NI, jbs, jsn, jsub, jab, jcol, jdd, j0, j1, j2, j3, j5, nid, hI, hm⟩, hb⟩ := T
  have f3 := SF.slot.bind (.ref x)
  have own : (Value.ref C :: .ref I :: bmB).contains (.type owner) = true := by
    rw [List.contains_cons, List.contains_cons, SF.hasOwner, Bool.or_true, Bool.or_true]
  unfold setAttr callSpecial? specialOf
  repeat (any_goals (first
    | assumption
    | (with_reducible refine wpAny_loadPart_at hx ?_; rw [hc])
    | (with_reducible refine T0.look SF.slot.lookup ?_; rw [s1, s2])
    | wp_step))
  refine codeAny_call_builtin SF.slot.plain SF.entry ?_
  have ck : ∀ {A : Around} {E : Value → Shared → Prop} (tk : Tok) (Q : Unit → Shared → Prop) (t : Nat), Q () ⟨h, g, d, t, os⟩ → wpAny (model prog w) A (checkBuiltinCall sa ⟨[.ref x, .str name tk, v], []⟩) Q E ⟨h, g, d, t, os⟩ := by
    intro A E tk Q t z
    have ha := SF.args (.ref x) (.str name tk) v
    simp only [checkBuiltinCall, SF.kind, SF.split]
    refine wpAny_bind ?_
    unfold isInstance
    repeat (first
      | (with_reducible refine wpAny_loadPart_at hx ?_; rw [hc])
      | (with_reducible refine wpAny_isSubtype_exc hC ?_; rw [own])
      | wp_step)
    cases sg : Manifest.signature? sa with
    | none => exact wpAny_pure z
    | some sig =>
      simp only [argsOk, sg] at ha
      have ha : Bind.checkArgs sa sig ⟨[.ref x, .str name tk, v], []⟩ = pure () := ha
      show wpAny _ _ (Bind.checkArgs sa sig ⟨[.ref x, .str name tk, v], []⟩) _ _ _
      rw [ha]
      exact wpAny_pure z
  refine ck _ _ _ (T0.store0 SF n1 n2 hB hx hc hnc hdn fun h' tk' dx z1 z2 z3 z4 z5 => ?_)
  repeat (any_goals (first | assumption | wp_step))
  exact hq h' tk' dx z1 z2 z3 z4 z5
end
end XC
namespace XC
open PySem PySem.Spec PyProof.Rows L2 My
section
variable {P : Program} {w : World} {K : PySem.W.Frag} {mg : Str → Option Value} {base : Heap}
variable {C N I x : Addr} {bmB : List Value} {mN mI : Str → Option Value} {B newId initId sa owner : String}
theorem init_run {k : Nat} {fI : Addr} {name qual f : Str} {params : Arguments} {scope : Scope} {dV kV doc pm cdv ct oc : Value} {an od : Option Addr} {osl : Array (Option Value)} {p1 p2 p3 p4 : Pos}
    (lk : K.lookup fI = some ⟨oc, od, .func (PySem.W.fnOf name qual params [.Assign [.Attribute (.Name "self" p1) f p2] (.Name f p3) p4] scope dV kV doc pm an cdv ct), osl⟩) (hcd : PySem.W.codeIn K cdv qual = true)
    (S : FnScope ["self", f] ["self", f] scope) (l1 : scope.names.lookup ("self" : Str) = some NameKind.local) (l2 : scope.names.lookup f = some .local) (fs : ("self" : Str) ≠ f) (fd : (f == ("__debug__" : Str)) = false) (fc : (f == ("__classdict__" : Str)) = false)
    (hb : Binds K (PySem.W.fnOf name qual params [.Assign [.Attribute (.Name "self" p1) f p2] (.Name f p3) p4] scope dV kV doc pm an cdv ct) ["self", f] [])
    {A : Around} {outer : List Env} {s : Shared} {H : Hp} (hr : Room (k + 1) A) (e0 : Env0 P w K mg base A outer s H)
    (T : Two s.heap C N I bmB mN mI B newId) (SF : StoreFacts B bmB sa owner) (s1 : mN "__setattr__" = none) (s2 : mI "__setattr__" = none) (n1 : mN f = none) (n2 : mI f = none) (hB : typeLookup (.type B) f = pure none)
    {o : Obj} (hx : s.heap.get? x = some o) (hc : o.cls = .ref C) (hnc : ∀ c, o.data ≠ .cls c) (hdn : o.dict = none) {v : V} {u : Value} (rv : RelV v u) {R : Result → Shared → Prop}
    (hq : ∀ h' tk' dx, h'.get? x = some { o with dict := some dx } → s.heap.objs.size ≤ dx → dx ≠ x → h'.Ns1 dx (fun y => if y = f then some u else none) → (∀ b ob, b ≠ x → s.heap.get? b = some ob → h'.get? b = some ob) → R (.ok (.ret .none)) { s with heap := h', toks := tk' }) :
    codeAny (model P w) A (.call (.ref fI) ⟨[.ref x, u], []⟩) R s := by
  have KX : K.In s.heap := e0.mod.kin.keeps fun b o e => (e0.bs b o e).1
  have lim : s.heap.NoLimit := e0.mod.nolimit.keeps fun b o e => (e0.bs b o e).1
  have kinds : ∀ y ∈ (["self", f] : List Str).zip [Value.ref x, u], scope.names.lookup y.1 = some .local ∨ (scope.names.lookup y.1 = some .cell ∧ ((cellsFrom (s.heap.objs.size + 1) scope.names []).lookup y.1).isSome = true) := by
    rintro ⟨n, z⟩ hy
    rcases S.par n (List.of_mem_zip hy).1 with q | q
    · exact .inl q
    · exact .inr ⟨q, PySem.W.cellsFrom_some _ _ _ (.inl q)⟩
  refine codeAny_call_function hr.depth (KX _ _ lk) rfl S.co S.gen rfl (PySem.W.codeRec_of KX hcd) (hb s [.ref x, u] KX rfl _ _ _ _ ?_)
  refine wpAny_newFunctionEnv_cells S.kind kinds fun env he s3 y => ?_
  subst he
  refine ⟨lim.keeps y.toInCall.keep, codeAny_func ?_⟩
  obtain ⟨h3, tk3, rfl, kp⟩ := y.done
  have ns := y.toInCall.ns
  have m1 : bindL (envOfC qual scope s.heap.objs.size fI cdv).kindOf ((["self", f] : List Str).zip [Value.ref x, u]) (fun _ => none) "self" = some (.ref x) :=
    bindL_get S.nd (i := 0) rfl rfl l1
  have m2 : bindL (envOfC qual scope s.heap.objs.size fI cdv).kindOf ((["self", f] : List Str).zip [Value.ref x, u]) (fun _ => none) f = some u :=
    bindL_get S.nd (i := 1) rfl rfl l2
  refine wpAny_execs_cons (plainObj_wpAny_Assign_Attribute (wpAny_Name (wpAny_loadName_local S.kind l2 ns m2 (wpAny_Name (wpAny_loadName_local S.kind l1 ns m1 ?_))) fd))
  refine (T.keeps kp).set0 SF s1 s2 n1 n2 hB (kp _ _ hx) hc hnc hdn fun h' tk' dx z1 z2 z3 z4 z5 => ?_
  refine wpAny_execs_nil ?_
  exact hq h' tk' dx z1 (Nat.le_trans (Nat.le_trans y.toInCall.fresh (Nat.le_of_lt ns.lt)) z2) z3 z4 fun b ob e q => z5 b ob e (kp _ _ q)
end
end XC
namespace XC
open PySem PySem.Spec PyProof.Rows L2 My
structure Fly (h : Heap) (a C dx : Addr) (f : Str) (u : Value) (tb : Option Addr) : Prop where
  obj : ∃ vs sl, h.get? a = some ⟨.ref C, some dx, .fields vs, sl⟩ ∧ vs[1]? = some (tb.elim .none .ref)
  dic : h.Ns1 dx (fun y => if y = f then some u else none)
  ne : dx ≠ a
  hd : ∀ T, tb = some T → T ≠ a ∧ T ≠ dx ∧ ∃ oT ts, h.get? T = some oT ∧ oT.data = .fields ts ∧ ts[3]? = some .none
section
variable {M : Model} {A : Around} {E : Value → Shared → Prop} {s : Shared}
theorem entry_new {base : Heap} {env : Env} {outer : List Env} {L a : Addr} {oe : Obj} {vs : Array Value} {head : Value} {hn : Bool} {Q : Unit → Shared → Prop}
    (hfr : A.frames = some (env :: outer)) (hl : s.heap.FunFrames base (env :: outer)) (hf : env.frame = some L) (he : s.heap.get? a = some oe) (hd : oe.data = .fields vs) (hsz : 1 < vs.size)
    (h : ∀ h' T, s.heap.objs.size ≤ T → h'.get? a = some (oe.mapFields (·.setIfInBounds 1 (.ref T))) → (∃ oT ts, h'.get? T = some oT ∧ oT.data = .fields ts ∧ ts[3]? = some .none) →
      (∀ b o, b ≠ a → b ∉ frs (env :: outer) → s.heap.get? b = some o → h'.get? b = some o) → (∀ b o, b ≠ a → s.heap.get? b = some o → ∃ sl, h'.get? b = some { o with slots := sl }) → Q () { s with heap := h' }) :
    wpAny M A (do let z ← frameOf env; let pl ← entryPlaceOf L hn; let b ← EntryCells.newEntry head z .none (rawInt L) .none pl; setField (.ref a) 1 b) (fun _ s' => wpAny M A (setFlight (.ref a) none) Q E s') E s := by
  have nf : a ∉ (env :: outer).filterMap (·.frame) := fun z => by
    obtain ⟨_, o, ho, q⟩ := hl.mem z
    rw [he] at ho
    cases ho
    exact q vs hd
  refine wpAny_bind (wpAny_frameOf_fun hfr hl hf fun h1 hs => ?_)
  refine wpAny_bind (wpAny_entryPlaceOf fun pl hpl => ?_)
  unfold EntryCells.newEntry newFields
  refine wpAny_bind (wpAny_newObj_type ?_ (hpl.sizeOk5 _ _ _ _ _))
  obtain ⟨ob, eob⟩ : ∃ ob : Obj, ob = { cls := .type "traceback", dict := none, data := .fields ([head, .ref L, .none, rawInt L, .none] ++ (if pl.isEmpty then List.replicate 6 Value.none else pl)).toArray } := ⟨_, rfl⟩
  rw [← eob]
  have od : ob.data = .fields ([head, .ref L, .none, rawInt L, .none] ++ (if pl.isEmpty then List.replicate 6 Value.none else pl)).toArray := by rw [eob]
  have ofr : ob.isFreed = false := by rw [eob]; rfl
  have a1 : h1.get? a = some oe := (hs.2.1 a nf).trans he
  have a2 : (h1.push ob).get? a = some oe := Heap.get?_push_of_some _ a1
  refine wpAny_setField a2 hd hsz ?_
  have sz : h1.objs.size = s.heap.objs.size := hs.1
  have ne : h1.objs.size ≠ a := Nat.ne_of_gt (Heap.lt_size a1)
  have d3 := Obj.data_mapFields hd (·.setIfInBounds 1 (Value.ref h1.objs.size))
  obtain ⟨h3, e3⟩ : ∃ h3, h3 = (h1.push ob).update a (Obj.mapFields (·.setIfInBounds 1 (Value.ref h1.objs.size))) := ⟨_, rfl⟩
  rw [← e3]
  have a3 : h3.get? a = some (oe.mapFields (·.setIfInBounds 1 (.ref h1.objs.size))) := by
    rw [e3]; exact Heap.get?_update_self _ a2 (Obj.isFreed_of_fields d3)
  have t3 : h3.get? h1.objs.size = some ob := by
    rw [e3]; exact (Heap.get?_update_other _ _ ne.symm).trans (Heap.get?_push_size h1 ofr)
  have o3 : ∀ b, b ≠ a → b ≠ h1.objs.size → h3.get? b = h1.get? b := fun b z1 z2 => by
    rw [e3, Heap.get?_update_other _ _ (Ne.symm z1)]
    exact Heap.get?_push_ne _ _ _ z2
  unfold setFlight
  refine wpAny_bind (wpAny_field a3 d3 (x := .ref h1.objs.size) (by simp [hsz]) ?_)
  rw [if_pos (show (Value.ref h1.objs.size != Value.none) = true by simp)]
  have d4 := Obj.data_mapFields od (·.setIfInBounds 3 ((none : Option Addr).elim Value.none fun f => rawInt f))
  refine wpAny_setField t3 od (by simp only [List.size_toArray, List.length_append, List.length_cons, List.length_nil] <;> omega) ?_
  obtain ⟨h4, e4⟩ : ∃ h4, h4 = h3.update h1.objs.size (Obj.mapFields (·.setIfInBounds 3 ((none : Option Addr).elim Value.none fun f => rawInt f))) := ⟨_, rfl⟩
  rw [← e4]
  have o4 : ∀ b, b ≠ h1.objs.size → h4.get? b = h3.get? b := fun b z => by rw [e4]; exact Heap.get?_update_other _ _ (Ne.symm z)
  refine h h4 h1.objs.size (Nat.le_of_eq sz.symm) ((o4 a (Ne.symm ne)).trans a3) ⟨_, _, by rw [e4]; exact Heap.get?_update_self _ t3 (Obj.isFreed_of_fields d4), d4, ?_⟩ (fun b o z1 z2 q => ?_) fun b o z1 q => ?_
  · rcases hpl with rfl | ⟨_, _, _, _, _, _, _, rfl⟩ <;> simp
  · have q1 : h1.get? b = some o := (hs.2.1 b z2).trans q
    have z3 : b ≠ h1.objs.size := Nat.ne_of_lt (Heap.lt_size q1)
    exact (o4 b z3).trans ((o3 b z1 z3).trans q1)
  · obtain ⟨sl, q1⟩ := hs.2.2 b o q
    have z3 : b ≠ h1.objs.size := Nat.ne_of_lt (Heap.lt_size q1)
    exact ⟨sl, (o4 b z3).trans ((o3 b z1 z3).trans q1)⟩
end
end XC
namespace XC
open PySem PySem.Spec PyProof.Rows L2 My
section
variable {M : Model} {A : Around} {E : Value → Shared → Prop} {s : Shared}
theorem note_fly {base : Heap} {env : Env} {outer : List Env} {L a C dx : Addr} {f : Str} {u : Value} {tb : Option Addr} {Q : Unit → Shared → Prop}
    (hfr : A.frames = some (env :: outer)) (hl : s.heap.FunFrames base (env :: outer)) (hf : env.frame = some L) (F : Fly s.heap a C dx f u tb) (nd : dx ∉ frs (env :: outer))
    (h : ∀ h' T, s.heap.objs.size ≤ T → Fly h' a C dx f u (some T) → (∀ b o, b ≠ a → tb ≠ some b → b ∉ frs (env :: outer) → s.heap.get? b = some o → h'.get? b = some o) →
      (∀ b o, b ≠ a → tb ≠ some b → s.heap.get? b = some o → ∃ sl, h'.get? b = some { o with slots := sl }) → Q () { s with heap := h' }) :
    wpAny M A (noteFrame (.ref a) env) (fun _ s' => wpAny M A (setFlight (.ref a) none) Q E s') E s := by
  obtain ⟨⟨vs, sl, ea, e1⟩, hdic, hne, hhd⟩ := F
  have hsz : 1 < vs.size := (Array.getElem?_eq_some_iff.mp e1).1
  have dlt : dx < s.heap.objs.size := by
    obtain ⟨o, _, _, q, _⟩ := hdic
    exact Heap.lt_size q
  unfold noteFrame
  simp only [hf]
  cases tb with
  | none =>
    refine wpAny_bind (wpAny_field ea rfl e1 ?_)
    rw [if_neg (by decide)]
    refine entry_new hfr hl hf ea rfl hsz fun h' T hT q1 q2 q3 q4 => h h' T hT ⟨⟨_, sl, q1, by simp [hsz]⟩, ?_, hne, fun T' z => ?_⟩ (fun b o z1 _ z2 z3 => q3 b o z1 z2 z3) fun b o z1 _ z2 => q4 b o z1 z2
    · obtain ⟨o, es, ep, r1, r2⟩ := hdic
      exact ⟨o, es, ep, q3 dx o hne nd r1, r2⟩
    · cases z
      refine ⟨fun z => ?_, fun z => ?_, q2⟩
      · rw [z] at hT
        exact absurd (Heap.lt_size ea) (Nat.not_lt.mpr hT)
      · rw [z] at hT
        exact absurd dlt (Nat.not_lt.mpr hT)
  | some T =>
    obtain ⟨Ta, Td, oT, ts, t1, t2, t3⟩ := hhd T rfl
    refine wpAny_bind (wpAny_field ea rfl e1 ?_)
    rw [if_pos (show ((Option.elim (some T) Value.none Value.ref) != Value.none) = true by simp)]
    refine wpAny_bind (wpAny_field t1 t2 t3 ?_)
    rw [if_neg (show ¬ ((Value.none == rawInt L) = true) by simp [rawInt])]
    refine wpAny_bind (wpAny_setField t1 t2 (Array.getElem?_eq_some_iff.mp t3).1 ?_)
    obtain ⟨h2, e2⟩ : ∃ h2, h2 = s.heap.update T (Obj.mapFields (·.setIfInBounds 3 Value.none)) := ⟨_, rfl⟩
    rw [← e2]
    have o2 : ∀ b, b ≠ T → h2.get? b = s.heap.get? b := fun b z => by rw [e2]; exact Heap.get?_update_other _ _ (Ne.symm z)
    have sz2 : h2.objs.size = s.heap.objs.size := by rw [e2]; exact Heap.size_update ..
    have nT : T ∉ frs (env :: outer) := fun z => by
      obtain ⟨_, o, ho, q⟩ := hl.mem z
      rw [t1] at ho
      cases ho
      exact q ts t2
    have hl2 : h2.FunFrames base (env :: outer) := hl.of_keeps fun b o hb q => ⟨o, (o2 b fun z => by rw [z, t1] at hb; cases hb; exact q ts t2).trans hb, rfl⟩
    refine entry_new (s := { s with heap := h2 }) hfr hl2 hf ((o2 a (Ne.symm Ta)).trans ea) rfl hsz fun h' T' hT q1 q2 q3 q4 => h h' T' (by rw [← sz2]; exact hT) ⟨⟨_, sl, q1, by simp [hsz]⟩, ?_, hne, fun T2 z => ?_⟩
      (fun b o z1 z0 z2 z3 => q3 b o z1 z2 ((o2 b fun z => z0 (by rw [z])).trans z3)) fun b o z1 z0 z2 => q4 b o z1 ((o2 b fun z => z0 (by rw [z])).trans z2)
    · obtain ⟨o, es, ep, r1, r2⟩ := hdic
      exact ⟨o, es, ep, q3 dx o hne nd ((o2 dx (Ne.symm Td)).trans r1), r2⟩
    · cases z
      have hT : s.heap.objs.size ≤ T' := by rw [← sz2]; exact hT
      refine ⟨fun z => ?_, fun z => ?_, q2⟩
      · rw [z] at hT
        exact absurd (Heap.lt_size ea) (Nat.not_lt.mpr hT)
      · rw [z] at hT
        exact absurd dlt (Nat.not_lt.mpr hT)
end
end XC
namespace XC
open PySem PySem.Spec PyProof.Rows L2 My
structure Loose (X : Cx) (pins : List (Addr × Obj)) (H : Hp) (b : Addr) : Prop where
  new : X.s₀.heap.objs.size ≤ b
  loc : b ≠ X.env.locals
  cel : ∀ x c, X.env.cells.lookup x = some c → c ≠ b
  pin : ∀ p ∈ X.pn ++ pins, p.1 ≠ b
  out : H b = none
section
variable {X : Cx} {pins : List (Addr × Obj)} {σ : L2.St} {H H' : Hp} {s : Shared}
theorem Loose.of (I : Inv X pins σ H s) {b : Addr} (hb : s.heap.objs.size ≤ b) (hH : H' b = none) : Loose X pins H' b := by
  refine ⟨Nat.le_trans I.sz hb, fun z => ?_, fun x c e z => ?_, fun p hp z => ?_, hH⟩
  · rw [z] at hb; exact absurd I.lt (Nat.not_lt.mpr hb)
  · obtain ⟨v, o, ho, _⟩ := I.cell x c e
    rw [z] at ho
    exact absurd (Heap.lt_size ho) (Nat.not_lt.mpr hb)
  · have := (I.pin p hp).1
    rw [z] at this
    exact absurd (Heap.lt_size this) (Nat.not_lt.mpr hb)
theorem Loose.nofs (I : Inv X pins σ H s) {b : Addr} (L : Loose X pins H' b) : b ∉ X.env.locals :: X.fs := fun z => by
  rcases List.mem_cons.mp z with e | e
  · exact L.loc e
  · obtain ⟨_, o, ho, _⟩ := I.ok.funs.mem e
    exact absurd (Heap.lt_size ho) (Nat.not_lt.mpr L.new)
theorem inv_note {M : Model} {A : Around} {E : Value → Shared → Prop} {a C dx : Addr} {f : Str} {u : Value} {tb : Option Addr} {Q : Unit → Shared → Prop} (hA : A.frames = X.A.frames) (I : Inv X pins σ H s) (hst : X.stack = X.env :: X.outer) (hfr : X.env.frame = some X.env.locals)
    (F : Fly s.heap a C dx f u tb) (La : Loose X pins H a) (Ld : Loose X pins H dx) (Lt : ∀ T, tb = some T → Loose X pins H T)
    (h : ∀ s' T, Inv X pins σ H s' → Fly s'.heap a C dx f u (some T) → s'.os = s.os → s'.gens = s.gens → Loose X pins H T → Q () s') :
    wpAny M A (noteFrame (.ref a) X.env) (fun _ s' => wpAny M A (setFlight (.ref a) none) Q E s') E s := by
  have fl := I.stack
  rw [hst] at fl
  have fe : frs (X.env :: X.outer) = X.env.locals :: X.fs := by unfold frs; rw [List.filterMap_cons, hfr]; rfl
  refine note_fly (hA.trans (I.ok.frames.trans (by rw [hst]))) fl hfr F (by rw [fe]; exact Ld.nofs I) fun h' T hT F' k1 k2 => ?_
  have LT : Loose X pins H T := Loose.of I hT (I.hok.fresh hT)
  refine h _ T ?_ F' rfl rfl LT
  rw [fe] at k1
  have ex : ∀ b, H b ≠ none → b ≠ a ∧ tb ≠ some b ∧ b ∉ X.env.locals :: X.fs := fun b hb => by
    refine ⟨fun z => hb (by rw [z]; exact La.out), fun z => hb (Lt b z).out, fun z => hb ?_⟩
    exact I.stkFree b (by rw [hst, fe]; exact z)
  obtain ⟨m, ⟨o, es, ep, ho, r⟩, _⟩ := id I.loc
  obtain ⟨sl, hL⟩ := k2 _ o (Ne.symm La.loc) (fun z => (Lt _ z).loc rfl) ho
  refine I.step (g' := s.gens) (d' := s.drawn) (t' := s.toks) (ch := a :: tb.toList) (fun b hb => ?_) (fun b o z1 z2 z3 q _ => k1 b o (fun z => z3 (by rw [z]; exact List.mem_cons_self)) (fun z => z3 (List.mem_cons_of_mem _ (by rw [z]; exact List.mem_singleton.mpr rfl))) (fun z => (List.mem_cons.mp z).elim z1 z2) q)
    (fun b o z1 z2 z3 q _ => k2 b o (fun z => z3 (by rw [z]; exact List.mem_cons_self)) (fun z => z3 (List.mem_cons_of_mem _ (by rw [z]; exact List.mem_singleton.mpr rfl))) q) (fun _ _ _ _ z => z)
    (fun b o z3 q => let ⟨_, w⟩ := k2 b o (fun z => z3 (by rw [z]; exact List.mem_cons_self)) (fun z => z3 (List.mem_cons_of_mem _ (by rw [z]; exact List.mem_singleton.mpr rfl))) q; ⟨_, w⟩) (fun _ _ e => e) (fun _ _ _ e => e) (fun _ _ _ e => e) (fun m' hm => ?_) (fun b w e => ?_) I.bare
  · rcases List.mem_cons.mp hb with e | e
    · rw [e]; exact ⟨.inr La.new, La.loc, La.cel, La.pin⟩
    · cases tb with
      | none => cases e
      | some T0 =>
        have e : b = T0 := by simpa using e
        have := Lt T0 rfl
        rw [e]; exact ⟨.inr this.new, this.loc, this.cel, this.pin⟩
  · obtain ⟨o', es', ep', ho', r'⟩ := hm
    rw [ho] at ho'; cases ho'
    exact ⟨_, es', ep', hL, r'⟩
  · refine (I.hok b w e).stay (fun c v hc q => ?_) (fun _ q => q) fun _ _ q => q
    obtain ⟨z1, z2, z3⟩ := ex c (by
      rcases hc with z | z
      · rw [z, e]; simp
      · rw [z]; simp)
    exact k1 c v z1 z2 z3 q
end
end XC
namespace XC
open PySem PySem.Spec PyProof.Rows L2 My
section
variable {prog : Program} {w : World} {A : Around} {E : Value → Shared → Prop} {h : Heap} {g : Array GenState} {d : Drawn} {t : Nat} {os : OsState}
variable {C N I : Addr} {bmB : List Value} {mN mI : Str → Option Value} {B newId initId : String}
theorem Two.call {rest : List Value} {fI : Addr} {oI : Obj} {Q : Value → Shared → Prop} (T : Two h C N I bmB mN mI B newId) (F : ExcBaseFacts B newId initId bmB) (hi : mI "__init__" = none) (hN : mN "__init__" = some (.ref fI))
    (hf : h.get? fI = some oI) (hfc : oI.cls = .type "function") (hrest : rest.length ≤ sizeLine)
    (hq : ∀ h' e, h.objs.size ≤ e → Heap.MadeExcOf h h' e (.ref C) rest → wpAny (model prog w) (A.under (.builtin "type.__call__" ⟨.ref C :: rest, []⟩)) (call (.ref fI) (.ref e :: rest)) (fun r s' => r = .none ∧ Q (.ref e) s') E ⟨h', g, d, t, os⟩) :
    wpAny (model prog w) A (call (.ref C) rest) Q E ⟨h, g, d, t, os⟩ := by
  have T0 := T
  obtain ⟨⟨nm, q, bs, sn, sub, ab, col, dd, k0, k1, k2, k3, k5, hC⟩, hn, ⟨jnm, jq, NI, jbs, jsn, jsub, jab, jcol, jdd, j0, j1, j2, j3, j5, nid, hI, hm⟩, hb⟩ := T
  have g1 := tc_lookup
  have g2 := tc_bind (.ref C)
  have ty : (⟨h, g, d, t, os⟩ : Shared).TypeIs (.ref C) "type" := ⟨_, hC, rfl⟩
  refine wpAny_call (codeAny_of_tree ?_)
  show wpAny _ _ (callAny (.ref C) _) _ _ _
  repeat (any_goals (first
    | assumption
    | with_reducible refine wpAny_loadPart_at hC ?_
    | wp_step))
  refine ⟨rfl, ?_⟩
  refine codeAny_call_builtin_at (Code.quiet_builtin _ (by decide +kernel)) entry_typeCall (wpAny_check_type_call_sub hC (T0.make F hi hN hf hfc hrest fun h' e hz hm => ?_))
  exact hq h' e hz hm
theorem raise_made {M : Model} {A : Around} {s : Shared} {env : Env} {x : Sem Value} {Q : Flow → Shared → Prop} (hh : A.handled = none) (hbase : bmB.contains (.type "BaseException") = true)
    (h : wpAny M A x (fun v s₁ => ∃ e oe, v = .ref e ∧ Two s₁.heap C N I bmB mN mI B newId ∧ s₁.heap.get? e = some oe ∧ oe.cls = .ref C ∧ (∃ vs, oe.data = .fields vs ∧ vs[1]? = some .none) ∧ E (.ref e) s₁) E s) :
    wpAny M A (raiseStmt env (some x) none) Q E s := by
  have cB : (Value.ref C :: .ref I :: bmB).contains (.type "BaseException") = true := by
    rw [List.contains_cons, List.contains_cons, hbase, Bool.or_true, Bool.or_true]
  unfold raiseStmt
  refine wpAny_bind (wpAny_mono h (fun v s₁ q => ?_) fun _ _ z => z)
  obtain ⟨e, oe, rfl, T, he, hc, ⟨vs, hd, h1⟩, hE⟩ := q
  obtain ⟨⟨nm, q, bs, sn, sub, ab, col, dd, k0, k1, k2, k3, k5, hC⟩, hn, ⟨jnm, jq, NI, jbs, jsn, jsub, jab, jcol, jdd, j0, j1, j2, j3, j5, nid, hI, hm⟩, hb⟩ := T
  obtain ⟨hp, g, d, tk, os⟩ := s₁
  repeat (first
    | (with_reducible refine wpAny_loadPart_at he ?_; rw [hc])
    | with_reducible refine wpAny_loadPart_at hC ?_
    | (with_reducible refine wpAny_isSubtype_exc hC ?_; rw [cB])
    | (with_reducible refine wpAny_field he hd h1 ?_)
    | wp_step)
  exact wpAny_raiseNew_none hh hE
end
end XC
namespace XC
open PySem PySem.Spec PyProof.Rows L2 My
abbrev bmV : List Value := [.type "ValueError", .type "Exception", .type "BaseException", .type "object"]
structure Init (K : PySem.W.Frag) (f : Str) (fI : Addr) : Prop where
  ex : ∃ (name qual : Str) (params : Arguments) (scope : Scope) (dV kV doc pm cdv ct : Value) (an od : Option Addr) (osl : Array (Option Value)) (p1 p2 p3 p4 : Pos),
    K.lookup fI = some ⟨.type "function", od, .func (PySem.W.fnOf name qual params [.Assign [.Attribute (.Name "self" p1) f p2] (.Name f p3) p4] scope dV kV doc pm an cdv ct), osl⟩ ∧ PySem.W.codeIn K cdv qual = true ∧
    FnScope ["self", f] ["self", f] scope ∧ scope.names.lookup ("self" : Str) = some NameKind.local ∧ scope.names.lookup f = some NameKind.local ∧
    Binds K (PySem.W.fnOf name qual params [.Assign [.Attribute (.Name "self" p1) f p2] (.Name f p3) p4] scope dV kV doc pm an cdv ct) ["self", f] []
  ne : ("self" : Str) ≠ f
  nd : (f == ("__debug__" : Str)) = false
  nc : (f == ("__classdict__" : Str)) = false
structure Exc (K : PySem.W.Frag) (mg : Str → Option Value) (cn f : Str) (C I : Addr) : Prop where
  mgC : mg cn = some (.ref C)
  kp : PySem.W.keepIn K (.ref C) = true
  hB : typeLookup (.type "ValueError") f = pure none
  ex : ∃ (N fI : Addr) (mN mI : Str → Option Value), (∀ h, K.In h → Two h C N I bmV mN mI "ValueError" "ValueError.__new__") ∧ mN "__init__" = some (.ref fI) ∧ mI "__init__" = none ∧ mN "__setattr__" = none ∧ mI "__setattr__" = none ∧ mN f = none ∧ mI f = none ∧ Init K f fI
section
variable {X : Cx} {pins : List (Addr × Obj)} {σ : L2.St} {H : Hp} {s : Shared} {cn f : Str} {C I : Addr} {arg : Expr} {ta : TE} {p pos : Pos} {k : Nat}
theorem make_exc {R : V → Hp → Prop} (Ex : Exc X.K X.mg cn f C I) (hr : Room (k + 2) X.A) (hg : Gl X cn) (hdb : (cn == ("__debug__" : Str)) = false) (ha : PE X arg ta) (J : Inv X pins σ H s) (h : ta σ H R)
    (he : starEach [arg] X.env = (false, eval arg X.env) :: starEach [] X.env := by rfl) (hpl : (backTo pos (starEach [] X.env)).any (·.1) = false := by rfl) :
    wpAny (model X.prog X.w) X.A (eval (.Call (.Name cn p) [arg] [] pos) X.env) (fun r s' => ∃ (v : V) (H1 : Hp) (a dx : Addr) (u : Value), r = .ref a ∧ R v H1 ∧ RelV v u ∧ Inv X pins σ H1 s' ∧ Fly s'.heap a C dx f u none ∧ Loose X pins H1 a ∧ Loose X pins H1 dx) X.xe s := by
  obtain ⟨mgC, kp, hB, N, fI, mN, mI, TK, i1, i2, s1, s2, n1, n2, ⟨⟨name, qual, params, scope, dV, kV, doc, pm, cdv, ct, an, od, osl, p1, p2, p3, p4, lk, hcd, S, l1, l2, hb⟩, ne, nd, nc⟩⟩ := Ex
  refine wpAny_Call_Name_kw (ld_glob J hg mgC ?_ hdb)
  have h' : tCons ta tNil σ H fun vs H1 => match vs with
      | [v] => R v H1
      | _ => False := h
  refine PySem.W.callWith_K (h₀ := X.base) J.ok.mod.kin kp (thn (pa_cons ha pa_nil he pos pins s σ H _ J h') fun us z ⟨vs, H1, J1, r, q⟩ => ⟨J1.kIn, ?_⟩) he hpl
  obtain ⟨v, u, rfl, rfl, rv⟩ : ∃ v u, vs = [v] ∧ us = [u] ∧ RelV v u := by
    cases r with
    | nil => exact q.elim
    | cons a b => cases b with
      | nil => exact ⟨_, _, rfl, rfl, a⟩
      | cons _ _ => exact q.elim
  obtain ⟨hp, g, d, tk, os⟩ := z
  refine (TK _ J1.kIn).call PySem.F.excBase_ValueError i2 i1 (J1.kIn _ _ lk) rfl (show 1 ≤ sizeLine by decide) fun h' e hz hm => ?_
  have J2 : Inv X pins σ H1 ⟨h', g, d, tk, os⟩ := J1.kept (t' := tk) hm.keeps
  obtain ⟨t, ht, _, _⟩ := hm.there
  refine wpAny_call (init_run (x := e) lk hcd S l1 l2 ne nd nc hb (hr.make C [u] []) (J2.env0.make C [u] []) (TK _ J2.kIn) PySem.F.store_ValueError s1 s2 n1 n2 hB ht rfl (fun c z => by cases z) rfl rv fun h3 tk3 dx z1 z2 z3 z4 z5 => ?_)
  have k3 : ∀ b ob, hp.get? b = some ob → h3.get? b = some ob := fun b ob w => z5 b ob (fun y => by
    rw [y] at w
    exact absurd (Heap.lt_size w) (Nat.not_lt.mpr hz)) (hm.keeps _ _ w)
  have J3 : Inv X pins σ H1 ⟨h3, g, d, tk3, os⟩ := J1.kept (t' := tk3) k3
  have szz : hp.objs.size ≤ dx := by
    have e1 : e < h'.objs.size := Heap.lt_size ht
    exact Nat.le_trans hz (Nat.le_trans (Nat.le_of_lt e1) z2)
  exact ⟨rfl, v, H1, e, dx, u, rfl, q, rv, J3, ⟨⟨_, _, z1, rfl⟩, z4, z3, fun T y => by cases y⟩, Loose.of J1 hz (J1.hok.fresh hz), Loose.of J1 szz (J1.hok.fresh szz)⟩
end
end XC
namespace XC
open PySem PySem.Spec PyProof.Rows L2 My
def CXE (P : Program) (w : World) (fld : Addr → Str) : CXT := fun outer H s E e s' => ∃ (a C dx T : Addr) (u : Value) (H' : Hp), e = .ref a ∧ s'.os = s.os ∧ AllBare s'.gens ∧ Un (frs outer) [] H H' s.heap s'.heap ∧ HOk P w H' s'.heap ∧ Fly s'.heap a C dx (fld C) u (some T) ∧
  s.heap.objs.size ≤ a ∧ s.heap.objs.size ≤ dx ∧ s.heap.objs.size ≤ T ∧ H' a = none ∧ H' dx = none ∧ H' T = none ∧ E u (some C) H'
theorem CXE.no {P : Program} {w : World} {fld : Addr → Str} {outer : List Env} {H : Hp} {s s' : Shared} {e : Value} (h : CXE P w fld outer H s E0 e s') : False := by
  obtain ⟨_, _, _, _, _, _, _, _, _, _, _, _, _, _, _, _, _, _, z⟩ := h
  exact z
section
variable {P : Program} {w : World} {K : PySem.W.Frag} {mg : Str → Option Value} {base : Heap} {N : List Str} {qual : Str} {scope : Scope} {fa : Addr} {cdv : Value} {A : Around} {outer : List Env} {s₀ : Shared} {H₀ : Hp} {E : XK} {fld : Addr → Str}
variable {pins : List (Addr × Obj)} {σ : L2.St} {H : Hp} {s : Shared}
theorem xe_of {a C dx : Addr} {u : Value} {tb : Option Addr} (I : Inv (cxOf (CXE P w fld) P w K mg base N qual scope fa cdv A outer s₀ H₀ E) pins σ H s) (F : Fly s.heap a C dx (fld C) u tb)
    (La : Loose (cxOf (CXE P w fld) P w K mg base N qual scope fa cdv A outer s₀ H₀ E) pins H a) (Ld : Loose (cxOf (CXE P w fld) P w K mg base N qual scope fa cdv A outer s₀ H₀ E) pins H dx)
    (Lt : ∀ T, tb = some T → Loose (cxOf (CXE P w fld) P w K mg base N qual scope fa cdv A outer s₀ H₀ E) pins H T) (q : E u (some C) H) : (cxOf (CXE P w fld) P w K mg base N qual scope fa cdv A outer s₀ H₀ E).xe (.ref a) s := by
  show wpAny _ _ (leaving _ (.ref a)) _ _ s
  unfold leaving
  refine wpAny_bind (inv_note rfl I rfl rfl F La Ld Lt fun s' T I' F' o1 o2 LT => ?_)
  exact ⟨a, C, dx, T, u, H, rfl, I'.os, I'.bare, I'.base, I'.hok, F', La.new, Ld.new, LT.new, La.out, Ld.out, LT.out, q⟩
end
section
variable {X : Cx} {pins : List (Addr × Obj)} {σ : L2.St} {H : Hp} {s : Shared} {cn f : Str} {C I : Addr} {arg : Expr} {ta : TE} {p pos rpos : Pos} {k : Nat}
theorem raise_at {Q : Flow → Shared → Prop} {R : V → Hp → Prop} (Ex : Exc X.K X.mg cn f C I) (hr : Room (k + 2) X.A) (hg : Gl X cn) (hdb : (cn == ("__debug__" : Str)) = false) (ha : PE X arg ta) (J : Inv X pins σ H s) (h : ta σ H R)
    (hx : ∀ (v : V) (H1 : Hp) (a dx : Addr) (u : Value) (s' : Shared), R v H1 → RelV v u → Inv X pins σ H1 s' → Fly s'.heap a C dx f u none → Loose X pins H1 a → Loose X pins H1 dx → X.xe (.ref a) s')
    (he : starEach [arg] X.env = (false, eval arg X.env) :: starEach [] X.env := by rfl) (hpl : (backTo pos (starEach [] X.env)).any (·.1) = false := by rfl) :
    wpAny (model X.prog X.w) X.A (exec (.Raise (some (.Call (.Name cn p) [arg] [] pos)) none rpos) X.env) Q X.xe s := by
  have Ex0 := Ex
  obtain ⟨mgC, kp, hB, N, fI, mN, mI, TK, i1, i2, s1, s2, n1, n2, _⟩ := Ex
  rw [arm_exec_Raise]
  simp only [evalOpt, Option.map]
  refine wpAny_bind (wpAny_standAt (raise_made (C := C) (N := N) (I := I) (bmB := bmV) (mN := mN) (mI := mI) (B := "ValueError") (newId := "ValueError.__new__") hr.hd (by decide) ?_))
  refine wpAny_bind (wpAny_mono (make_exc Ex0 hr hg hdb ha J h he hpl) (fun r s' q => ?_) fun _ _ z => z)
  obtain ⟨v, H1, a, dx, u, rfl, q, rv, J', F, La, Ld⟩ := q
  refine wpAny_bind (wpAny_standAt (wpAny_pure ?_))
  obtain ⟨vs, sl, e1, e2⟩ := F.obj
  exact ⟨a, _, rfl, TK _ J'.kIn, e1, rfl, ⟨vs, rfl, e2⟩, hx v H1 a dx u s' q rv J' F La Ld⟩
end
end XC
namespace XC
open PySem PySem.Spec PyProof.Rows L2 My
section
variable {M : Model} {A : Around} {E : Value → Shared → Prop} {h : Heap} {g : Array GenState} {d : Drawn} {t : Nat} {os : OsState}
variable {C N I a : Addr} {bmB : List Value} {mN mI : Str → Option Value} {B newId : String} {oe : Obj}
theorem Two.match_up {Q : Bool → Shared → Prop} (T : Two h C N I bmB mN mI B newId) (he : h.get? a = some oe) (hc : oe.cls = .ref C) (hbase : bmB.contains (.type "BaseException") = true) (hq : Q true ⟨h, g, d, t, os⟩) :
    wpAny M A (excMatches (.ref a) (.ref I)) Q E ⟨h, g, d, t, os⟩ := by
  obtain ⟨⟨nm, q, bs, sn, sub, ab, col, dd, k0, k1, k2, k3, k5, hC⟩, hn, ⟨jnm, jq, NI, jbs, jsn, jsub, jab, jcol, jdd, j0, j1, j2, j3, j5, nid, hI, hm⟩, hb⟩ := T
  have c1 : (Value.ref I :: bmB).contains (.type "BaseException") = true := by rw [List.contains_cons, hbase, Bool.or_true]
  have c2 : (Value.ref C :: .ref I :: bmB).contains (.ref I) = true := by simp
  have f := tc_notTuple
  unfold excMatches
  repeat (first
    | (with_reducible refine wpAny_loadPart_at he ?_; rw [hc])
    | with_reducible refine wpAny_loadPart_at hI ?_
    | with_reducible refine wpAny_loadPart_at hC ?_
    | (with_reducible refine wpAny_isSubtype_exc hI ?_; rw [c1])
    | (with_reducible refine wpAny_isSubtype_exc hC ?_; rw [c2])
    | wp_step)
  exact hq
theorem Two.match_self {Q : Bool → Shared → Prop} (T : Two h C N I bmB mN mI B newId) (he : h.get? a = some oe) (hc : oe.cls = .ref C) (hbase : bmB.contains (.type "BaseException") = true) (hq : Q true ⟨h, g, d, t, os⟩) :
    wpAny M A (excMatches (.ref a) (.ref C)) Q E ⟨h, g, d, t, os⟩ := by
  obtain ⟨⟨nm, q, bs, sn, sub, ab, col, dd, k0, k1, k2, k3, k5, hC⟩, hn, _, hb⟩ := T
  exact wpAny_excMatches_sub_self hC he hc (by rw [List.contains_cons, hbase, Bool.or_true]) hq
end
end XC
namespace XC
open PySem PySem.Spec PyProof.Rows L2 My
section
variable {prog : Program} {w : World} {A : Around} {E : Value → Shared → Prop} {h : Heap} {g : Array GenState} {d : Drawn} {t : Nat} {os : OsState}
variable {C N I a D : Addr} {bmB : List Value} {mN mI : Str → Option Value} {B newId : String} {oe oD : Obj}
theorem Two.isi_own {Q : Value → Shared → Prop} (T : Two h C N I bmB mN mI B newId) (he : h.get? a = some oe) (hc : oe.cls = .ref C) (hD : h.get? D = some oD) (hDc : oD.cls = .type "type") (hDd : ∃ cd, oD.data = .cls cd) (hb : (Value.ref C :: .ref I :: bmB).contains (.ref D) = true) (hq : Q (.bool true) ⟨h, g, d, t, os⟩) :
    wpAny (model prog w) A (PySem.call (.builtin "isinstance") [.ref a, .ref D]) Q E ⟨h, g, d, t, os⟩ := by
  obtain ⟨⟨nm, q, bs, sn, sub, ab, col, dd, k0, k1, k2, k3, k5, hC⟩, _⟩ := T
  refine call_isinstance_of ?_ (by intro e; cases e)
  unfold Builtin.«isinstance.nested»
  have ty : (⟨h, g, d, t, os⟩ : Shared).TypeIs (.ref D) "type" := ⟨_, hD, hDc⟩
  repeat (first
    | (with_reducible refine wpAny_loadPart_at he ?_; rw [hc])
    | (with_reducible refine wpAny_loadPart_at hD ?_; rw [hDc])
    | wp_step)
  by_cases e : (Value.ref C == Value.ref D) = true
  · rw [if_pos e]
    refine wpAny_bind (wpAny_rule ?_)
    exact wpAny_pure hq
  · rw [if_neg e]
    refine wpAny_bind (wpAny_typeOf ty ?_)
    rw [if_pos (by decide)]
    repeat (first
      | (with_reducible refine wpAny_loadPart_at he ?_; rw [hc])
      | (with_reducible refine wpAny_loadPart_at hD ?_; rw [hDc])
      | (with_reducible refine wpAny_isSubtype_exc hC ?_; rw [hb])
      | wp_step)
    obtain ⟨cd, hcd⟩ := hDd
    rw [hcd]
    repeat (first
      | (with_reducible refine wpAny_loadPart_at he ?_; rw [hc])
      | (with_reducible refine wpAny_isSubtype_exc hC ?_; rw [hb])
      | wp_step)
    exact hq
theorem Two.isi_blt {T0 : String} {Q : Value → Shared → Prop} (T : Two h C N I bmB mN mI B newId) (he : h.get? a = some oe) (hc : oe.cls = .ref C) (hty : typeOf (.type T0) = pure (.type "type")) (hb : (Value.ref C :: .ref I :: bmB).contains (.type T0) = true) (hq : Q (.bool true) ⟨h, g, d, t, os⟩) :
    wpAny (model prog w) A (PySem.call (.builtin "isinstance") [.ref a, .type T0]) Q E ⟨h, g, d, t, os⟩ := by
  obtain ⟨⟨nm, q, bs, sn, sub, ab, col, dd, k0, k1, k2, k3, k5, hC⟩, _⟩ := T
  refine call_isinstance_of ?_ (by intro e; cases e)
  unfold Builtin.«isinstance.nested»
  repeat (first
    | (with_reducible refine wpAny_loadPart_at he ?_; rw [hc])
    | (with_reducible refine wpAny_isSubtype_exc hC ?_; rw [hb])
    | wp_step)
  exact hq
end
end XC
namespace XC
open PySem PySem.Spec PyProof.Rows L2 My
def suiteCx (X : Cx) (a : Addr) (oa : Obj) (dx : Addr) (od : Obj) : Cx := { X with A := X.A.mark (some (.ref a)), calm := false, pn := X.pn ++ [(a, oa), (dx, od)], xe := fun _ _ => False }
section
variable {X : Cx} {pins : List (Addr × Obj)} {σ : L2.St} {H : Hp} {s : Shared} {a C dx : Addr} {f : Str} {u : Value} {tb : Option Addr}
theorem inv_suite (I : Inv X pins σ H s) (F : Fly s.heap a C dx f u tb) (La : Loose X pins H a) (Ld : Loose X pins H dx) : ∃ oa od, s.heap.get? a = some oa ∧ s.heap.get? dx = some od ∧ Inv (suiteCx X a oa dx od) pins σ H s := by
  obtain ⟨vs, sl, e1, _⟩ := F.obj
  obtain ⟨od, es, ep, e2, e3, _⟩ := F.dic
  refine ⟨_, od, e1, e2, ⟨⟨I.ok.mod, I.ok.kind, I.ok.glob, I.ok.blt, I.ok.above, I.ok.inj, I.ok.has, I.ok.cab, fun z => (by cases z), I.ok.frames, I.ok.stk, I.ok.exf, I.ok.bs, I.ok.bsz, I.ok.noex, I.ok.exfs, I.ok.funs, I.ok.frf⟩, I.os, I.bare, I.base, I.loc, I.cell, I.free, I.freeC, fun p hp => ?_, I.hok, I.len⟩⟩
  have hp : p ∈ (X.pn ++ [(a, (⟨.ref C, some dx, .fields vs, sl⟩ : Obj)), (dx, od)]) ++ pins := hp
  rcases List.mem_append.mp hp with hp | hp
  · rcases List.mem_append.mp hp with hp | hp
    · exact I.pin p (List.mem_append_left _ hp)
    · rcases List.mem_cons.mp hp with rfl | hp
      · exact ⟨e1, La.out, La.loc, fun z => La.nofs I (List.mem_cons_of_mem _ z), fun v z => by cases z⟩
      · rw [List.mem_singleton.mp hp]
        exact ⟨e2, Ld.out, Ld.loc, fun z => Ld.nofs I (List.mem_cons_of_mem _ z), fun v z => by rw [e3] at z; cases z⟩
  · exact I.pin p (List.mem_append_right _ hp)
theorem inv_back {σ' : L2.St} {H' : Hp} {s' : Shared} {oa od : Obj} (ok : X.Ok) (I : Inv (suiteCx X a oa dx od) pins σ' H' s') : Inv X pins σ' H' s' := by
  refine ⟨ok, I.os, I.bare, I.base, I.loc, I.cell, I.free, I.freeC, fun p hp => ?_, I.hok, I.len⟩
  rcases List.mem_append.mp hp with hp | hp
  · exact I.pin p (List.mem_append_left _ (List.mem_append_left _ hp))
  · exact I.pin p (List.mem_append_right _ hp)
end
end XC
namespace XC
open PySem PySem.Spec PyProof.Rows L2 My
section
variable {X : Cx} {pins : List (Addr × Obj)} {σ : L2.St} {H : Hp} {s : Shared} {a C dx T : Addr} {f : Str} {u : Value}
theorem inv_flight {M : Model} {A : Around} {E : Value → Shared → Prop} {Q : Unit → Shared → Prop} (I : Inv X pins σ H s) (F : Fly s.heap a C dx f u (some T)) (hn : H T = none) (hL : T ≠ X.env.locals) (h1 : X.s₀.heap.objs.size ≤ T) (h2 : ∀ x c, X.env.cells.lookup x = some c → c ≠ T) (h3 : ∀ p ∈ X.pn ++ pins, p.1 ≠ T)
    (h : ∀ s', Inv X pins σ H s' → Fly s'.heap a C dx f u (some T) → Q () s') : wpAny M A (setFlight (.ref a) none) Q E s := by
  obtain ⟨⟨vs, sl, ea, e1⟩, hdic, hne, hhd⟩ := F
  obtain ⟨Ta, Td, oT, ts, t1, t2, t3⟩ := hhd T rfl
  unfold setFlight
  refine wpAny_bind (wpAny_field ea rfl e1 ?_)
  rw [if_pos (show ((Option.elim (some T) Value.none Value.ref) != Value.none) = true by simp)]
  refine wpAny_setField t1 t2 (Array.getElem?_eq_some_iff.mp t3).1 ?_
  obtain ⟨h', e2⟩ : ∃ h', h' = s.heap.update T (Obj.mapFields (·.setIfInBounds 3 ((none : Option Addr).elim Value.none fun f => rawInt f))) := ⟨_, rfl⟩
  rw [← e2]
  have o2 : ∀ b, b ≠ T → h'.get? b = s.heap.get? b := fun b z => by rw [e2]; exact Heap.get?_update_other _ _ (Ne.symm z)
  have d4 := Obj.data_mapFields t2 (·.setIfInBounds 3 ((none : Option Addr).elim Value.none fun f => rawInt f))
  have tT : h'.get? T = some (oT.mapFields (·.setIfInBounds 3 ((none : Option Addr).elim Value.none fun f => rawInt f))) := by
    rw [e2]; exact Heap.get?_update_self _ t1 (Obj.isFreed_of_fields d4)
  have I' : Inv X pins σ H { s with heap := h', toks := s.toks } := Inv.turned (t' := s.toks) I (fun b o z q => (o2 b z).trans q) hn hL (.inr h1) h2 h3
  refine h _ I' ⟨⟨vs, sl, (o2 a (Ne.symm Ta)).trans ea, e1⟩, ?_, hne, fun T' z => ?_⟩
  · obtain ⟨o, es, ep, r1, r2⟩ := hdic
    exact ⟨o, es, ep, (o2 dx (Ne.symm Td)).trans r1, r2⟩
  · cases z
    refine ⟨Ta, Td, _, _, tT, d4, ?_⟩
    have := (Array.getElem?_eq_some_iff.mp t3).1
    simp [this]
end
end XC
namespace XC
open PySem PySem.Spec PyProof.Rows L2 My
section
variable {X : Cx} {pins : List (Addr × Obj)} {σ : L2.St} {H : Hp} {s : Shared} {a C I0 dx T D : Addr} {cn f ic n : Str} {u : Value} {i : Nat} {b0 : Stmt} {suite : List Stmt} {np hpos : Pos}
theorem name_goes {M : Model} {A : Around} {E : Value → Shared → Prop} {Q : Unit → Shared → Prop} (I : Inv X pins σ H s) (hl : X.env.scope.names.lookup n = some .local)
    (h : ∀ s', Inv X pins (List.replicate σ.length none) H s' → Q () s') : wpAny M A (do bindName X.env n .none; unbindBehindTheSuite X.env n hpos) Q E s := by
  obtain ⟨m, hn, _⟩ := id I.loc
  have cls : (X.env.scope.kind == .class || (X.env.scope.kind == .module && X.env.locals != X.env.globals)) = false := by rw [I.ok.kind]; rfl
  refine wpAny_nameGoes hl hn cls fun h' m' hn' hs => h _ ?_
  have neL : ∀ b o, X.s₀.heap.get? b = some o → b ≠ X.env.locals := fun b o e z => by
    rw [z] at e
    exact absurd (Heap.lt_size e) (Nat.not_lt.mpr I.ok.above)
  refine ⟨I.ok, I.os, I.bare, ⟨fun b o e z1 z2 z3 => (hs.2 b (neL b o e)).trans (I.base.keep b o e z1 z2 z3), fun b o e z1 z2 z3 => ?_, I.base.free, fun b o e z1 => ?_, I.base.tups, I.base.frzs, I.base.tbls⟩, ⟨m', hn', fun j y v e1 e2 _ => ?_⟩, fun y c e => ?_, I.free, I.freeC, fun p hp => ?_, fun b ob e => ?_, by rw [List.length_replicate]; exact I.len⟩
  · obtain ⟨sl, w⟩ := I.base.slot b o e z1 z2 z3
    exact ⟨sl, (hs.2 b (neL b o e)).trans w⟩
  · obtain ⟨o', w⟩ := I.base.there b o e z1
    exact ⟨o', (hs.2 b (neL b o e)).trans w⟩
  · rw [List.getElem?_replicate] at e2
    split at e2 <;> cases e2
  · obtain ⟨w, z⟩ := I.cell y c e
    exact ⟨w, z.sameBut hs (I.cne y c e)⟩
  · obtain ⟨e, z1, z2, z3, z4⟩ := I.pin p hp
    exact ⟨(hs.2 p.1 z2).trans e, z1, z2, z3, z4⟩
  · refine (I.hok b ob e).stay (fun c w hc q => (hs.2 c fun z => ?_).trans q) (fun _ q => q) fun _ _ q => q
    rcases hc with y | y
    · rw [← y, z, I.free] at e; cases e
    · rw [z, I.free] at y; cases y
theorem land {Dn : Ends} {ts : TS} (I : Inv X pins σ H s) (F : Fly s.heap a C dx f u (some T)) (La : Loose X pins H a) (Ld : Loose X pins H dx) (LT : Loose X pins H T) (Ex : Exc X.K X.mg cn f C I0) (hD : D = C ∨ D = I0) (hic : X.mg ic = some (.ref D)) (hg : Gl X ic) (hdb : (ic == ("__debug__" : Str)) = false)
    (hi : X.N[i]? = some n) (hN : X.N.Nodup) (hl : X.env.scope.names.lookup n = some .local)
    (hs : ∀ oa od, s.heap.get? a = some oa → s.heap.get? dx = some od → PSs (suiteCx X a oa dx od) (b0 :: suite) ts ∧ ts { nx := fun _ _ => False, rt := Dn.rt } (σ.set i (some (.ref a))) H) :
    wpAny (model X.prog X.w) X.A (handleBy (.ref a) X.env [.ExceptHandler (some (.Name ic np)) (some n) (b0 :: suite) hpos]) (SP X pins Dn) X.xe s := by
  obtain ⟨oa, od, ea, ed, IS⟩ := inv_suite I F La Ld
  obtain ⟨hps, ht⟩ := hs oa od ea ed
  obtain ⟨mgC, kp, hB, N, fI, mN, mI, TK, _⟩ := Ex
  have TT := TK _ I.kIn
  obtain ⟨vs, sl, e1, _⟩ := F.obj
  refine wpAny_handleBy_cons (codeAny_handlers_test (ld_glob (X := suiteCx X a oa dx od) IS hg hic ?_ hdb)) (by intro q; cases q)
  have go : ∀ {E' : Value → Shared → Prop} {Q' : Bool → Shared → Prop}, Q' true s → wpAny (model X.prog X.w) (X.A.mark (some (.ref a))) (excMatches (.ref a) (.ref D)) Q' E' s := fun {E' Q'} q => by
    obtain ⟨hp, g, d, tk, os⟩ := s
    rcases hD with rfl | rfl
    · exact TT.match_self e1 rfl (by decide) q
    · exact TT.match_up e1 rfl (by decide) q
  refine go ?_
  refine codeAny_handlers_suite_as ?_
  have LT' : ∀ p ∈ (suiteCx X a oa dx od).pn ++ pins, p.1 ≠ T := fun p hp => by
    obtain ⟨Ta, Td, _⟩ := F.hd T rfl
    have hp : p ∈ (X.pn ++ [(a, oa), (dx, od)]) ++ pins := hp
    rcases List.mem_append.mp hp with hp | hp
    · rcases List.mem_append.mp hp with hp | hp
      · exact LT.pin p (List.mem_append_left _ hp)
      · rcases List.mem_cons.mp hp with rfl | hp
        · exact Ne.symm Ta
        · rw [List.mem_singleton.mp hp]; exact Ne.symm Td
    · exact LT.pin p (List.mem_append_right _ hp)
  refine inv_flight IS F LT.out LT.loc LT.new LT.cel LT' fun s1 I1 _ => ?_
  refine store_ok (X := suiteCx X a oa dx od) (i := i) (v := V.ref a) I1 hN hi (.inl hl) rfl (fun s2 I2 => ?_) (.inr hl)
  refine wpAny_mono (hps pins s2 _ H _ I2 ht) (fun fl s3 q => ?_) fun _ _ z => z.elim
  cases fl with
  | ret v =>
    obtain ⟨v', σ', H', I3, rv, q3⟩ := q
    exact name_goes (inv_back I.ok I3) hl fun s4 I4 => ⟨v', _, H', I4, rv, q3⟩
  | next =>
    obtain ⟨_, _, _, z⟩ := q
    exact z.elim
  | brk =>
    obtain ⟨_, _, _, z⟩ := q
    exact z.elim
  | cont =>
    obtain ⟨_, _, _, z⟩ := q
    exact z.elim
end
end XC
namespace XC
open PySem PySem.Spec PyProof.Rows L2 My
def XP (fld : Addr → Str) (X : Cx) (pins : List (Addr × Obj)) (σ : L2.St) (EX : XK) (e : Value) (s' : Shared) : Prop := ∃ (a C dx T : Addr) (u : Value) (H' : Hp), e = .ref a ∧ Inv X pins σ H' s' ∧ Fly s'.heap a C dx (fld C) u (some T) ∧ Loose X pins H' a ∧ Loose X pins H' dx ∧ Loose X pins H' T ∧ EX u (some C) H'
section
variable {X : Cx} {pins : List (Addr × Obj)} {σ : L2.St} {H : Hp} {s : Shared} {fld : Addr → Str} {k : Nat} {f : Addr} {fd : FuncData} {ps : List Str} {sp : Sp} {dvs : List V} {ds : List Value} {EX : XK}
theorem run_fnE {Q : VK} {us : List Value} {vs : List V} (F : FnOk X.prog X.w X.K X.mg X.base (CXE X.prog X.w fld) k f fd ps sp) (hr : Room k X.A) (hb : Binds X.K fd ps ds) (hd : Vals dvs ds) (J : Inv X pins σ H s) (r : Vals vs us) (h : sp (vs ++ dvs) H Q EX) :
    wpAny (model X.prog X.w) X.A (PySem.call (.ref f) us) (EP X pins σ Q) (XP fld X pins σ EX) s := by
  have rr2 := r.append hd
  have hl : (us ++ ds).length = ps.length := by
    rw [← rr2.length]
    exact F.len _ _ _ _ h
  refine wpAny_call (codeAny_mono (F.run X.A X.stack s H ⟨us, []⟩ (us ++ ds) (vs ++ dvs) Q EX hr J.env0 (hb s us J.kIn hl) rr2 h) fun rr s' q => ?_)
  cases rr with
  | error e =>
    obtain ⟨a, C, dx, T, u, H', rfl, os, bare, un, hok, Fl, ha, hdx, hT, na, nd, nT, q⟩ := q
    exact ⟨a, C, dx, T, u, H', rfl, Inv.call' (ch := []) J os un hok bare (fun b z => absurd z (by simp)), Fl, Loose.of J ha na, Loose.of J hdx nd, Loose.of J hT nT, q⟩
  | ok fl =>
    cases fl with
    | ret u => exact J.after q
    | next => exact q.elim
    | brk => exact q.elim
    | cont => exact q.elim
def PSE (fld : Addr → Str) (X : Cx) (st : Stmt) (t : Ends → XK → L2.St → Hp → Prop) : Prop :=
  ∀ (pins : List (Addr × Obj)) (s : Shared) (σ : L2.St) (H : Hp) (D : Ends) (EX : XK), Inv X pins σ H s → t D EX σ H → wpAny (model X.prog X.w) X.A (exec st X.env) (SP X pins D) (XP fld X pins σ EX) s
section
variable {x : Str} {p pos pos2 : Pos} {e : Expr} {es : List Expr} {ta : TA}
theorem pse_call (F : FnOk X.prog X.w X.K X.mg X.base (CXE X.prog X.w fld) k f fd ps sp) (hr : Room k X.A) (hg : Gl X x) (hm : X.mg x = some (.ref f)) (hk : PySem.W.keepIn X.K (.ref f) = true) (hb : Binds X.K fd ps ds) (hd : Vals dvs ds) (ha : PA X.nox (e :: es) ta)
    (hdb : (x == ("__debug__" : Str)) = false := by decide) (he : starEach (e :: es) X.env = (false, eval e X.env) :: starEach es X.env := by rfl) (hpl : (backTo pos (starEach es X.env)).any (·.1) = false := by rfl) (hs : swapsWith (.Call (.Name x p) (e :: es) [] pos) none pos2.line X.env = pure false := by rfl) :
    PSE fld X (.Expr (.Call (.Name x p) (e :: es) [] pos) pos2) (fun D EX σ H => ta σ H fun vs H1 => sp (vs ++ dvs) H1 (fun _ H2 => D.nx σ H2) EX) := by
  intro pins s σ H D EX J h
  refine wpAny_Expr_any ?_ J.quiet hs
  refine wpAny_Call_Name_kw (ld_glob J hg hm ?_ hdb)
  refine PySem.W.callWith_K (h₀ := X.base) J.ok.mod.kin hk (wpAny_mono (ha pos pins s σ H _ (J.wish _) h) (fun us s1 q => ?_) fun _ _ z => z.elim) he hpl
  obtain ⟨vs, H1, J1, r, q⟩ := q
  have J1 : Inv X pins σ H1 s1 := J1.wish _
  refine ⟨J1.kIn, wpAny_mono (run_fnE F hr hb hd J1 r q) (fun u s2 w => ?_) fun _ _ z => z⟩
  obtain ⟨v, H2, J2, rv, q2⟩ := w
  exact ⟨σ, H2, J2, q2⟩
end
end
end XC
namespace XC
open PySem PySem.Spec PyProof.Rows L2 My D3
def EndX (K : PySem.W.Frag) (mg : Str → Option Value) (fl : List Fl) (G : Gh) (Dn : Ends) (E : XK) : Or → Prop
  | .o x => EndD K fl G Dn x
  | .ex c d => ∀ (C : Addr) (v : V) (u : Value) (H' : Hp), mg c = some (.ref C) → Same G.H0 H' → RA K ok1 true H' v d → RelV v u → E u (some C) H'
def tDX (K : PySem.W.Frag) (mg : Str → Option Value) (fl : List Fl) (E : XK) (f : FX) : TS := fun Dn σ H => ∃ G ow δ o, Rel K fl G ow σ H δ ∧ f δ = some o ∧ EndX K mg fl G Dn E o
abbrev DX1 (X : Cx) (E : XK) (fl : List Fl) (s : Stmt) (f : FX) : Prop := PS X s (tDX X.K X.mg fl E f)
abbrev DXs (X : Cx) (E : XK) (fl : List Fl) (s : List Stmt) (f : FX) : Prop := PSs X s (tDX X.K X.mg fl E f)
section
variable {X : Cx} {E : XK} {fl : List Fl} {c : Expr} {st : Stmt} {sts body orelse : List Stmt} {fs : FS} {f g : FX} {ft : FT} {pos : Pos}
theorem PS.nox {t : TS} (h : PS X.nox st t) : PS X st t := fun pins s σ H D I hw => by
  refine wpAny_mono (h pins s σ H D (I.wish _) hw) (fun fl s' q => ?_) fun _ _ z => z.elim
  cases fl with
  | next => obtain ⟨σ', H', J, q⟩ := q; exact ⟨σ', H', J.wish _, q⟩
  | ret u => obtain ⟨v, σ', H', J, r, q⟩ := q; exact ⟨v, σ', H', J.wish _, r, q⟩
  | brk => obtain ⟨σ', H', J, q⟩ := q; exact ⟨σ', H', J.wish _, q⟩
  | cont => obtain ⟨σ', H', J, q⟩ := q; exact ⟨σ', H', J.wish _, q⟩
theorem dx_of (h : DS1 X.nox fl st fs) : DX1 X E fl st (xOf fs) := PS.imp (PS.nox h) fun Dn σ H h => by
  obtain ⟨G, ow, δ, o, R, hf, q⟩ := h
  obtain ⟨o1, e1, e2⟩ := bind1 hf
  cases e2
  exact ⟨G, ow, δ, o1, R, e1, q⟩
theorem dxs_of (h : DSs X.nox fl sts fs) : DXs X E fl sts (xOf fs) := PSs.imp (PSs.nox h) fun Dn σ H h => by
  obtain ⟨G, ow, δ, o, R, hf, q⟩ := h
  obtain ⟨o1, e1, e2⟩ := bind1 hf
  cases e2
  exact ⟨G, ow, δ, o1, R, e1, q⟩
theorem dxs_cons (h1 : DX1 X E fl st f) (h2 : DXs X E fl sts g) : DXs X E fl (st :: sts) (xSeq f g) := PSs.imp (pss_cons h1 h2) fun Dn σ H h => by
  obtain ⟨G, ow, δ, o, R, hf, q⟩ := h
  obtain ⟨o1, e1, e2⟩ := bind1 hf
  refine ⟨G, ow, δ, o1, R, e1, ?_⟩
  cases o1 with
  | ex c d => cases e2; exact q
  | o o1 =>
    cases o1 with
    | nx δ' => exact fun ow' σ' H' R' => ⟨G, ow', δ', o, R', e2, q⟩
    | rt d => cases e2; exact EndD.nx_imp (fl := fl) (o := .rt d) q (fun _ z => by cases z)
    | bk d => cases e2; exact EndD.nx_imp (fl := fl) (o := .bk d) q (fun _ z => by cases z)
    | ct d => cases e2; exact EndD.nx_imp (fl := fl) (o := .ct d) q (fun _ z => by cases z)
    | ex c f v => cases e2; exact q
theorem dxs_one (h1 : DX1 X E fl st f) : DXs X E fl [st] f := PSs.imp (pss_one h1) fun _ _ _ h => h
theorem dx_if (hc : DT X.nox fl c ft) (h1 : DXs X E fl body f) (h2 : DXs X E fl orelse g) : DX1 X E fl (.If c body orelse pos) (xIf ft f g) := PS.imp (ps_if (PT.nox hc) h1 h2) fun Dn σ H h => by
  obtain ⟨G, ow, δ, o, R, hf, q⟩ := h
  obtain ⟨t, e1, e2⟩ := bind1 hf
  refine ⟨G, ow, δ, t, R, e1, fun H' s => ?_⟩
  cases t with
  | true => exact iteT ⟨G, ow, δ, o, R.grow s, e2, q⟩
  | false => exact iteF ⟨G, ow, δ, o, R.grow s, e2, q⟩
end
structure ExcF (K : PySem.W.Frag) (mg : Str → Option Value) (fld : Addr → Str) (cn f : Str) : Prop where
  ex : ∃ C I, Exc K mg cn f C I ∧ fld C = f
section
variable {P : Program} {w : World} {K : PySem.W.Frag} {mg : Str → Option Value} {base : Heap} {N : List Str} {qual : Str} {scope : Scope} {fa : Addr} {cdv : Value} {A : Around} {outer : List Env} {s₀ : Shared} {H₀ : Hp} {E : XK} {fld : Addr → Str}
variable {fl : List Fl} {cn f : Str} {arg : Expr} {fe : FE} {p pos rpos : Pos} {k : Nat}
end
def spX (K : PySem.W.Frag) (mg : Str → Option Value) (F : List D → Option Or) : Sp := fun vs H Q E => ∃ ds o, (Tb H ∧ RAs K ok1 true H vs ds) ∧ F ds = some o ∧ match o with
  | .o (.rt d) => ∀ v H', Same H H' → RA K (okN H) false H' v d → Q v H'
  | .ex c d => ∀ (C : Addr) (v : V) (u : Value) (H' : Hp), mg c = some (.ref C) → Same H H' → RA K ok1 true H' v d → RelV v u → E u (some C) H'
  | _ => False
structure HasX (P : Program) (w : World) (K : PySem.W.Frag) (mg : Str → Option Value) (base : Heap) (fld : Addr → Str) (n : Nat) (x : Str) (ps : List Str) (sp : Sp) (dvs : List V) : Prop where
  ex : ∃ (f : Addr) (fd : FuncData) (ds : List Value), FnOk P w K mg base (CXE P w fld) n f fd ps sp ∧ Binds K fd ps ds ∧ Vals dvs ds ∧ PySem.W.keepIn K (.ref f) = true ∧ mg x = some (.ref f)
section
variable {P : Program} {w : World} {K : PySem.W.Frag} {mg : Str → Option Value} {base : Heap} {fld : Addr → Str} {x : Str} {ps N ks : List Str} {st : Stmt} {k n : Nat} {f : FX} {fl : List Fl} {dvs : List V} {sp : Sp}
theorem HasX.mono (h : HasX P w K mg base fld k x ps sp dvs) (l : k ≤ n) : HasX P w K mg base fld n x ps sp dvs := by
  obtain ⟨f, fd, ds, F, b, v, kp, m⟩ := h.ex
  exact ⟨f, fd, ds, F.mono l, b, v, kp, m⟩
theorem funX_ok {fa : Addr} {fd : FuncData} (Fn : FunD K x st fa fd) (S : FnScope N ps (defScope st)) (hp : ∀ i, i < ps.length → fl[i]? = some .A) (hN : ps.length ≤ N.length)
    (hbody : ∀ (fa : Addr) (cdv : Value) (A : Around) (outer : List Env) (s : Shared) (H : Hp) (E : XK), Room k (A.deeper (envOfC x (defScope st) s.heap.objs.size fa cdv)) → DXs (cxOf (CXE P w fld) P w K mg base N x (defScope st) fa cdv A outer s H E) E fl (defBody st) f) :
    FnOk P w K mg base (CXE P w fld) (k + 1) fa fd ps (spX K mg (fnX ps.length (N.length - ps.length) f)) := by
  obtain ⟨oc, od, dV, kV, doc, pm, an, cdv, ct, osl, rfl, lk, hcd⟩ := Fn.ex
  have hlen : ∀ vs H Q E, spX K mg (fnX ps.length (N.length - ps.length) f) vs H Q E → vs.length = ps.length := fun vs H Q E h => by
    obtain ⟨ds, o, r, hf, _⟩ := h
    unfold fnX at hf
    by_cases z : ds.length = ps.length
    · rw [r.2.length]; exact z
    · rw [if_neg z] at hf; cases hf
  refine fn_of lk hcd S hlen fun A outer s H vs Q E hr h => ?_
  obtain ⟨ds, o, r, hf, q⟩ := h
  refine ⟨_, hbody fa cdv A outer s H E hr, ?_⟩
  unfold fnX at hf
  by_cases z : ds.length = ps.length
  · rw [if_pos z] at hf
    split at hf
    · next d' e =>
      cases hf
      exact ⟨_, _, _, _, rel_start ps.length hp z hN r, e, fun v H' s r => q v H' s r⟩
    · next δ' e =>
      cases hf
      exact ⟨_, _, _, _, rel_start ps.length hp z hN r, e, fun ow' σ' H' R' => q .non H' R'.same0 .non⟩
    · next c d e =>
      cases hf
      exact ⟨_, _, _, _, rel_start ps.length hp z hN r, e, fun C v u H' m s r rv => q C v u H' m s r rv⟩
    · cases hf
  · rw [if_neg z] at hf; cases hf
theorem dgX_ok (Dd : Dg K mg x st ps) (S : FnScope N ps (defScope st)) (hp : ∀ i, i < ps.length → fl[i]? = some .A) (hN : ps.length ≤ N.length)
    (hbody : ∀ (fa : Addr) (cdv : Value) (A : Around) (outer : List Env) (s : Shared) (H : Hp) (E : XK), Room k (A.deeper (envOfC x (defScope st) s.heap.objs.size fa cdv)) → DXs (cxOf (CXE P w fld) P w K mg base N x (defScope st) fa cdv A outer s H E) E fl (defBody st) f) :
    HasX P w K mg base fld (k + 1) x ps (spX K mg (fnX ps.length (N.length - ps.length) f)) [] := by
  obtain ⟨f, fd, Fn, b, m⟩ := Dd.ex
  exact ⟨f, fd, [], funX_ok Fn S hp hN hbody, b, .nil, Fn.kp, m⟩
end
end XC
namespace XC
open PySem PySem.Spec PyProof.Rows L2 My D3
section
variable {X : Cx} {a C I0 dx D : Addr} {cn f ic n : Str} {oa od : Obj} {i : Nat} {cond a1 b1 : Expr} {rest : List Expr} {p p1 p2 pos np hpos rpos : Pos}
def tE (i : Nat) (a : Addr) : TE := fun σ H Q => σ[i]? = some (some (.ref a)) ∧ Q (.bl true) H
abbrev IsE (S : Cx) (i : Nat) (a : Addr) (cond : Expr) : Prop := PE S cond (tE i a)
theorem call_ise (Ex : Exc X.K X.mg cn f C I0) (hD : D = C ∨ D = I0) (hoa : oa.cls = .ref C) : CallR (suiteCx X a oa dx od) (.builtin "isinstance") (fun xs H Q => xs = [.ref a, .ref D] ∧ Q (.bl true) H) := by
  intro pins s σ H xs us Q I r h
  obtain ⟨rfl, q⟩ := h
  obtain ⟨u1, u2, rfl, r1, r2⟩ : ∃ u1 u2, us = [u1, u2] ∧ RelV (.ref a) u1 ∧ RelV (.ref D) u2 := by
    cases r with
    | cons r1 r => cases r with
      | cons r2 r => cases r; exact ⟨_, _, rfl, r1, r2⟩
  cases r1; cases r2
  obtain ⟨mgC, kp, hB, N, fI, mN, mI, TK, _⟩ := Ex
  have T := TK _ I.kIn
  have ha := (I.pin (a, oa) (List.mem_append_left _ (List.mem_append_right _ List.mem_cons_self))).1
  obtain ⟨hp, g, d, tk, os⟩ := s
  have hq : EP (suiteCx X a oa dx od) pins σ Q (.bool true) ⟨hp, g, d, tk, os⟩ := ⟨.bl true, H, I, rfl, q⟩
  obtain ⟨⟨nm, q0, bs, sn, sub, ab, col, dd, k0, k1, k2, k3, k5, hC⟩, hn, ⟨jnm, jq, NI, jbs, jsn, jsub, jab, jcol, jdd, j0, j1, j2, j3, j5, nid, hI, hm⟩, hb⟩ := id T
  rcases hD with rfl | rfl
  · exact T.isi_own ha hoa hC rfl ⟨_, rfl⟩ (by simp) hq
  · exact T.isi_own ha hoa hI rfl ⟨_, rfl⟩ (by simp) hq
theorem call_isb {T0 : String} (Ex : Exc X.K X.mg cn f C I0) (hty : typeOf (.type T0) = pure (.type "type")) (hb : bmV.contains (.type T0) = true) (hoa : oa.cls = .ref C) : CallR (suiteCx X a oa dx od) (.builtin "isinstance") (fun xs H Q => xs = [.ref a, .ty T0] ∧ Q (.bl true) H) := by
  intro pins s σ H xs us Q I r h
  obtain ⟨rfl, q⟩ := h
  obtain ⟨u1, u2, rfl, r1, r2⟩ : ∃ u1 u2, us = [u1, u2] ∧ RelV (.ref a) u1 ∧ RelV (.ty T0) u2 := by
    cases r with
    | cons r1 r => cases r with
      | cons r2 r => cases r; exact ⟨_, _, rfl, r1, r2⟩
  cases r1; cases r2
  obtain ⟨mgC, kp, hB, N, fI, mN, mI, TK, _⟩ := Ex
  have T := TK _ I.kIn
  have ha := (I.pin (a, oa) (List.mem_append_left _ (List.mem_append_right _ List.mem_cons_self))).1
  obtain ⟨hp, g, d, tk, os⟩ := s
  have hq : EP (suiteCx X a oa dx od) pins σ Q (.bool true) ⟨hp, g, d, tk, os⟩ := ⟨.bl true, H, I, rfl, q⟩
  refine T.isi_blt ha hoa hty ?_ hq
  rw [List.contains_cons, List.contains_cons, hb]
  simp
theorem ise_own (Ex : Exc X.K X.mg cn f C I0) (hD : D = C ∨ D = I0) (hoa : oa.cls = .ref C) (hic : X.mg ic = some (.ref D)) (hgi : Gl X "isinstance") (hmi : X.mg "isinstance" = none) (hg : Gl X ic) (hi : X.N[i]? = some n) (hv : Vis X.env.scope n)
    (hdb : (ic == ("__debug__" : Str)) = false := by decide) (hdn : (n == ("__debug__" : Str)) = false := by decide) (hcn : (n == ("__classdict__" : Str)) = false := by decide) :
    IsE (suiteCx X a oa dx od) i a (.Call (.Name "isinstance" p) [.Name n p1, .Name ic p2] [] pos) :=
  PE.imp (pe_callB (X := suiteCx X a oa dx od) (call_ise Ex hD hoa) hgi hmi boot_isinstance (pa_cons (pe_var (X := suiteCx X a oa dx od) hi hv hdn hcn) (pa_cons (pe_glob (X := suiteCx X a oa dx od) (v := .ref D) hg hic rfl hdb) pa_nil (by exact star_of rfl)) (by exact star_of rfl)) (by decide) (by decide) (by exact star_of rfl) (by exact pl_of rfl)) fun σ H Q h => by
    exact ⟨_, h.1, rfl, h.2⟩
theorem ise_blt {T0 : String} (Ex : Exc X.K X.mg cn f C I0) (hty : typeOf (.type T0) = pure (.type "type")) (hb : bmV.contains (.type T0) = true) (hoa : oa.cls = .ref C) (hic : X.mg ic = none) (hbo : bootBuiltins ic = some (.type T0)) (hgi : Gl X "isinstance") (hmi : X.mg "isinstance" = none) (hg : Gl X ic) (hi : X.N[i]? = some n) (hv : Vis X.env.scope n)
    (hnn : ic ≠ "__name__" := by decide) (hdb : (ic == ("__debug__" : Str)) = false := by decide) (hdn : (n == ("__debug__" : Str)) = false := by decide) (hcn : (n == ("__classdict__" : Str)) = false := by decide) :
    IsE (suiteCx X a oa dx od) i a (.Call (.Name "isinstance" p) [.Name n p1, .Name ic p2] [] pos) :=
  PE.imp (pe_callB (X := suiteCx X a oa dx od) (call_isb Ex hty hb hoa) hgi hmi boot_isinstance (pa_cons (pe_var (X := suiteCx X a oa dx od) hi hv hdn hcn) (pa_cons (pe_bltn (X := suiteCx X a oa dx od) (v := .ty T0) hg hic hbo rfl hnn hdb) pa_nil (by exact star_of rfl)) (by exact star_of rfl)) (by decide) (by decide) (by exact star_of rfl) (by exact pl_of rfl)) fun σ H Q h => by
    exact ⟨_, h.1, rfl, h.2⟩
end
end XC
namespace XC
open PySem PySem.Spec PyProof.Rows L2 My D3
section
variable {X : Cx} {fl : List Fl} {fld : Addr → Str} {n i : Nat} {x ic en : Str} {ps cs : List Str} {F : List D → Option Or} {dvs : List V} {dd : List D} {e cond : Expr} {es : List Expr} {fa : FA} {p pos pos2 np rpos hpos tpos : Pos}
end
end XC
namespace XC
open PySem PySem.Spec PyProof.Rows L2 My D3
def strK (es : Array DictEntry) : Bool := es.toList.all fun e => match e.key with | .str _ _ => true | _ => false
theorem strK_of {es : Array DictEntry} (h : strK es = true) : StrKeys es := fun e he => by
  have := List.all_eq_true.mp h e (Array.mem_toList_iff.mpr he)
  cases q : e.key with
  | str n t => exact ⟨n, t, rfl⟩
  | _ => rw [q] at this; cases this
theorem ns_at {K : PySem.W.Frag} {N : Addr} {c : Value} {d : Option Addr} {es : Array DictEntry} {n : Nat} {sl : Array (Option Value)} (l : K.lookup N = some ⟨c, d, .dict es n, sl⟩) (ok : strK es = true) (h : Heap) (X : K.In h) : h.Ns N (nsFind es) :=
  ⟨_, es, n, X _ _ l, rfl, strK_of ok, fun _ => rfl⟩
theorem ns_find {K : PySem.W.Frag} {N : Addr} {c : Value} {d : Option Addr} {es : Array DictEntry} {n : Nat} {sl : Array (Option Value)} {x : Str} {r : Option Value} (l : K.lookup N = some ⟨c, d, .dict es n, sl⟩) (e : PySem.W.nsIn K N x = some r) : nsFind es x = r := by
  unfold PySem.W.nsIn at e
  rw [l] at e
  dsimp only at e
  unfold nsFind findBy
  rw [← Array.find?_toList]
  split at e
  · next en he =>
    cases e
    rw [he]; rfl
  · next he =>
    rw [he]
    split at e
    · cases e
    · cases e; rfl
theorem exc_mk {K : PySem.W.Frag} {h : Heap} {mg : Str → Option Value} {cn f : Str} {C I N NI fI : Addr} (X : K.In h) (G : h.Ns mainGlobals mg)
    {nm q : Str} {bs : List Value} {sn : List Str} {sub : List Value} {ab : Bool} {col : Option Bool} {dd : Option Addr} {k0 k1 k2 k3 k5 : Option Value}
    {nm' q' : Str} {bs' : List Value} {sn' : List Str} {sub' : List Value} {ab' : Bool} {col' : Option Bool} {dd' : Option Addr} {j0 j1 j2 j3 j5 : Option Value} {nid : String}
    {c c' : Value} {d d' : Option Addr} {es es' : Array DictEntry} {n n' : Nat} {sl sl' : Array (Option Value)}
    {name qual : Str} {params : Arguments} {scope : Scope} {dV kV doc pm cdv ct : Value} {an od : Option Addr} {osl : Array (Option Value)} {p1 p2 p3 p4 : Pos}
    (a : PySem.W.nsIn K mainGlobals cn = some (some (.ref C))) (kp : PySem.W.keepIn K (.ref C) = true)
    (lC : K.lookup C = some (excClassObj nm q C N bs (.ref I :: bmV) true sn sub ab col dd k0 k1 k2 k3 k5 "ValueError.__new__"))
    (lI : K.lookup I = some (excClassObj nm' q' I NI bs' bmV true sn' sub' ab' col' dd' j0 j1 j2 j3 j5 nid))
    (lN : K.lookup N = some ⟨c, d, .dict es n, sl⟩) (oN : strK es = true) (lNI : K.lookup NI = some ⟨c', d', .dict es' n', sl'⟩) (oNI : strK es' = true)
    (i1 : PySem.W.nsIn K N "__init__" = some (some (.ref fI))) (i2 : PySem.W.nsIn K NI "__init__" = some none) (s1 : PySem.W.nsIn K N "__setattr__" = some none) (s2 : PySem.W.nsIn K NI "__setattr__" = some none)
    (n1 : PySem.W.nsIn K N f = some none) (n2 : PySem.W.nsIn K NI f = some none) (hB : typeLookup (.type "ValueError") f = pure none)
    (lk : K.lookup fI = some ⟨.type "function", od, .func (PySem.W.fnOf name qual params [.Assign [.Attribute (.Name "self" p1) f p2] (.Name f p3) p4] scope dV kV doc pm an cdv ct), osl⟩) (hcd : PySem.W.codeIn K cdv qual = true)
    (S : FnScope ["self", f] ["self", f] scope) (l1 : scope.names.lookup ("self" : Str) = some NameKind.local) (l2 : scope.names.lookup f = some NameKind.local)
    (hb : ∀ u v, bindArgs (PySem.W.fnOf name qual params [.Assign [.Attribute (.Name "self" p1) f p2] (.Name f p3) p4] scope dV kV doc pm an cdv ct) ⟨[u, v], []⟩ = pure [(("self" : Str), u), (f, v)])
    (ne : ("self" : Str) ≠ f) (nd : (f == ("__debug__" : Str)) = false) (nc : (f == ("__classdict__" : Str)) = false) : Exc K mg cn f C I :=
  ⟨PySem.W.mg_of X G a, kp, hB, N, fI, nsFind es, nsFind es', fun h X => ⟨⟨_, _, _, _, _, _, _, _, _, _, _, _, _, X _ _ lC⟩, ns_at lN oN h X, ⟨_, _, _, _, _, _, _, _, _, _, _, _, _, _, _, X _ _ lI, ns_at lNI oNI h X⟩, by rfl⟩, ns_find lN i1, ns_find lNI i2, ns_find lN s1, ns_find lNI s2, ns_find lN n1, ns_find lNI n2,
    ⟨⟨name, qual, params, scope, dV, kV, doc, pm, cdv, ct, an, od, osl, p1, p2, p3, p4, lk, hcd, S, l1, l2, .all fun us hl => match us, hl with | [u, v], _ => hb u v⟩, ne, nd, nc⟩⟩
end XC
namespace XC
open PySem PySem.Spec PyProof.Rows L2 My D3
structure ExcG (K : PySem.W.Frag) (mg : Str → Option Value) (fld : Addr → Str) (cn f ic : Str) : Prop where
  ex : ∃ C I, Exc K mg cn f C I ∧ fld C = f ∧ mg ic = some (.ref I)
theorem ExcG.fly {K : PySem.W.Frag} {mg : Str → Option Value} {fld : Addr → Str} {cn f ic : Str} (h : ExcG K mg fld cn f ic) : ExcF K mg fld cn f := by
  obtain ⟨C, I, E, hf, _⟩ := h.ex
  exact ⟨C, I, E, hf⟩
section
variable {X : Cx} {fld : Addr → Str} {c f ic : Str} {i : Nat} {cond : Expr}
end
end XC
namespace XC
open PySem PySem.Spec PyProof.Rows L2 My
structure FlyN (h : Heap) (a C dx : Addr) (f : Str) (u : Value) (T L : Addr) : Prop where
  obj : ∃ vs sl, h.get? a = some ⟨.ref C, some dx, .fields vs, sl⟩ ∧ vs[1]? = some (.ref T)
  dic : h.Ns1 dx (fun y => if y = f then some u else none)
  ne : dx ≠ a
  hd : T ≠ a ∧ T ≠ dx ∧ ∃ oT ts, h.get? T = some oT ∧ oT.data = .fields ts ∧ ts[3]? = some (rawInt L)
section
variable {M : Model} {A : Around} {E : Value → Shared → Prop} {s : Shared}
theorem entry_back {base : Heap} {env : Env} {outer : List Env} {L a : Addr} {oe : Obj} {vs : Array Value} {head : Value} {hn : Bool} {E2 : Value → Shared → Prop}
    (hfr : A.frames = some (env :: outer)) (hl : s.heap.FunFrames base (env :: outer)) (hf : env.frame = some L) (he : s.heap.get? a = some oe) (hd : oe.data = .fields vs) (hsz : 1 < vs.size)
    (h : ∀ h' T, s.heap.objs.size ≤ T → h'.get? a = some (oe.mapFields (·.setIfInBounds 1 (.ref T))) → (∃ oT ts, h'.get? T = some oT ∧ oT.data = .fields ts ∧ ts[3]? = some (rawInt L)) →
      (∀ b o, b ≠ a → b ∉ frs (env :: outer) → s.heap.get? b = some o → h'.get? b = some o) → (∀ b o, b ≠ a → s.heap.get? b = some o → ∃ sl, h'.get? b = some { o with slots := sl }) → E2 (.ref a) { s with heap := h' }) :
    wpAny M A (do let z ← frameOf env; let pl ← entryPlaceOf L hn; let b ← EntryCells.newEntry head z .none (rawInt L) .none pl; setField (.ref a) 1 b) (fun _ s' => cameBackBy M A env E2 (.ref a) s') E s := by
  have nf : a ∉ (env :: outer).filterMap (·.frame) := fun z => by
    obtain ⟨_, o, ho, q⟩ := hl.mem z
    rw [he] at ho
    cases ho
    exact q vs hd
  refine wpAny_bind (wpAny_frameOf_fun hfr hl hf fun h1 hs => ?_)
  refine wpAny_bind (wpAny_entryPlaceOf fun pl hpl => ?_)
  unfold EntryCells.newEntry newFields
  refine wpAny_bind (wpAny_newObj_type ?_ (hpl.sizeOk5 _ _ _ _ _))
  obtain ⟨ob, eob⟩ : ∃ ob : Obj, ob = { cls := .type "traceback", dict := none, data := .fields ([head, .ref L, .none, rawInt L, .none] ++ (if pl.isEmpty then List.replicate 6 Value.none else pl)).toArray } := ⟨_, rfl⟩
  rw [← eob]
  have od : ob.data = .fields ([head, .ref L, .none, rawInt L, .none] ++ (if pl.isEmpty then List.replicate 6 Value.none else pl)).toArray := by rw [eob]
  have ofr : ob.isFreed = false := by rw [eob]; rfl
  have a1 : h1.get? a = some oe := (hs.2.1 a nf).trans he
  have a2 : (h1.push ob).get? a = some oe := Heap.get?_push_of_some _ a1
  refine wpAny_setField a2 hd hsz ?_
  have sz : h1.objs.size = s.heap.objs.size := hs.1
  have ne : h1.objs.size ≠ a := Nat.ne_of_gt (Heap.lt_size a1)
  have d3 := Obj.data_mapFields hd (·.setIfInBounds 1 (Value.ref h1.objs.size))
  obtain ⟨h3, e3⟩ : ∃ h3, h3 = (h1.push ob).update a (Obj.mapFields (·.setIfInBounds 1 (Value.ref h1.objs.size))) := ⟨_, rfl⟩
  rw [← e3]
  have a3 : h3.get? a = some (oe.mapFields (·.setIfInBounds 1 (.ref h1.objs.size))) := by
    rw [e3]; exact Heap.get?_update_self _ a2 (Obj.isFreed_of_fields d3)
  have t3 : h3.get? h1.objs.size = some ob := by
    rw [e3]; exact (Heap.get?_update_other _ _ ne.symm).trans (Heap.get?_push_size h1 ofr)
  have o3 : ∀ b, b ≠ a → b ≠ h1.objs.size → h3.get? b = h1.get? b := fun b z1 z2 => by
    rw [e3, Heap.get?_update_other _ _ (Ne.symm z1)]
    exact Heap.get?_push_ne _ _ _ z2
  unfold cameBackBy
  refine wpAny_bind (wpAny_field a3 d3 (x := .ref h1.objs.size) (by simp [hsz]) ?_)
  rw [if_neg (show ¬ ((Value.ref h1.objs.size == Value.none) = true) by simp)]
  unfold setFlight
  simp only [hf]
  refine wpAny_bind (wpAny_field a3 d3 (x := .ref h1.objs.size) (by simp [hsz]) ?_)
  rw [if_pos (show (Value.ref h1.objs.size != Value.none) = true by simp)]
  have d4 := Obj.data_mapFields od (·.setIfInBounds 3 ((some L : Option Addr).elim Value.none fun f => rawInt f))
  refine wpAny_setField t3 od (by simp only [List.size_toArray, List.length_append, List.length_cons, List.length_nil] <;> omega) ?_
  obtain ⟨h4, e4⟩ : ∃ h4, h4 = h3.update h1.objs.size (Obj.mapFields (·.setIfInBounds 3 ((some L : Option Addr).elim Value.none fun f => rawInt f))) := ⟨_, rfl⟩
  rw [← e4]
  have o4 : ∀ b, b ≠ h1.objs.size → h4.get? b = h3.get? b := fun b z => by rw [e4]; exact Heap.get?_update_other _ _ (Ne.symm z)
  refine h h4 h1.objs.size (Nat.le_of_eq sz.symm) ((o4 a (Ne.symm ne)).trans a3) ⟨_, _, by rw [e4]; exact Heap.get?_update_self _ t3 (Obj.isFreed_of_fields d4), d4, ?_⟩ (fun b o z1 z2 q => ?_) fun b o z1 q => ?_
  · rcases hpl with rfl | ⟨_, _, _, _, _, _, _, rfl⟩ <;> simp
  · have q1 : h1.get? b = some o := (hs.2.1 b z2).trans q
    have z3 : b ≠ h1.objs.size := Nat.ne_of_lt (Heap.lt_size q1)
    exact (o4 b z3).trans ((o3 b z1 z3).trans q1)
  · obtain ⟨sl, q1⟩ := hs.2.2 b o q
    have z3 : b ≠ h1.objs.size := Nat.ne_of_lt (Heap.lt_size q1)
    exact ⟨sl, (o4 b z3).trans ((o3 b z1 z3).trans q1)⟩
theorem note_back {base : Heap} {env : Env} {outer : List Env} {L a C dx : Addr} {f : Str} {u : Value} {tb : Option Addr} {E2 : Value → Shared → Prop}
    (hfr : A.frames = some (env :: outer)) (hl : s.heap.FunFrames base (env :: outer)) (hf : env.frame = some L) (F : Fly s.heap a C dx f u tb) (nd : dx ∉ frs (env :: outer))
    (h : ∀ h' T, s.heap.objs.size ≤ T → FlyN h' a C dx f u T L → (∀ b o, b ≠ a → tb ≠ some b → b ∉ frs (env :: outer) → s.heap.get? b = some o → h'.get? b = some o) →
      (∀ b o, b ≠ a → tb ≠ some b → s.heap.get? b = some o → ∃ sl, h'.get? b = some { o with slots := sl }) → E2 (.ref a) { s with heap := h' }) :
    wpAny M A (noteFrame (.ref a) env) (fun _ s' => cameBackBy M A env E2 (.ref a) s') E s := by
  obtain ⟨⟨vs, sl, ea, e1⟩, hdic, hne, hhd⟩ := F
  have hsz : 1 < vs.size := (Array.getElem?_eq_some_iff.mp e1).1
  have dlt : dx < s.heap.objs.size := by
    obtain ⟨o, _, _, q, _⟩ := hdic
    exact Heap.lt_size q
  unfold noteFrame
  simp only [hf]
  cases tb with
  | none =>
    refine wpAny_bind (wpAny_field ea rfl e1 ?_)
    rw [if_neg (by decide)]
    refine entry_back hfr hl hf ea rfl hsz fun h' T hT q1 q2 q3 q4 => h h' T hT ⟨⟨_, sl, q1, by simp [hsz]⟩, ?_, hne, ?_⟩ (fun b o z1 _ z2 z3 => q3 b o z1 z2 z3) fun b o z1 _ z2 => q4 b o z1 z2
    · obtain ⟨o, es, ep, r1, r2⟩ := hdic
      exact ⟨o, es, ep, q3 dx o hne nd r1, r2⟩
    · refine ⟨fun z => ?_, fun z => ?_, q2⟩
      · rw [z] at hT
        exact absurd (Heap.lt_size ea) (Nat.not_lt.mpr hT)
      · rw [z] at hT
        exact absurd dlt (Nat.not_lt.mpr hT)
  | some T =>
    obtain ⟨Ta, Td, oT, ts, t1, t2, t3⟩ := hhd T rfl
    refine wpAny_bind (wpAny_field ea rfl e1 ?_)
    rw [if_pos (show ((Option.elim (some T) Value.none Value.ref) != Value.none) = true by simp)]
    refine wpAny_bind (wpAny_field t1 t2 t3 ?_)
    rw [if_neg (show ¬ ((Value.none == rawInt L) = true) by simp [rawInt])]
    refine wpAny_bind (wpAny_setField t1 t2 (Array.getElem?_eq_some_iff.mp t3).1 ?_)
    obtain ⟨h2, e2⟩ : ∃ h2, h2 = s.heap.update T (Obj.mapFields (·.setIfInBounds 3 Value.none)) := ⟨_, rfl⟩
    rw [← e2]
    have o2 : ∀ b, b ≠ T → h2.get? b = s.heap.get? b := fun b z => by rw [e2]; exact Heap.get?_update_other _ _ (Ne.symm z)
    have sz2 : h2.objs.size = s.heap.objs.size := by rw [e2]; exact Heap.size_update ..
    have nT : T ∉ frs (env :: outer) := fun z => by
      obtain ⟨_, o, ho, q⟩ := hl.mem z
      rw [t1] at ho
      cases ho
      exact q ts t2
    have hl2 : h2.FunFrames base (env :: outer) := hl.of_keeps fun b o hb q => ⟨o, (o2 b fun z => by rw [z, t1] at hb; cases hb; exact q ts t2).trans hb, rfl⟩
    refine entry_back (s := { s with heap := h2 }) hfr hl2 hf ((o2 a (Ne.symm Ta)).trans ea) rfl hsz fun h' T' hT q1 q2 q3 q4 => h h' T' (by rw [← sz2]; exact hT) ⟨⟨_, sl, q1, by simp [hsz]⟩, ?_, hne, ?_⟩
      (fun b o z1 z0 z2 z3 => q3 b o z1 z2 ((o2 b fun z => z0 (by rw [z])).trans z3)) fun b o z1 z0 z2 => q4 b o z1 ((o2 b fun z => z0 (by rw [z])).trans z2)
    · obtain ⟨o, es, ep, r1, r2⟩ := hdic
      exact ⟨o, es, ep, q3 dx o hne nd ((o2 dx (Ne.symm Td)).trans r1), r2⟩
    · have hT : s.heap.objs.size ≤ T' := by rw [← sz2]; exact hT
      refine ⟨fun z => ?_, fun z => ?_, q2⟩
      · rw [z] at hT
        exact absurd (Heap.lt_size ea) (Nat.not_lt.mpr hT)
      · rw [z] at hT
        exact absurd dlt (Nat.not_lt.mpr hT)
end
end XC
namespace XC
open PySem PySem.Spec PyProof.Rows L2 My
section
variable {X : Cx} {pins : List (Addr × Obj)} {σ : L2.St} {H H' : Hp} {s : Shared}
theorem inv_noteB {M : Model} {A : Around} {E : Value → Shared → Prop} {a C dx : Addr} {f : Str} {u : Value} {tb : Option Addr} {E2 : Value → Shared → Prop} (hA : A.frames = X.A.frames) (I : Inv X pins σ H s) (hst : X.stack = X.env :: X.outer) (hfr : X.env.frame = some X.env.locals)
    (F : Fly s.heap a C dx f u tb) (La : Loose X pins H a) (Ld : Loose X pins H dx) (Lt : ∀ T, tb = some T → Loose X pins H T)
    (h : ∀ s' T, Inv X pins σ H s' → FlyN s'.heap a C dx f u T X.env.locals → s'.os = s.os → s'.gens = s.gens → Loose X pins H T → E2 (.ref a) s') :
    wpAny M A (noteFrame (.ref a) X.env) (fun _ s' => cameBackBy M A X.env E2 (.ref a) s') E s := by
  have fl := I.stack
  rw [hst] at fl
  have fe : frs (X.env :: X.outer) = X.env.locals :: X.fs := by unfold frs; rw [List.filterMap_cons, hfr]; rfl
  refine note_back (hA.trans (I.ok.frames.trans (by rw [hst]))) fl hfr F (by rw [fe]; exact Ld.nofs I) fun h' T hT F' k1 k2 => ?_
  have LT : Loose X pins H T := Loose.of I hT (I.hok.fresh hT)
  refine h _ T ?_ F' rfl rfl LT
  rw [fe] at k1
  have ex : ∀ b, H b ≠ none → b ≠ a ∧ tb ≠ some b ∧ b ∉ X.env.locals :: X.fs := fun b hb => by
    refine ⟨fun z => hb (by rw [z]; exact La.out), fun z => hb (Lt b z).out, fun z => hb ?_⟩
    exact I.stkFree b (by rw [hst, fe]; exact z)
  obtain ⟨m, ⟨o, es, ep, ho, r⟩, _⟩ := id I.loc
  obtain ⟨sl, hL⟩ := k2 _ o (Ne.symm La.loc) (fun z => (Lt _ z).loc rfl) ho
  refine I.step (g' := s.gens) (d' := s.drawn) (t' := s.toks) (ch := a :: tb.toList) (fun b hb => ?_) (fun b o z1 z2 z3 q _ => k1 b o (fun z => z3 (by rw [z]; exact List.mem_cons_self)) (fun z => z3 (List.mem_cons_of_mem _ (by rw [z]; exact List.mem_singleton.mpr rfl))) (fun z => (List.mem_cons.mp z).elim z1 z2) q)
    (fun b o z1 z2 z3 q _ => k2 b o (fun z => z3 (by rw [z]; exact List.mem_cons_self)) (fun z => z3 (List.mem_cons_of_mem _ (by rw [z]; exact List.mem_singleton.mpr rfl))) q) (fun _ _ _ _ z => z)
    (fun b o z3 q => let ⟨_, w⟩ := k2 b o (fun z => z3 (by rw [z]; exact List.mem_cons_self)) (fun z => z3 (List.mem_cons_of_mem _ (by rw [z]; exact List.mem_singleton.mpr rfl))) q; ⟨_, w⟩) (fun _ _ e => e) (fun _ _ _ e => e) (fun _ _ _ e => e) (fun m' hm => ?_) (fun b w e => ?_) I.bare
  · rcases List.mem_cons.mp hb with e | e
    · rw [e]; exact ⟨.inr La.new, La.loc, La.cel, La.pin⟩
    · cases tb with
      | none => cases e
      | some T0 =>
        have e : b = T0 := by simpa using e
        have := Lt T0 rfl
        rw [e]; exact ⟨.inr this.new, this.loc, this.cel, this.pin⟩
  · obtain ⟨o', es', ep', ho', r'⟩ := hm
    rw [ho] at ho'; cases ho'
    exact ⟨_, es', ep', hL, r'⟩
  · refine (I.hok b w e).stay (fun c v hc q => ?_) (fun _ q => q) fun _ _ q => q
    obtain ⟨z1, z2, z3⟩ := ex c (by
      rcases hc with z | z
      · rw [z, e]; simp
      · rw [z]; simp)
    exact k1 c v z1 z2 z3 q
theorem flight_again {M : Model} {A : Around} {E : Value → Shared → Prop} {Q : Unit → Shared → Prop} {a C dx T L : Addr} {f : Str} {u : Value} (fo : Option Addr) (I : Inv X pins σ H s) (F : FlyN s.heap a C dx f u T L) (LT : Loose X pins H T)
    (h : ∀ s', Inv X pins σ H s' → (∃ vs sl, s'.heap.get? a = some ⟨.ref C, some dx, .fields vs, sl⟩ ∧ vs[1]? = some (.ref T)) → s'.heap.Ns1 dx (fun y => if y = f then some u else none) → dx ≠ a →
      (T ≠ a ∧ T ≠ dx ∧ ∃ oT ts, s'.heap.get? T = some oT ∧ oT.data = .fields ts ∧ ts[3]? = some (fo.elim Value.none fun f => rawInt f)) → Q () s') : wpAny M A (setFlight (.ref a) fo) Q E s := by
  obtain ⟨⟨vs, sl, ea, e1⟩, hdic, hne, Ta, Td, oT, ts, t1, t2, t3⟩ := F
  unfold setFlight
  refine wpAny_bind (wpAny_field ea rfl e1 ?_)
  rw [if_pos (show ((Value.ref T) != Value.none) = true by simp)]
  refine wpAny_setField t1 t2 (Array.getElem?_eq_some_iff.mp t3).1 ?_
  obtain ⟨h', e2⟩ : ∃ h', h' = s.heap.update T (Obj.mapFields (·.setIfInBounds 3 (fo.elim Value.none fun f => rawInt f))) := ⟨_, rfl⟩
  rw [← e2]
  have o2 : ∀ b, b ≠ T → h'.get? b = s.heap.get? b := fun b z => by rw [e2]; exact Heap.get?_update_other _ _ (Ne.symm z)
  have d4 := Obj.data_mapFields t2 (·.setIfInBounds 3 (fo.elim Value.none fun f => rawInt f))
  have tT : h'.get? T = some (oT.mapFields (·.setIfInBounds 3 (fo.elim Value.none fun f => rawInt f))) := by
    rw [e2]; exact Heap.get?_update_self _ t1 (Obj.isFreed_of_fields d4)
  have I' : Inv X pins σ H { s with heap := h', toks := s.toks } := Inv.turned (t' := s.toks) I (fun b o z q => (o2 b z).trans q) LT.out LT.loc (.inr LT.new) LT.cel LT.pin
  refine h _ I' ⟨vs, sl, (o2 a (Ne.symm Ta)).trans ea, e1⟩ ?_ hne ⟨Ta, Td, _, _, tT, d4, ?_⟩
  · obtain ⟨o, es, ep, r1, r2⟩ := hdic
    exact ⟨o, es, ep, (o2 dx (Ne.symm Td)).trans r1, r2⟩
  · have := (Array.getElem?_eq_some_iff.mp t3).1
    simp [this]
theorem note_again {M : Model} {A : Around} {E : Value → Shared → Prop} {Q : Unit → Shared → Prop} {a C dx T : Addr} {f : Str} {u : Value} (hfr : X.env.frame = some X.env.locals) (F : FlyN s.heap a C dx f u T X.env.locals) (h : Q () s) : wpAny M A (noteFrame (.ref a) X.env) Q E s := by
  obtain ⟨⟨vs, sl, ea, e1⟩, hdic, hne, Ta, Td, oT, ts, t1, t2, t3⟩ := F
  unfold noteFrame
  simp only [hfr]
  refine wpAny_bind (wpAny_field ea rfl e1 ?_)
  rw [if_pos (show ((Value.ref T) != Value.none) = true by simp)]
  refine wpAny_bind (wpAny_field t1 t2 t3 ?_)
  rw [if_pos (show (rawInt X.env.locals == rawInt X.env.locals) = true by simp)]
  exact wpAny_pure h
def XPX (X : Cx) (fld : Addr → Str) (E : XK) : Value → Shared → Prop := fun e s => ∃ pins σ H a C dx u, e = .ref a ∧ Inv X pins σ H s ∧ Loose X pins H a ∧ Loose X pins H dx ∧ E u (some C) H ∧
  ((∃ tb, Fly s.heap a C dx (fld C) u tb ∧ ∀ T, tb = some T → Loose X pins H T) ∨ ∃ T, FlyN s.heap a C dx (fld C) u T X.env.locals ∧ Loose X pins H T)
theorem passOwnX {fld : Addr → Str} {E : XK} (hst : X.stack = X.env :: X.outer) (hfr : X.env.frame = some X.env.locals) : PassesOwn (model X.prog X.w) X.A X.env (XPX X fld E) := by
  rintro e s ⟨pins, σ, H, a, C, dx, u, rfl, I, La, Ld, q, F⟩
  rcases F with ⟨tb, F, Lt⟩ | ⟨T, F, LT⟩
  · exact inv_noteB rfl I hst hfr F La Ld Lt fun s' T I' F' _ _ LT => ⟨pins, σ, H, a, C, dx, u, rfl, I', La, Ld, q, .inr ⟨T, F', LT⟩⟩
  · refine note_again hfr F ?_
    unfold cameBackBy
    obtain ⟨vs, sl, ea, e1⟩ := F.obj
    refine wpAny_bind (wpAny_field ea rfl e1 ?_)
    rw [if_neg (show ¬ ((Value.ref T == Value.none) = true) by simp)]
    refine flight_again _ I F LT fun s' I' o1 o2 o3 o4 => ⟨pins, σ, H, a, C, dx, u, rfl, I', La, Ld, q, .inr ⟨T, ⟨o1, o2, o3, ?_⟩, LT⟩⟩
    rw [hfr] at o4
    exact o4
end
section
variable {P : Program} {w : World} {K : PySem.W.Frag} {mg : Str → Option Value} {base : Heap} {N : List Str} {qual : Str} {scope : Scope} {fa : Addr} {cdv : Value} {A : Around} {outer : List Env} {s₀ : Shared} {H₀ : Hp} {E : XK} {fld : Addr → Str}
theorem xe_ofX {e : Value} {s : Shared} (h : XPX (cxOf (CXE P w fld) P w K mg base N qual scope fa cdv A outer s₀ H₀ E) fld E e s) : (cxOf (CXE P w fld) P w K mg base N qual scope fa cdv A outer s₀ H₀ E).xe e s := by
  obtain ⟨pins, σ, H, a, C, dx, u, rfl, I, La, Ld, q, F⟩ := h
  rcases F with ⟨tb, F, Lt⟩ | ⟨T, F, LT⟩
  · exact xe_of I F La Ld Lt q
  · show wpAny _ _ (leaving _ (.ref a)) _ _ s
    unfold leaving
    refine wpAny_bind (note_again (X := cxOf (CXE P w fld) P w K mg base N qual scope fa cdv A outer s₀ H₀ E) rfl F ?_)
    refine flight_again none I F LT fun s' I' o1 o2 o3 o4 => ?_
    exact ⟨a, C, dx, T, u, H, rfl, I'.os, I'.bare, I'.base, I'.hok, ⟨o1, o2, o3, fun T' z => by cases z; exact o4⟩, La.new, Ld.new, LT.new, La.out, Ld.out, LT.out, q⟩
end
end XC
namespace XC
open PySem PySem.Spec PyProof.Rows L2 My D3
section
variable {X : Cx} {E : XK} {fl : List Fl} {body : List Stmt} {fx : FX} {pos : Pos}
theorem PI.nox {tg iter : Expr} {t : TI} (h : PI X.nox tg iter t) : PI X tg iter t := fun pins s σ H R I hw =>
  wpAny_mono (h pins s σ H R (I.wish _) hw) (fun v s1 q => wpAny_mono q (fun itv s2 q => by
    obtain ⟨it, fp, tn, J, H', e, I', T, t0, fo, r⟩ := q
    exact ⟨it, fp, tn, J, H', e, I'.wish _, T, t0, fun b hb => fo b hb, r⟩) fun _ _ z => z.elim) fun _ _ z => z.elim
theorem PG.nox {tg : Expr} {t : TG} (h : PG X.nox tg t) : PG X tg t := fun pins s σ H v u Q I r hw =>
  wpAny_mono (h pins s σ H v u Q (I.wish _) r hw) (fun _ s' q => by
    obtain ⟨σ', H', I', q⟩ := q
    exact ⟨σ', H', I'.wish _, q⟩) fun _ _ z => z.elim
theorem dx_for {tg iter : Expr} {L : List Nat} {T : List Nat} {fi : FA} {g : FG} (hp : PassesOwn (model X.prog X.w) X.A X.env X.xe) (hc : X.calm = true) (hi : DI X.nox fl L tg iter fi) (hg : DG X.nox (lock L fl) T tg g) (hb : DXs X E (lock L fl) body fx)
    (hs : ∀ x, foldedSetIterable iter X.env x = pure x := by intro _; rfl) : DX1 X E fl (.For tg iter body [] pos) (xFor fi g fx) := PS.imp (ps_for hp hc (PI.nox hi) (PG.nox hg) hb hs) fun Dn σ H h => by
  obtain ⟨G, ow, δ, o, R0, hf, q⟩ := h
  obtain ⟨l, e1, e2⟩ := bind1 hf
  refine ⟨G, ow, δ, l, R0, e1, fun J H1 s wk => ?_⟩
  have R1 := R0.grow s
  have RL := R1.lock L
  refine ⟨fun i m σ' H' => m = l.length - i ∧ ∃ ow' δ', Rel X.K (lock L fl) (ghL (lock L fl) G ow H1) ow' σ' H' δ' ∧ xForD g fx (l.drop i) δ' = some o, ⟨_, rfl, ow, δ, RL, by simpa using e2⟩, ?_⟩
  rintro i m σ' H' ⟨rfl, ow', δ', R', hd⟩
  have kept : ∀ b o, H1 b = some o → (∀ i, ow i = some b → i ∈ L) → (∀ i, b ∉ ow.n i) → H' b = some o := fun b o hb hl hn => R'.s1 b o (by
    rw [ghL_out]
    · exact hb
    · rintro (⟨j, e, hj⟩ | ⟨j, e, _⟩)
      · exact (lock_O hj).2 (hl j e)
      · exact hn j e)
  obtain ⟨w1, w2⟩ := wk H' kept i
  by_cases hlt : i < l.length
  · have hdrop : l.drop i = l[i] :: l.drop (i + 1) := List.drop_eq_getElem_cons hlt
    rw [hdrop, xForD] at hd
    obtain ⟨δ1, e3, hd⟩ := bind1 hd
    obtain ⟨o1, e4, hd⟩ := bind1 hd
    obtain ⟨go, yl⟩ := w1 l[i] (List.getElem?_eq_getElem hlt)
    refine .inr ⟨go, fun σ' H' => ∃ ow' δ', Rel X.K (lock L fl) (ghL (lock L fl) G ow H1) ow' σ' H' δ' ∧ xForD g fx (l.drop (i + 1)) δ' = some o, fun σ2 H2 ⟨ow2, δ2, R2, h2⟩ => ⟨l.length - (i + 1), by omega, rfl, ow2, δ2, R2, h2⟩, fun x H3 hy => ?_⟩
    obtain ⟨s3, r3⟩ := yl x H3 hy
    have sub : ∀ b, okA ow b ∧ H1 b ≠ none → okA ow' b := fun b z => by
      obtain ⟨z1, z2⟩ := z
      refine ⟨fun j e => ?_, fun j e => ?_⟩
      · rcases (R'.own j b e).2.1 with ⟨_, hz⟩ | ⟨hz, _⟩
        · have : (ghL (lock L fl) G ow H1).HF b = H1 b := ghL_out (by rintro (⟨j', e', _⟩ | ⟨j', e', _⟩); exact z1.1 j' e'; exact z1.2 j' e')
          rw [this] at hz
          exact z2 hz
        · have e' : ow' j = ow j := R'.pin j hz
          rw [e'] at e
          exact z1.1 j e
      · rcases (R'.nt j b e).2.2 with ⟨_, hz⟩ | w
        · have : (ghL (lock L fl) G ow H1).HF b = H1 b := ghL_out (by rintro (⟨j', e', _⟩ | ⟨j', e', _⟩); exact z1.1 j' e'; exact z1.2 j' e')
          rw [this] at hz
          exact z2 hz
        · have e' : ow'.n j = ow.n j := R'.np j w
          rw [e'] at e
          exact z1.2 j e
    refine ⟨_, ow', δ', _, δ1, R'.grow s3, r3.imp sub (fun z => z), e3, fun σ4 R4 _ => ⟨_, ow', δ1, o1, R4, e4, ?_⟩⟩
    · cases o1 with
      | ex c v => cases hd; exact q
      | o o1 =>
        cases o1 with
        | nx δ2 => exact fun ow2 σ2 H2 R2 => ⟨ow2, δ2, R2, hd⟩
        | ct δ2 => exact fun ow2 σ2 H2 R2 => ⟨ow2, δ2, R2, hd⟩
        | bk δ2 => cases hd; exact fun ow2 σ2 H2 R2 => q ow2 σ2 H2 (R1.unlock R2)
        | rt d => cases hd; exact q
        | ex c f v => cases hd; exact q
  · have e : l.drop i = [] := List.drop_eq_nil_of_le (by omega)
    rw [e, xForD] at hd
    cases hd
    exact .inl ⟨w2 (by omega), q ow' σ' H' (R1.unlock R')⟩
end
def cxL (P : Program) (w : World) (K : PySem.W.Frag) (mg : Str → Option Value) (base : Heap) (N : List Str) (qual : Str) (scope : Scope) (fa : Addr) (cdv : Value) (A : Around) (outer : List Env) (s₀ : Shared) (H₀ : Hp) (E : XK) (fld : Addr → Str) : Cx :=
  (cxOf (CXE P w fld) P w K mg base N qual scope fa cdv A outer s₀ H₀ E).wish (XPX (cxOf (CXE P w fld) P w K mg base N qual scope fa cdv A outer s₀ H₀ E) fld E)
section
variable {P : Program} {w : World} {K : PySem.W.Frag} {mg : Str → Option Value} {base : Heap} {N : List Str} {qual : Str} {scope : Scope} {fa : Addr} {cdv : Value} {A : Around} {outer : List Env} {s₀ : Shared} {H₀ : Hp} {E : XK} {fld : Addr → Str}
variable {fl : List Fl} {cn f : Str} {arg : Expr} {fe : FE} {p pos rpos : Pos} {k : Nat}
theorem passL : PassesOwn (model (cxL P w K mg base N qual scope fa cdv A outer s₀ H₀ E fld).prog (cxL P w K mg base N qual scope fa cdv A outer s₀ H₀ E fld).w) (cxL P w K mg base N qual scope fa cdv A outer s₀ H₀ E fld).A (cxL P w K mg base N qual scope fa cdv A outer s₀ H₀ E fld).env (cxL P w K mg base N qual scope fa cdv A outer s₀ H₀ E fld).xe :=
  passOwnX (X := cxOf (CXE P w fld) P w K mg base N qual scope fa cdv A outer s₀ H₀ E) rfl rfl
theorem dx_raiseL (Ex : ExcF K mg fld cn f) (hr : Room (k + 2) (A.deeper (envOfC qual scope s₀.heap.objs.size fa cdv)))
    (ha : DE (cxL P w K mg base N qual scope fa cdv A outer s₀ H₀ E fld).nox fl .P arg fe) (hg : Gl (cxL P w K mg base N qual scope fa cdv A outer s₀ H₀ E fld) cn := by rfl) (hdb : (cn == ("__debug__" : Str)) = false := by decide)
    (he : starEach [arg] (cxL P w K mg base N qual scope fa cdv A outer s₀ H₀ E fld).env = (false, eval arg (cxL P w K mg base N qual scope fa cdv A outer s₀ H₀ E fld).env) :: starEach [] (cxL P w K mg base N qual scope fa cdv A outer s₀ H₀ E fld).env := by exact star_of rfl)
    (hpl : (backTo pos (starEach [] (cxL P w K mg base N qual scope fa cdv A outer s₀ H₀ E fld).env)).any (·.1) = false := by exact pl_of rfl) :
    DX1 (cxL P w K mg base N qual scope fa cdv A outer s₀ H₀ E fld) E fl (.Raise (some (.Call (.Name cn p) [arg] [] pos)) none rpos) (xRaise cn fe) := by
  intro pins s σ H Dn J h
  obtain ⟨C, I0, Ex, hC⟩ := Ex.ex
  obtain ⟨G, ow, δ, o, R, hf, q⟩ := h
  obtain ⟨d, e1, e2⟩ := bind1 hf
  cases e2
  refine raise_at (R := fun v H1 => Same H H1 ∧ RA K ok1 true H1 v d) Ex hr hg hdb (PE.nox ha) J ⟨G, ow, δ, d, R, e1, fun v H' s r => ⟨s, r⟩⟩ (fun v H1 a dx u s' r rv J' Fl La Ld => ?_) he hpl
  rw [← hC] at Fl
  exact ⟨pins, σ, H1, a, C, dx, u, rfl, J'.unwish, ⟨La.new, La.loc, La.cel, La.pin, La.out⟩, ⟨Ld.new, Ld.loc, Ld.cel, Ld.pin, Ld.out⟩, q C v u H1 Ex.mgC (R.same0.trans r.1) r.2 rv, .inl ⟨none, Fl, fun T z => by cases z⟩⟩
end
section
variable {P : Program} {w : World} {K : PySem.W.Frag} {mg : Str → Option Value} {base : Heap} {fld : Addr → Str} {x : Str} {ps N ks : List Str} {st : Stmt} {k n : Nat} {f : FX} {fl : List Fl} {dvs : List V} {sp : Sp}
theorem body_L {fa : Addr} {cdv : Value} {A : Around} {outer : List Env} {s : Shared} {H : Hp} {E : XK} {sts : List Stmt} {t : TS} (h : PSs (cxL P w K mg base N x (defScope st) fa cdv A outer s H E fld) sts t) : PSs (cxOf (CXE P w fld) P w K mg base N x (defScope st) fa cdv A outer s H E) sts t := fun pins s1 σ H1 D I hw =>
  wpAny_mono (h pins s1 σ H1 D (I.wish _) hw) (fun fl s' q => SP.unwish q) fun e s' z => xe_ofX z
theorem dgXL_ok (Dd : Dg K mg x st ps) (S : FnScope N ps (defScope st)) (hp : ∀ i, i < ps.length → fl[i]? = some .A) (hN : ps.length ≤ N.length)
    (hbody : ∀ (fa : Addr) (cdv : Value) (A : Around) (outer : List Env) (s : Shared) (H : Hp) (E : XK), Room k (A.deeper (envOfC x (defScope st) s.heap.objs.size fa cdv)) → DXs (cxL P w K mg base N x (defScope st) fa cdv A outer s H E fld) E fl (defBody st) f) :
    HasX P w K mg base fld (k + 1) x ps (spX K mg (fnX ps.length (N.length - ps.length) f)) [] :=
  dgX_ok Dd S hp hN fun fa cdv A outer s H E hr => body_L (hbody fa cdv A outer s H E hr)
end
end XC
namespace XC
open PySem PySem.Spec PyProof.Rows L2 My D3
section
variable {P : Program} {w : World} {K : PySem.W.Frag} {mg : Str → Option Value} {base : Heap} {N : List Str} {qual : Str} {scope : Scope} {fa : Addr} {cdv : Value} {A : Around} {outer : List Env} {s₀ : Shared} {H₀ : Hp} {E : XK} {fld : Addr → Str}
variable {fl : List Fl} {n : Nat} {x : Str} {ps : List Str} {F : List D → Option Or} {dvs : List V} {dd : List D} {e : Expr} {es : List Expr} {fs : FA} {p pos pos2 : Pos}
theorem Loose.unL {pins : List (Addr × Obj)} {H : Hp} {b : Addr} (h : Loose (cxL P w K mg base N qual scope fa cdv A outer s₀ H₀ E fld) pins H b) : Loose (cxOf (CXE P w fld) P w K mg base N qual scope fa cdv A outer s₀ H₀ E) pins H b := ⟨h.new, h.loc, h.cel, h.pin, h.out⟩
theorem dx_callL (h : HasX P w K mg base fld n x ps (spX K mg F) dvs) (hdd : ∀ H, RAs K ok1 true H dvs dd) (hr : Room n (A.deeper (envOfC qual scope s₀.heap.objs.size fa cdv))) (ha : DB (cxL P w K mg base N qual scope fa cdv A outer s₀ H₀ E fld).nox fl .P (e :: es) fs)
    (hg : Gl (cxL P w K mg base N qual scope fa cdv A outer s₀ H₀ E fld) x := by rfl) (hdb : (x == ("__debug__" : Str)) = false := by decide)
    (he : starEach (e :: es) (cxL P w K mg base N qual scope fa cdv A outer s₀ H₀ E fld).env = (false, eval e (cxL P w K mg base N qual scope fa cdv A outer s₀ H₀ E fld).env) :: starEach es (cxL P w K mg base N qual scope fa cdv A outer s₀ H₀ E fld).env := by exact star_of rfl) (hpl : (backTo pos (starEach es (cxL P w K mg base N qual scope fa cdv A outer s₀ H₀ E fld).env)).any (·.1) = false := by exact pl_of rfl) (hsw : swapsWith (.Call (.Name x p) (e :: es) [] pos) none pos2.line (cxL P w K mg base N qual scope fa cdv A outer s₀ H₀ E fld).env = pure false := by rfl) :
    DX1 (cxL P w K mg base N qual scope fa cdv A outer s₀ H₀ E fld) E fl (.Expr (.Call (.Name x p) (e :: es) [] pos) pos2) (xCall F dd fs) := by
  intro pins s σ H Dn J h0
  obtain ⟨G, ow, δ, o, R, hf, q⟩ := h0
  obtain ⟨ds, e1, e2⟩ := bind1 hf
  obtain ⟨f, fd, dv, Fo, b, vv, kp, m⟩ := h.ex
  split at e2
  · next d eF =>
    cases e2
    refine wpAny_mono (pse_call (X := (cxL P w K mg base N qual scope fa cdv A outer s₀ H₀ E fld)) (dvs := dvs) Fo hr hg m kp b vv ha hdb he hpl hsw pins s σ H { nx := fun σ' H2 => σ' = σ ∧ Same H H2, rt := fun _ _ => False, bk := fun _ _ => False, ct := fun _ _ => False } (fun _ _ _ => False) J ⟨G, ow, δ, ds, R, e1, fun vs H1 sm r => ⟨ds ++ dd, _, ⟨R.tb.same sm, r.append (hdd H1)⟩, eF, fun v H' sm' _ => ⟨rfl, sm.trans sm'⟩⟩⟩) (fun fl' s1 z => ?_) fun e s1 z => ?_
    · cases fl' with
      | next =>
        obtain ⟨σ', H', I', rfl, sm⟩ := z
        exact ⟨_, H', I', q ow _ H' (R.grow sm)⟩
      | ret v => obtain ⟨_, _, _, _, _, z⟩ := z; exact z.elim
      | brk => obtain ⟨_, _, _, z⟩ := z; exact z.elim
      | cont => obtain ⟨_, _, _, z⟩ := z; exact z.elim
    · obtain ⟨_, _, _, _, _, _, _, _, _, _, _, _, z⟩ := z
      exact z.elim
  · next c d eF =>
    cases e2
    refine wpAny_mono (pse_call (X := (cxL P w K mg base N qual scope fa cdv A outer s₀ H₀ E fld)) (dvs := dvs) Fo hr hg m kp b vv ha hdb he hpl hsw pins s σ H { nx := fun σ' H2 => False, rt := fun _ _ => False, bk := fun _ _ => False, ct := fun _ _ => False } E J ⟨G, ow, δ, ds, R, e1, fun vs H1 sm r => ⟨ds ++ dd, _, ⟨R.tb.same sm, r.append (hdd H1)⟩, eF, fun C' v u H' mc sm' r' rv => q C' v u H' mc (R.same0.trans (sm.trans sm')) r' rv⟩⟩) (fun fl' s1 z => ?_) fun e s1 z => ?_
    · cases fl' with
      | next => obtain ⟨_, _, _, z⟩ := z; exact z.elim
      | ret v => obtain ⟨_, _, _, _, _, z⟩ := z; exact z.elim
      | brk => obtain ⟨_, _, _, z⟩ := z; exact z.elim
      | cont => obtain ⟨_, _, _, z⟩ := z; exact z.elim
    · obtain ⟨a, C', dx, T, u, H', rfl, I', Fl, La, Ld, LT, z⟩ := z
      exact ⟨pins, σ, H', a, C', dx, u, rfl, I'.unwish, La.unL, Ld.unL, z, .inl ⟨some T, Fl, fun T' y => by cases y; exact LT.unL⟩⟩
  · cases e2
end
end XC
namespace XC
open PySem PySem.Spec PyProof.Rows L2 My D3
section
variable {X : Cx} {pins : List (Addr × Obj)} {σ : L2.St} {H : Hp} {s : Shared} {fld : Addr → Str} {k : Nat} {f : Addr} {fd : FuncData} {ps : List Str} {sp : Sp} {dvs : List V} {ds : List Value} {EX : XK}
variable {x y : Str} {p np pos pos2 : Pos} {e : Expr} {es : List Expr} {ta : TA} {i : Nat}
theorem pse_asg (F : FnOk X.prog X.w X.K X.mg X.base (CXE X.prog X.w fld) k f fd ps sp) (hr : Room k X.A) (hg : Gl X x) (hm : X.mg x = some (.ref f)) (hk : PySem.W.keepIn X.K (.ref f) = true) (hb : Binds X.K fd ps ds) (hd : Vals dvs ds) (ha : PA X.nox (e :: es) ta)
    (hN : X.N.Nodup) (hi : X.N[i]? = some y) (hx : Loc X.env.scope y)
    (hdb : (x == ("__debug__" : Str)) = false := by decide) (he : starEach (e :: es) X.env = (false, eval e X.env) :: starEach es X.env := by rfl) (hpl : (backTo pos (starEach es X.env)).any (·.1) = false := by rfl) (hs : swapsWith (.Call (.Name x p) (e :: es) [] pos) (some (.Name y np)) pos2.line X.env = pure false := by rfl)
    (hf : X.fn y = true ∨ X.env.scope.names.lookup y = some .local := by first | exact .inl rfl | exact .inr rfl) :
    PSE fld X (.Assign [.Name y np] (.Call (.Name x p) (e :: es) [] pos) pos2) (fun D EX σ H => ta σ H fun vs H1 => sp (vs ++ dvs) H1 (fun v H2 => D.nx (σ.set i (some v)) H2) EX) := by
  intro pins s σ H D EX J h
  refine wpAny_Assign_Name ?_ hs
  refine wpAny_Call_Name_kw (ld_glob J hg hm ?_ hdb)
  refine PySem.W.callWith_K (h₀ := X.base) J.ok.mod.kin hk (wpAny_mono (ha pos pins s σ H _ (J.wish _) h) (fun us s1 q => ?_) fun _ _ z => z.elim) he hpl
  obtain ⟨vs, H1, J1, r, q⟩ := q
  have J1 : Inv X pins σ H1 s1 := J1.wish _
  refine ⟨J1.kIn, wpAny_mono (run_fnE F hr hb hd J1 r q) (fun u s2 w => ?_) fun _ _ z => z⟩
  obtain ⟨v, H2, J2, rv, q2⟩ := w
  exact store_ok J2 hN hi hx rv (fun s3 I3 => ⟨_, H2, I3, q2⟩) hf
end
end XC
namespace XC
open PySem PySem.Spec PyProof.Rows L2 My D3
section
variable {X : Cx} {fl : List Fl} {fld : Addr → Str} {n i j : Nat} {x y ic en : Str} {ps cs : List Str} {F : List D → Option Or} {dvs : List V} {dd : List D} {e : Expr} {es : List Expr} {fa : FA} {p yp pos pos2 np hpos tpos : Pos} {b0 : Stmt} {suite : List Stmt} {fS : Str → D → DS → Option D}
def Suite (X : Cx) (fl : List Fl) (fld : Addr → Str) (ic : Str) (i : Nat) (b0 : Stmt) (suite : List Stmt) (fS : Str → D → DS → Option D) (c : Str) : Prop :=
  ∃ C I0 Dc, Exc X.K X.mg c (fld C) C I0 ∧ (Dc = C ∨ Dc = I0) ∧ X.mg ic = some (.ref Dc) ∧ ∀ (a : Addr) (oa : Obj) (dx : Addr) (od : Obj) (u : Value) (v : V) (d : D), oa.cls = .ref C → oa.dict = some dx → PySem.W.notCls oa = true → (∀ h : Heap, h.get? dx = some od → h.Ns1 dx (fun z => if z = fld C then some u else none)) → RelV v u →
    ∃ ts, PSs (suiteCx X a oa dx od) (b0 :: suite) ts ∧ ∀ (G : Gh) (ow : Ow) (δ : DS) (σ : L2.St) (H : Hp) (Dn : Ends) (r : D), Rel X.K fl G ow σ H δ → RA X.K ok1 true H v d → fS c d δ = some r → (∀ v' H', Same G.H0 H' → RA X.K (okN G.H0) false H' v' r → Dn.rt v' H') →
      ts { nx := fun _ _ => False, rt := Dn.rt } (σ.set i (some (.ref a))) H
theorem ds_tryA (h : HasX X.prog X.w X.K X.mg X.base fld n x ps (spX X.K X.mg F) dvs) (hdd : ∀ H, RAs X.K ok1 true H dvs dd) (hr : Room n X.A) (ha : DB X fl .P (e :: es) fa) (hcs : ∀ c ∈ cs, Suite X fl fld ic i b0 suite fS c)
    (hfl : fl[j]? = some .O) (hj : X.N[j]? = some y) (hy : X.env.scope.names.lookup y = some .local ∨ X.env.scope.names.lookup y = some .cell)
    (hi : X.N[i]? = some en) (hN : X.N.Nodup) (hl : X.env.scope.names.lookup en = some .local) (hst : X.stack = X.env :: X.outer := by rfl) (hfr : X.env.frame = some X.env.locals := by rfl) (hx : X = X.nox := by rfl)
    (hg : Gl X x := by rfl) (hgi : Gl X ic := by rfl) (hdb : (x == ("__debug__" : Str)) = false := by decide) (hdi : (ic == ("__debug__" : Str)) = false := by decide)
    (he : starEach (e :: es) X.env = (false, eval e X.env) :: starEach es X.env := by exact star_of rfl) (hpl : (backTo pos (starEach es X.env)).any (·.1) = false := by exact pl_of rfl) (hsw : swapsWith (.Call (.Name x p) (e :: es) [] pos) (some (.Name y yp)) pos2.line X.env = pure false := by rfl)
    (hyf : X.fn y = true ∨ X.env.scope.names.lookup y = some .local := by first | exact .inl rfl | exact .inr rfl) :
    DS1 X fl (.Try [.Assign [.Name y yp] (.Call (.Name x p) (e :: es) [] pos) pos2] [.ExceptHandler (some (.Name ic np)) (some en) (b0 :: suite) hpos] [] [] tpos) (sTryA j F cs dd fa fS) := by
  intro pins s σ H Dn J h0
  obtain ⟨G, ow, δ, o, R, hf, q⟩ := h0
  obtain ⟨ds, e1, e2⟩ := bind1 hf
  obtain ⟨f, fd, dv, Fo, b, vv, kp, m⟩ := h.ex
  have ha' : DB X.nox fl .P (e :: es) fa := by rw [← hx]; exact ha
  refine wpAny_Try_except ?_
  have one : ∀ (D : Ends) (EX : XK), (tDB X.K fl .P fa) σ H (fun vs H1 => spX X.K X.mg F (vs ++ dvs) H1 (fun v H2 => D.nx (σ.set j (some v)) H2) EX) → (∀ s', SP X pins D .next s' → SP X pins Dn .next s') → (∀ e s', XP fld X pins σ EX e s' → wpAny (model X.prog X.w) X.A (noteFrame e X.env) (fun _ s₂ => wpAny (model X.prog X.w) X.A (setFlight e none) (fun _ s₃ => wpAny (model X.prog X.w) X.A (handleBy e X.env [.ExceptHandler (some (.Name ic np)) (some en) (b0 :: suite) hpos]) (SP X pins Dn) X.xe s₃) X.xe s₂) X.xe s') → (D.rt = fun _ _ => False) → (D.bk = fun _ _ => False) → (D.ct = fun _ _ => False) → wpAny (model X.prog X.w) X.A (execs [.Assign [.Name y yp] (.Call (.Name x p) (e :: es) [] pos) pos2] X.env) (fun f s₁ => match f with | .next => wpAny (model X.prog X.w) X.A (execs [] X.env) (SP X pins Dn) X.xe s₁ | f => SP X pins Dn f s₁)
      (fun e s₁ => wpAny (model X.prog X.w) X.A (noteFrame e X.env) (fun _ s₂ => wpAny (model X.prog X.w) X.A (setFlight e none) (fun _ s₃ => wpAny (model X.prog X.w) X.A (handleBy e X.env [.ExceptHandler (some (.Name ic np)) (some en) (b0 :: suite) hpos]) (SP X pins Dn) X.xe s₃) X.xe s₂) X.xe s₁) s := fun D EX hq hn hxx hD1 hD2 hD3 => by
    refine wpAny_execs_cons (wpAny_mono (pse_asg (X := X) (dvs := dvs) (i := j) Fo hr hg m kp b vv ha' hN hj hy hdb he hpl hsw hyf pins s σ H D EX J hq) (fun fl' s1 z => ?_) fun e s1 z => hxx e s1 z)
    cases fl' with
    | next => exact wpAny_execs_nil (wpAny_execs_nil (hn _ z))
    | ret v => obtain ⟨_, _, _, _, _, z⟩ := z; rw [hD1] at z; exact z.elim
    | brk => obtain ⟨_, _, _, z⟩ := z; rw [hD2] at z; exact z.elim
    | cont => obtain ⟨_, _, _, z⟩ := z; rw [hD3] at z; exact z.elim
  split at e2
  · next d eF =>
    by_cases hc : fl1 d = true ∧ j < δ.length
    case neg => rw [if_neg hc] at e2; cases e2
    rw [if_pos hc] at e2
    cases e2
    refine one { nx := fun σ' H2 => ∃ ow', Rel X.K fl G ow' σ' H2 (δ.set j (some (.d d))), rt := fun _ _ => False, bk := fun _ _ => False, ct := fun _ _ => False } (fun _ _ _ => False) ⟨G, ow, δ, ds, R, e1, fun vs H1 sm r => ⟨ds ++ dd, _, ⟨R.tb.same sm, r.append (hdd H1)⟩, eF, fun v H' sm' rv => ?_⟩⟩ (fun s' z => ?_) (fun e s' z => ?_) rfl rfl rfl
    · have rv' : Rs X.K G.H0 ow H H' .C v d := RA.imp (fun _ z => sm.free z) (fun z => z) rv
      exact R.setO (sm.trans sm') hfl (slot_lt R hc.2) (Rs.FC_F R (Rs.C_fl1 hc.1 rv'))
    · obtain ⟨σ', H', I', ow', R'⟩ := z
      exact ⟨σ', H', I', q ow' _ H' R'⟩
    · obtain ⟨_, _, _, _, _, _, _, _, _, _, _, _, z⟩ := z
      exact z.elim
  · next c d eF =>
    by_cases hc : c ∈ cs
    case neg => rw [if_neg hc] at e2; cases e2
    rw [if_pos hc] at e2
    obtain ⟨r0, e3, e4⟩ := bind1 e2
    cases e4
    obtain ⟨C, I0, Dc, Ex, hD, hic, hsu⟩ := hcs c hc
    refine one { nx := fun σ' H2 => False, rt := fun _ _ => False, bk := fun _ _ => False, ct := fun _ _ => False } (fun u C' H' => C' = some C ∧ Same H H' ∧ ∃ v, RelV v u ∧ RA X.K ok1 true H' v d) ⟨G, ow, δ, ds, R, e1, fun vs H1 sm r => ⟨ds ++ dd, _, ⟨R.tb.same sm, r.append (hdd H1)⟩, eF, fun C' v u H' mc sm' r' rv => ⟨by rw [Ex.mgC] at mc; cases mc; rfl, sm.trans sm', v, rv, r'⟩⟩⟩ (fun s' z => ?_) (fun e s' z => ?_) rfl rfl rfl
    · obtain ⟨_, _, _, z⟩ := z; exact z.elim
    · obtain ⟨a, C', dx, T, u, H', rfl, I', Fl, La, Ld, LT, hC, sm, v, rv, rd⟩ := z
      cases hC
      refine inv_note rfl I' hst hfr Fl La Ld (fun T' z => by cases z; exact LT) fun s2 T2 I2 F2 o1 o2 LT2 => ?_
      obtain ⟨vs, sl, w1, _⟩ := F2.obj
      obtain ⟨od, es1, ep1, w2, w3⟩ := F2.dic
      obtain ⟨ts, t1, t2⟩ := hsu a ⟨.ref C, some dx, .fields vs, sl⟩ dx od u v d rfl rfl rfl (fun h' z => ⟨od, es1, ep1, z, w3⟩) rv
      refine land (D := Dc) (i := i) (ts := ts) I2 F2 La Ld LT2 Ex hD hic hgi hdi hi hN hl fun oa od' ea ed => ?_
      rw [w1] at ea
      rw [w2] at ed
      cases ea
      cases ed
      exact ⟨t1, t2 G ow δ σ H' Dn r0 (R.grow sm) rd e3 fun v' H2 s2 r2 => q v' H2 s2 r2⟩
  · cases e2
end
end XC
namespace XC
open PySem PySem.Spec PyProof.Rows L2 My D3
structure RoomQ (k : Nat) (A : Around) : Prop where
  dp : A.depth + 3 * k + 5 < recursionLimit
  un : A.units + 16 * k + 200 < cLine
theorem RoomQ.mono {j k : Nat} {A : Around} (r : RoomQ k A) (h : j ≤ k) : RoomQ j A := ⟨by have := r.dp; omega, by have := r.un; omega⟩
theorem RoomQ.deeper {k : Nat} {A : Around} (r : RoomQ (k + 1) A) (env : Env) : RoomQ k (A.deeper env) :=
  ⟨by have := r.dp; show A.depth + 1 + 3 * k + 5 < _; omega, by have := r.un; show A.units + 3 + 16 * k + 200 < _; omega⟩
theorem RoomQ.depth {k : Nat} {A : Around} (r : RoomQ k A) : A.depth < recursionLimit := by have := r.dp; omega
theorem RoomQ.units {k : Nat} {A : Around} (r : RoomQ k A) : A.units + 64 < cLine := by have := r.un; omega
structure FnOkQ (P : Program) (w : World) (K : PySem.W.Frag) (mg : Str → Option Value) (base : Heap) (k : Nat) (f : Addr) (fd : FuncData) (ps : List Str) (sp : Sp) : Prop where
  len : ∀ vs H Q E, sp vs H Q E → vs.length = ps.length
  run : ∀ (A : Around) (outer : List Env) (s : Shared) (H : Hp) (args : Args) (us : List Value) (vs : List V) (Q : VK) (E : XK), RoomQ k A → Env0 P w K mg base A outer s H → BindsTo s fd args (ps.zip us) → Vals vs us → sp vs H Q E →
    codeAny (model P w) A (.call (.ref f) args) (CR CX0 outer P w H s Q E) s
def cxQ (P : Program) (w : World) (K : PySem.W.Frag) (mg : Str → Option Value) (base : Heap) (N : List Str) (qual : Str) (scope : Scope) (f : Addr) (cd : Value) (A : Around) (outer : List Env) (s : Shared) (H : Hp) (E : XK) : Cx :=
  { cxOf CX0 P w K mg base N qual scope f cd A outer s H E with calm := false }
theorem inv_startQ {P : Program} {w : World} {K : PySem.W.Frag} {mg : Str → Option Value} {base : Heap} {N ps : List Str} {qual : Str} {scope : Scope} {f : Addr} {cd : Value} {A : Around} {outer : List Env} {s s1 : Shared} {H : Hp} {E : XK} {us : List Value} {vs : List V}
    (S : FnScope N ps scope) (e0 : Env0 P w K mg base A outer s H) (hl : vs.length = ps.length) (r : Vals vs us)
    (x : InCallC s s.heap.objs.size (bindL (envOfC qual scope s.heap.objs.size f cd).kindOf (ps.zip us) fun _ => none) (cellsFrom (s.heap.objs.size + 1) scope.names []) (bindC (envOfC qual scope s.heap.objs.size f cd).kindOf (ps.zip us) fun _ => none) s1) :
    Inv (cxQ P w K mg base N qual scope f cd A outer s H E) [] (start N vs) H s1 := by
  have e1 : Env0 P w K mg base { A with handled := none } outer s H := ⟨e0.frames, e0.mod, e0.bs, e0.bsz, e0.funs, e0.frf, e0.hok, e0.bare⟩
  have I := inv_start (CX := CX0) (E := E) (qual := qual) (f := f) (cd := cd) S (A := { A with handled := none }) rfl e1 hl r x
  exact ⟨⟨I.ok.mod, I.ok.kind, I.ok.glob, I.ok.blt, I.ok.above, I.ok.inj, I.ok.has, I.ok.cab, fun z => (by cases z), I.ok.frames, I.ok.stk, I.ok.exf, I.ok.bs, I.ok.bsz, I.ok.noex, I.ok.exfs, I.ok.funs, I.ok.frf⟩, I.os, I.bare, I.base, I.loc, I.cell, I.free, I.freeC, I.pin, I.hok, I.len⟩
theorem fn_ofQ {P : Program} {w : World} {K : PySem.W.Frag} {mg : Str → Option Value} {base : Heap} {k : Nat} {f : Addr} {name qual : Str} {params : Arguments} {body : List Stmt} {scope : Scope} {dV kV doc pm cdv ct oc : Value} {an od : Option Addr}
    {osl : Array (Option Value)} {N ps : List Str} {sp : Sp} (lk : K.lookup f = some ⟨oc, od, .func (PySem.W.fnOf name qual params body scope dV kV doc pm an cdv ct), osl⟩) (hcd : PySem.W.codeIn K cdv qual = true) (S : FnScope N ps scope)
    (len : ∀ vs H Q E, sp vs H Q E → vs.length = ps.length)
    (hbody : ∀ (A : Around) (outer : List Env) (s : Shared) (H : Hp) (vs : List V) (Q : VK) (E : XK), RoomQ k (A.deeper (envOfC qual scope s.heap.objs.size f cdv)) → sp vs H Q E →
      ∃ t, PSs (cxQ P w K mg base N qual scope f cdv A outer s H E) body t ∧ t { nx := fun _ H' => Q .non H', rt := Q } (start N vs) H) :
    FnOkQ P w K mg base (k + 1) f (PySem.W.fnOf name qual params body scope dV kV doc pm an cdv ct) ps sp := by
  refine ⟨len, fun A outer s H args us vs Q E hr e0 hb r hsp => ?_⟩
  have hl := len _ _ _ _ hsp
  have KX : K.In s.heap := e0.mod.kin.keeps fun b o e => (e0.bs b o e).1
  have lim : s.heap.NoLimit := e0.mod.nolimit.keeps fun b o e => (e0.bs b o e).1
  have hkind : ∀ y ∈ ps.zip us, scope.names.lookup y.1 = some .local ∨ (scope.names.lookup y.1 = some .cell ∧ ((cellsFrom (s.heap.objs.size + 1) scope.names []).lookup y.1).isSome = true) := fun ⟨n, v⟩ hy => by
    rcases S.par n (List.of_mem_zip hy).1 with q | q
    · exact .inl q
    · exact .inr ⟨q, PySem.W.cellsFrom_some _ _ _ (.inl q)⟩
  refine codeAny_call_function hr.depth (KX _ _ lk) rfl S.co S.gen rfl (PySem.W.codeRec_of KX hcd) (hb _ _ _ _ ?_)
  refine wpAny_newFunctionEnv_cells S.kind hkind fun env he s1 x => ?_
  subst he
  refine ⟨lim.keeps x.toInCall.keep, codeAny_func ?_⟩
  obtain ⟨t, ht, hq⟩ := hbody A outer s H vs Q E (hr.deeper _) hsp
  have I : Inv (cxQ P w K mg base N qual scope f cdv A outer s H E) [] (start N vs) H s1 := inv_startQ S e0 hl r x
  refine wpAny_mono (ht [] s1 (start N vs) H _ I hq) (fun fl s' hs => ?_) fun e s' hs => hs
  have fin : ∀ {σ' : L2.St} {H' : Hp} {v : V} {u : Value}, Inv (cxQ P w K mg base N qual scope f cdv A outer s H E) [] σ' H' s' → RelV v u → Q v H' → CE outer P w H s Q u s' :=
    fun {σ' H' v u} J rv q => ⟨v, H', J.os, J.bare, J.base, J.hok, rv, q⟩
  cases fl with
  | ret u =>
    obtain ⟨v, σ', H', J, rv, q⟩ := hs
    exact fin J rv q
  | next =>
    obtain ⟨σ', H', J, q⟩ := hs
    exact fin (v := V.non) (u := Value.none) J rfl q
  | brk =>
    obtain ⟨_, _, _, q⟩ := hs
    exact False.elim q
  | cont =>
    obtain ⟨_, _, _, q⟩ := hs
    exact False.elim q
section
variable {X : Cx} {pins : List (Addr × Obj)} {σ : L2.St} {H : Hp} {s : Shared} {k : Nat} {f : Addr} {fd : FuncData} {ps : List Str} {sp : Sp}
theorem run_fnQ {Q : VK} {E' : Value → Shared → Prop} {us : List Value} {vs : List V} (F : FnOkQ X.prog X.w X.K X.mg X.base k f fd ps sp) (hr : RoomQ k X.A) (hb : Binds X.K fd ps []) (J : Inv X pins σ H s) (r : Vals vs us) (h : sp vs H Q (fun _ _ _ => False)) :
    wpAny (model X.prog X.w) X.A (PySem.call (.ref f) us) (EP X pins σ Q) E' s := by
  have hl : us.length = ps.length := by
    rw [← r.length]
    exact F.len _ _ _ _ h
  have hb' := hb s us J.kIn (by rw [List.append_nil]; exact hl)
  rw [List.append_nil] at hb'
  refine wpAny_call (codeAny_mono (F.run X.A X.stack s H ⟨us, []⟩ us vs Q (fun _ _ _ => False) hr J.env0 hb' r h) fun rr s' q => ?_)
  cases rr with
  | error e => exact False.elim q
  | ok fl =>
    cases fl with
    | ret u => exact J.after q
    | next => exact q.elim
    | brk => exact q.elim
    | cont => exact q.elim
end
end XC
namespace XC
open PySem PySem.Spec PyProof.Rows L2 My D3
structure HasQ (P : Program) (w : World) (K : PySem.W.Frag) (mg : Str → Option Value) (base : Heap) (n : Nat) (x : Str) (ps : List Str) (sp : Sp) : Prop where
  ex : ∃ (f : Addr) (fd : FuncData), FnOkQ P w K mg base n f fd ps sp ∧ Binds K fd ps [] ∧ PySem.W.keepIn K (.ref f) = true ∧ mg x = some (.ref f)
section
variable {P : Program} {w : World} {K : PySem.W.Frag} {mg : Str → Option Value} {base : Heap} {x : Str} {ps N : List Str} {st : Stmt} {k n : Nat} {fs : FS} {fl : List Fl}
theorem fun_okQ {f : Addr} {fd : FuncData} (Fn : FunD K x st f fd) (S : FnScope N ps (defScope st)) (hp : ∀ i, i < ps.length → fl[i]? = some .A) (hN : ps.length ≤ N.length)
    (hbody : ∀ (f : Addr) (cdv : Value) (A : Around) (outer : List Env) (s : Shared) (H : Hp) (E : XK), RoomQ k (A.deeper (envOfC x (defScope st) s.heap.objs.size f cdv)) → DSs (cxQ P w K mg base N x (defScope st) f cdv A outer s H E).nox fl (defBody st) fs) :
    FnOkQ P w K mg base (k + 1) f fd ps (spD K (fnD ps.length (N.length - ps.length) fs)) := by
  obtain ⟨oc, od, dV, kV, doc, pm, an, cdv, ct, osl, rfl, lk, hcd⟩ := Fn.ex
  refine fn_ofQ lk hcd S (fun vs H Q E h => ?_) fun A outer s H vs Q E hr h => ?_
  · obtain ⟨ds, d, r, hf, _⟩ := h
    unfold fnD at hf
    by_cases z : ds.length = ps.length
    · rw [r.2.length]; exact z
    · rw [if_neg z] at hf; cases hf
  · obtain ⟨ds, d, r, hf, q⟩ := h
    refine ⟨_, (hbody f cdv A outer s H E hr).nox, ?_⟩
    unfold fnD at hf
    by_cases z : ds.length = ps.length
    · rw [if_pos z] at hf
      split at hf
      · next d' e =>
        cases hf
        exact ⟨_, _, _, _, rel_start ps.length hp z hN r, e, fun v H' s r => q v H' s r⟩
      · next δ' e =>
        cases hf
        exact ⟨_, _, _, _, rel_start ps.length hp z hN r, e, fun ow' σ' H' R' => q .non H' R'.same0 .non⟩
      · cases hf
    · rw [if_neg z] at hf; cases hf
theorem dg_okQ (Dd : Dg K mg x st ps) (S : FnScope N ps (defScope st)) (hp : ∀ i, i < ps.length → fl[i]? = some .A) (hN : ps.length ≤ N.length)
    (hbody : ∀ (f : Addr) (cdv : Value) (A : Around) (outer : List Env) (s : Shared) (H : Hp) (E : XK), RoomQ k (A.deeper (envOfC x (defScope st) s.heap.objs.size f cdv)) → DSs (cxQ P w K mg base N x (defScope st) f cdv A outer s H E).nox fl (defBody st) fs) :
    HasQ P w K mg base (k + 1) x ps (spD K (fnD ps.length (N.length - ps.length) fs)) := by
  obtain ⟨f, fd, Fn, b, m⟩ := Dd.ex
  exact ⟨f, fd, fun_okQ Fn S hp hN hbody, b, Fn.kp, m⟩
end
section
variable {X : Cx} {fl : List Fl} {e : Expr} {es : List Expr} {t : TA} {fa : FA} {pos p : Pos} {x : Str} {n : Nat} {ps : List Str} {sp : Sp} {F : List D → Option D}
theorem pe_callQ (h : HasQ X.prog X.w X.K X.mg X.base n x ps sp) (hr : RoomQ n X.A) (ha : PA X (e :: es) t) (hg : Gl X x := by rfl) (hdb : (x == ("__debug__" : Str)) = false := by decide)
    (he : starEach (e :: es) X.env = (false, eval e X.env) :: starEach es X.env := by rfl) (hpl : (backTo pos (starEach es X.env)).any (·.1) = false := by rfl) :
    PE X (.Call (.Name x p) (e :: es) [] pos) (fun σ H Q => t σ H fun vs H1 => sp vs H1 Q (fun _ _ _ => False)) := by
  obtain ⟨f, fd, F, b, kp, m⟩ := h.ex
  intro pins s σ H Q J hh
  refine wpAny_Call_Name_kw (ld_glob J hg m ?_ hdb)
  refine PySem.W.callWith_K (h₀ := X.base) J.ok.mod.kin kp (thn (ha pos pins s σ H _ J hh) fun us s1 q => ?_) he hpl
  obtain ⟨vs, H1, J1, r, q⟩ := q
  exact ⟨J1.kIn, run_fnQ F hr b J1 r q⟩
end
end XC
namespace XC
open PySem PySem.Spec PyProof.Rows L2 My D3
structure ExA (K : PySem.W.Frag) (C : Addr) : Prop where
  ga : PySem.W.findIn K (.ref C) "__getattribute__" = some (some (.builtin "BaseException.__getattribute__"))
  gh : PySem.W.findIn K (.ref C) "__getattr__" = some none
  hb : PySem.W.mroIn K C (.type "BaseException") = some true
section
variable {prog : Program} {w : World} {A : Around} {E : Value → Shared → Prop} {s : Shared} {K : PySem.W.Frag} {x C : Addr} {ox : Obj} {od : Option Obj} {name : Str} {v : Value}
theorem exa_check {M : Model} {nameV : Value} {Q : Unit → Shared → Prop} (N : ExA K C) (X : K.In s.heap) (I : PySem.W.InstAt s.heap x ox C od) (hq : Q () s) : wpAny M A (checkBuiltinCall "BaseException.__getattribute__" ⟨[.ref x, nameV], []⟩) Q E s := by
  have hk : builtinKind "BaseException.__getattribute__" = some .slot := by decide +kernel
  have hsplit : splitId "BaseException.__getattribute__" = some ("BaseException", "__getattribute__") := by decide +kernel
  have ha := PySem.F.args_bexc_ga (.ref x) nameV
  obtain ⟨hh, g, d, t, os⟩ := s
  have L0 := I.type (M := M)
  have L1 := PySem.W.looks_mroIn (M := M) X N.hb
  simp only [checkBuiltinCall, hk, hsplit]
  refine wpAny_bind ?_
  unfold isInstance
  repeat (first | (with_reducible refine L0.at ?_) | (with_reducible refine L1.at ?_) | wp_step)
  exact hq
theorem exa_val {tk : Tok} {Q : Fin → Shared → Prop} (X : K.In s.heap) (I : PySem.W.InstAt s.heap x ox C od) (hf : PySem.W.findObj K C od name = some (.value v)) (hq : Q (.done (.ret v)) s) :
    wpAny (model prog w) A (Builtin.«object.__getattribute__» ⟨[.ref x, .str name tk], []⟩) Q E s := by
  obtain ⟨hh, g, d, t, os⟩ := s
  have L0 := I.type (M := model prog w)
  have L1 := PySem.W.looks_find (M := model prog w) X I hf
  unfold Builtin.«object.__getattribute__»
  refine wpAny_bind ?_
  refine wpAny_pure ?_
  refine wpAny_bind (wpAny_pure (wpAny_bind (L0.at (wpAny_bind (L1.at ?_)))))
  exact wpAny_pure hq
theorem exa_cls {tk : Tok} {Q : Fin → Shared → Prop} (X : K.In s.heap) (I : PySem.W.InstAt s.heap x ox C od) (hm : PySem.W.mroIn K C (.type "object") = some true)
    (hf : PySem.W.findObj K C od name = some (.bind (.builtin "getset_descriptor.__get__") (.builtin "object.__class__"))) (hq : Q (.done (.ret (.ref C))) s) :
    wpAny (model prog w) A (Builtin.«object.__getattribute__» ⟨[.ref x, .str name tk], []⟩) Q E s := by
  obtain ⟨hh, g, d, t, os⟩ := s
  have L0 := I.type (M := model prog w)
  have L1 := PySem.W.looks_find (M := model prog w) X I hf
  unfold Builtin.«object.__getattribute__»
  refine wpAny_bind ?_
  refine wpAny_pure ?_
  refine wpAny_bind (wpAny_pure (wpAny_bind (L0.at (wpAny_bind (L1.at ?_)))))
  show wpAny _ _ (holding [.builtin "object.__class__"] (PySem.call (.builtin "getset_descriptor.__get__") [.builtin "object.__class__", .ref x, .ref C]) >>= ret) _ _ _
  refine wpAny_bind (wpAny_holding (wpAny_call (PySem.W.class_get (s := ⟨hh, g, d, t, os⟩) (ox := ox) (od := od) X I hm ?_)))
  exact wpAny_pure hq
theorem exa_by {nameV : Value} {fill expr : Bool} {Q : Value → Shared → Prop} (N : ExA K C) (X : K.In s.heap) (I : PySem.W.InstAt s.heap x ox C od) (hh : PySem.W.handedIn v = true)
    (he : ∀ {A : Around} {E : Value → Shared → Prop} {Q : Fin → Shared → Prop}, Q (.done (.ret v)) s → wpAny (model prog w) A (Builtin.«object.__getattribute__» ⟨[.ref x, nameV], []⟩) Q E s) (hq : Q v s) :
    wpAny (model prog w) A (getAttrBy (.ref x) nameV fill expr) Q E s := by
  obtain ⟨h0, g, d, t, os⟩ := s
  have L0 := I.type (M := model prog w)
  have L1 := PySem.W.looks_findIn (M := model prog w) X N.ga
  have L2 := PySem.W.looks_findIn (M := model prog w) X N.gh
  have f3 := PySem.F.attr_ValueError.ga.bind (.ref x)
  have hx0 : (expr && onTheHeap (Value.builtin "BaseException.__getattribute__")) = false := by cases expr <;> rfl
  have hx2 : (Value.builtin "BaseException.__getattribute__" == Value.builtin "object.__getattribute__") = false := by decide +kernel
  have hx1 : (onTheHeap (Value.ref C) && Value.builtin "BaseException.__getattribute__" == Value.builtin "object.__getattribute__") = false := by rw [hx2]; rfl
  repeat (any_goals (first | assumption | (with_reducible refine L0.at ?_) | (with_reducible refine L1.at ?_) | (with_reducible refine L2.at ?_) | wp_step))
  refine codeAny_call_builtin PySem.F.attr_ValueError.ga.plain PySem.F.entry_bexc_ga (exa_check (s := ⟨h0, g, d, t, os⟩) N X I (he ?_))
  repeat (any_goals (first | assumption | (with_reducible exact PySem.W.handed_on hh hq) | wp_step))
theorem exa_attr {expr : Bool} {Q : Value → Shared → Prop} (N : ExA K C) (X : K.In s.heap) (I : PySem.W.InstAt s.heap x ox C od) (hf : PySem.W.findObj K C od name = some (.value v)) (hh : PySem.W.handedIn v = true) (hq : Q v { s with toks := s.toks + 1 }) :
    wpAny (model prog w) A (getAttr (.ref x) name expr) Q E s := by
  obtain ⟨h0, g, d, t, os⟩ := s
  unfold getAttr
  refine wpAny_bind (wpAny_mkText ?_)
  exact exa_by (s := ⟨h0, g, d, t + 1, os⟩) N X I hh (fun z => exa_val (s := ⟨h0, g, d, t + 1, os⟩) X I hf z) hq
theorem exa_class {Q : Option Value → Shared → Prop} (N : ExA K C) (X : K.In s.heap) (I : PySem.W.InstAt s.heap x ox C od) (hm : PySem.W.mroIn K C (.type "object") = some true)
    (hf : PySem.W.findObj K C od "__class__" = some (.bind (.builtin "getset_descriptor.__get__") (.builtin "object.__class__"))) (hq : Q (some (.ref C)) { s with toks := s.toks + 1 }) :
    wpAny (model prog w) A (getAttr? (.ref x) "__class__") Q E s := by
  obtain ⟨h0, g, d, t, os⟩ := s
  unfold getAttr? getAttrBy?
  refine wpAny_bind (wpAny_mkText (wpAny_bind (wpAny_attempt ?_)))
  refine exa_by (s := ⟨h0, g, d, t + 1, os⟩) N X I rfl (fun z => exa_cls (s := ⟨h0, g, d, t + 1, os⟩) X I hm hf z) ?_
  exact wpAny_pure hq
theorem kitx_exc {x D : Addr} {ox od : Obj} (N : ExA K D) (hdct : PySem.W.hasDictIn K D = true) (ha : PySem.W.findIn K (.ref D) "__class__" = some (some (.builtin "object.__class__")))
    (hn : PySem.W.specialIn K (.builtin "object.__class__") "__get__" = some (some (.builtin "getset_descriptor.__get__"))) (htk : PySem.W.takesIn K (.builtin "object.__class__") = some true) (hm : PySem.W.mroIn K D (.type "object") = some true) :
    PySem.W.KitX K (.ref x) (.ref D) (fun h => PySem.W.InstAt h x ox D (some od)) where
  ty := fun _ _ _ I => I.type
  it := fun _ _ X _ => by
    obtain ⟨cdD, hcD, _⟩ := PySem.W.any_some hdct
    unfold PySem.W.clsIn at hcD
    split at hcD
    · rename_i c' d' cd' sl' ho
      intro A' Q' E' s' k q
      unfold isType loadHead
      exact wpAny_bind (wpAny_loadPart (k _ _ (X _ _ ho)) (wpAny_pure q))
    · cases hcD
  ne := fun h tp dd its n sl X htp => by
    obtain ⟨cdD, hcD, _⟩ := PySem.W.any_some hdct
    refine Bool.eq_false_iff.mpr fun q => ?_
    have e : D = tp := Value.ref.inj (beq_iff_eq.mp q)
    subst e
    unfold PySem.W.clsIn at hcD
    split at hcD
    · rename_i c' d' cd' sl' ho
      have z := (X _ _ ho).symm.trans htp
      cases z
    · cases hcD
  ca := fun X I k => exa_class N X I hm (PySem.W.findObj_data (by obtain ⟨cd, hc, _⟩ := PySem.W.any_some hdct; rw [hc]; rfl) ha hn htk) k
end
end XC
namespace XC
open PySem PySem.Spec PyProof.Rows L2 My D3
structure AttE (K : PySem.W.Frag) (C : Addr) (f : Str) : Prop where
  ea : ExA K C
  hd : PySem.W.hasDictIn K C = true
  no : PySem.W.findIn K (.ref C) f = some none
section
variable {X : Cx} {a C D dx : Addr} {oa od : Obj} {u : Value} {v : V} {f n : Str} {i : Nat} {p1 pos : Pos}
theorem att_e (N : AttE X.K C f) (hoa : oa.cls = .ref C) (hod : oa.dict = some dx) (hnc : PySem.W.notCls oa = true) (hdx : ∀ h : Heap, h.get? dx = some od → h.Ns1 dx (fun z => if z = f then some u else none)) (rv : RelV v u)
    (hi : X.N[i]? = some n) (hv : Vis X.env.scope n) (hdn : (n == ("__debug__" : Str)) = false := by decide) (hcn : (n == ("__classdict__" : Str)) = false := by decide) (hb : attributeBase (.Name n p1) f X.env (eval (.Name n p1) X.env) = eval (.Name n p1) X.env := by rfl) :
    PE (suiteCx X a oa dx od) (.Attribute (.Name n p1) f pos) (fun σ H Q => σ[i]? = some (some (.ref a)) ∧ Q v H) := by
  intro pins s σ H Q I h
  refine attr_of hb (thn ((pe_var (X := suiteCx X a oa dx od) hi hv hdn hcn) pins s σ H (fun x H1 => x = .ref a ∧ Q v H1) I ⟨_, h.1, rfl, h.2⟩) fun w s1 ⟨x, H1, I1, rx, ex, q⟩ => ?_)
  subst ex
  cases rx
  have ha := (I1.pin (a, oa) (List.mem_append_left _ (List.mem_append_right _ List.mem_cons_self))).1
  have hd := (I1.pin (dx, od) (List.mem_append_left _ (List.mem_append_right _ (List.mem_cons_of_mem _ List.mem_cons_self)))).1
  obtain ⟨od', e1, e2⟩ := lookIn_ns (hdx _ hd)
  rw [hd] at e1
  cases e1
  refine exa_attr (ox := oa) (od := some od) N.ea I1.kIn ⟨ha, hoa, hnc, ?_⟩ (PySem.W.findObj_own N.hd N.no rfl (by rw [e2, if_pos rfl])) (handed_of rv) ⟨v, H1, I1.tok _, rv, q⟩
  rw [hod]
  exact hd
end
end XC
namespace XC
open PySem PySem.Spec PyProof.Rows L2 My D3
structure KitE (K : PySem.W.Frag) (C : Addr) : Prop where
  ea : ExA K C
  hd : PySem.W.hasDictIn K C = true
  fd : PySem.W.findIn K (.ref C) "__class__" = some (some (.builtin "object.__class__"))
  sp : PySem.W.specialIn K (.builtin "object.__class__") "__get__" = some (some (.builtin "getset_descriptor.__get__"))
  tk : PySem.W.takesIn K (.builtin "object.__class__") = some true
  mr : PySem.W.mroIn K C (.type "object") = some true
theorem vals_refs : ∀ {Ds : List Addr} {us : List Value}, Vals (Ds.map V.ref) us → us = Ds.map Value.ref
  | [], _, h => by cases h; rfl
  | D :: Ds, _, h => by
    cases h with
    | cons h1 h2 =>
      cases h1
      rw [vals_refs h2]
      rfl
section
variable {X : Cx} {a C D dx : Addr} {oa od : Obj} {b : Bool}
theorem inst_e {pins : List (Addr × Obj)} {σ : L2.St} {H : Hp} {s : Shared} (I : Inv (suiteCx X a oa dx od) pins σ H s) (hoa : oa.cls = .ref C) (hod : oa.dict = some dx) (hnc : PySem.W.notCls oa = true) : PySem.W.InstAt s.heap a oa C (some od) := by
  have ha := (I.pin (a, oa) (List.mem_append_left _ (List.mem_append_right _ List.mem_cons_self))).1
  have hd := (I.pin (dx, od) (List.mem_append_left _ (List.mem_append_right _ (List.mem_cons_of_mem _ List.mem_cons_self)))).1
  refine ⟨ha, hoa, hnc, ?_⟩
  rw [hod]
  exact hd
theorem call_isT (N : KitE X.K C) (hoa : oa.cls = .ref C) (hod : oa.dict = some dx) (hnc : PySem.W.notCls oa = true) : CallR (suiteCx X a oa dx od) (.builtin "isinstance") (fun xs H Q => ∃ (tp : Addr) (Ds : List Addr), xs = [.ref a, .ref tp] ∧ H tp = some (.tup (Ds.map V.ref)) ∧ PySem.W.kitAny X.K (.ref C) (Ds.map Value.ref) = some b ∧ Q (.bl b) H) := by
  intro pins s σ H xs us Q I r h
  obtain ⟨tp, Ds, rfl, ht, e, q⟩ := h
  obtain ⟨u1, u2, rfl, r1, r2⟩ : ∃ u1 u2, us = [u1, u2] ∧ RelV (.ref a) u1 ∧ RelV (.ref tp) u2 := by
    cases r with
    | cons r1 r => cases r with
      | cons r2 r => cases r; exact ⟨_, _, rfl, r1, r2⟩
  cases r1; cases r2
  obtain ⟨_, its, rv, o, ho, hc, hd⟩ := (show ObjOk (suiteCx X a oa dx od).prog (suiteCx X a oa dx od).w H s.heap tp (.tup (Ds.map V.ref)) from I.hok tp _ ht)
  obtain rfl := vals_refs rv
  obtain ⟨oc, odi, oda, osl⟩ := o
  dsimp only at hc hd
  subst hc
  obtain ⟨nn, rfl⟩ := hd
  exact PySem.W.kia_tup (kitx_exc (ox := oa) (od := od) N.ea N.hd N.fd N.sp N.tk N.mr) I.kIn (inst_e I hoa hod hnc) ho e (fun z => nomatch z) fun tk => ⟨.bl b, H, I.tok _, rfl, q⟩
end
end XC
namespace XC
open PySem PySem.Spec PyProof.Rows L2 My D3
theorem set_non {δ : DS} {i j : Nat} {x : U} (h : (δ.set i none)[j]? = some (some x)) : j ≠ i ∧ δ[j]? = some (some x) := by
  by_cases e : j = i
  · subst e
    by_cases l : j < δ.length
    · rw [List.getElem?_set_self l] at h; cases h
    · rw [List.getElem?_eq_none (by rw [List.length_set]; omega)] at h; cases h
  · rw [List.getElem?_set_ne (Ne.symm e)] at h
    exact ⟨e, h⟩
theorem Rel.forget {K : PySem.W.Frag} {fl : List Fl} {G : Gh} {ow : Ow} {σ : L2.St} {H : Hp} {δ : DS} {i : Nat} {x : Option V} (R : Rel K fl G ow σ H δ) (hfl : fl[i]? = some .A) : Rel K fl G ow (σ.set i x) H (δ.set i none) := by
  have no : ∀ a, ow i ≠ some a := fun a z => by
    obtain ⟨_, hz, _⟩ := R.own i a z
    rw [hfl] at hz
    rcases hz with ⟨z, _⟩ | ⟨z, _⟩ <;> cases z
  refine ⟨R.s0, R.s1, by rw [List.length_set, List.length_set]; exact R.len, fun j a h => ?_, R.inj, R.pin, fun j d' h1 hn h2 => ?_, fun j d' h1 hn h2 h3 => ?_, R.nt, R.nd, R.ns, R.np, fun j d' hn h1 => ?_⟩
  · have hj : j ≠ i := fun z => no a (z ▸ h)
    obtain ⟨h0, hf, xs, ds, h1, h2, h3, h4⟩ := R.own j a h
    exact ⟨h0, hf, xs, ds, by rw [List.getElem?_set_ne (Ne.symm hj)]; exact h1, h2, h3, by rw [List.getElem?_set_ne (Ne.symm hj)]; exact h4⟩
  · obtain ⟨hj, e⟩ := set_non h1
    obtain ⟨v', h3, h4⟩ := R.dat j d' e hn h2
    exact ⟨v', by rw [List.getElem?_set_ne (Ne.symm hj)]; exact h3, h4⟩
  · obtain ⟨hj, e⟩ := set_non h1
    exact R.oo j d' e hn h2 h3
  · obtain ⟨hj, e⟩ := set_non h1
    obtain ⟨v', h3, h4⟩ := R.nr j d' hn e
    exact ⟨v', by rw [List.getElem?_set_ne (Ne.symm hj)]; exact h3, h4⟩
def tEt (i : Nat) (a : Addr) (b : Bool) : TE := fun σ H Q => σ[i]? = some (some (.ref a)) ∧ ∀ H', Same H H' → Q (.bl b) H'
section
variable {X S : Cx} {a C I0 D dx : Addr} {oa od : Obj} {u : Value} {v : V} {f n cn : Str} {i j : Nat} {p p1 p2 pos : Pos} {cond a1 b1 : Expr} {rest es : List Expr} {b : Bool} {k : Nat}
theorem et_ise (h : IsE S i a cond) : PE S cond (tEt i a true) := PE.imp h fun σ H Q z => ⟨z.1, z.2 H (Same.refl H)⟩
theorem et_and (h1 : PE S a1 (tEt i a true)) (h2 : PE S (.BoolOp .And (b1 :: rest) pos) (tEt i a b)) : PE S (.BoolOp .And (a1 :: b1 :: rest) pos) (tEt i a b) :=
  PE.imp (pe_and h1 h2) fun σ H Q h => ⟨h.1, fun H1 s1 => ⟨true, rfl, iteT ⟨h.1, fun H2 s2 => h.2 H2 (s1.trans s2)⟩⟩⟩
theorem et_one (h1 : PE S a1 (tEt i a b)) : PE S (.BoolOp .And [a1] pos) (tEt i a b) := pe_one h1
theorem et_not (h1 : PE S a1 (tEt i a b)) : PE S (.UnaryOp .Not a1 pos) (tEt i a (!b)) := PE.imp (pe_not h1) fun σ H Q h => ⟨h.1, fun H1 s1 => ⟨b, rfl, h.2 H1 s1⟩⟩
theorem et_tup {Ds : List Addr} {x1} (N : KitE X.K C) (hk : PySem.W.kitAny X.K (.ref C) (Ds.map Value.ref) = some b) (hoa : oa.cls = .ref C) (hod : oa.dict = some dx) (hnc : PySem.W.notCls oa = true) (hes : PA (suiteCx X a oa dx od) es (fun _ H Q => Q (Ds.map V.ref) H)) (hl : Ds.length ≤ sizeLine)
    (hgi : Gl X "isinstance") (hmi : X.mg "isinstance" = none) (hi : X.N[i]? = some n) (hv : Vis X.env.scope n) (hdn : (n == ("__debug__" : Str)) = false := by decide) (hcn : (n == ("__classdict__" : Str)) = false := by decide) :
    PE (suiteCx X a oa dx od) (.Call (.Name "isinstance" p) [.Name n p1, .Tuple es x1 p2] [] pos) (tEt i a b) :=
  PE.imp (pe_callB (X := suiteCx X a oa dx od) (call_isT (b := b) N hoa hod hnc) hgi hmi boot_isinstance (pa_cons (pe_var (X := suiteCx X a oa dx od) hi hv hdn hcn) (pa_cons (pe_tup hes) pa_nil (by exact star_of rfl)) (by exact star_of rfl)) (by decide) (by decide) (by exact star_of rfl) (by exact pl_of rfl)) fun σ H Q h => by
    refine ⟨_, h.1, ?_⟩
    show _ ∧ _
    refine ⟨by rw [List.length_map]; exact hl, fun q hq => ?_⟩
    exact ⟨q, Ds, rfl, upd_same, hk, h.2 _ (same_new hq _)⟩
end
end XC
namespace XC
open PySem PySem.Spec PyProof.Rows L2 My D3
structure SuiG (K : PySem.W.Frag) (mg : Str → Option Value) (fld : Addr → Str) (cn f ic n1 n2 n3 : Str) : Prop where
  ex : ∃ C I D1 D2 D3, Exc K mg cn f C I ∧ fld C = f ∧ mg ic = some (.ref I) ∧ KitE K C ∧ AttE K C f ∧ mg n1 = some (.ref D1) ∧ mg n2 = some (.ref D2) ∧ mg n3 = some (.ref D3) ∧ PySem.W.kitAny K (.ref C) [.ref D1, .ref D2, .ref D3] = some false
theorem suiG_mk {K : PySem.W.Frag} {mg : Str → Option Value} {fld : Addr → Str} {cn f ic n1 n2 n3 : Str} {C I D1 D2 D3 : Addr} (E : Exc K mg cn f C I) (hf : fld C = f) (m : mg ic = some (.ref I)) (k : KitE K C) (a : AttE K C f) (m1 : mg n1 = some (.ref D1)) (m2 : mg n2 = some (.ref D2)) (m3 : mg n3 = some (.ref D3)) (ka : PySem.W.kitAny K (.ref C) [.ref D1, .ref D2, .ref D3] = some false) : SuiG K mg fld cn f ic n1 n2 n3 :=
  ⟨C, I, D1, D2, D3, E, hf, m, k, a, m1, m2, m3, ka⟩
theorem SuiG.up {K : PySem.W.Frag} {mg : Str → Option Value} {fld : Addr → Str} {cn f ic n1 n2 n3 : Str} (h : SuiG K mg fld cn f ic n1 n2 n3) : ExcG K mg fld cn f ic := by
  obtain ⟨C, I, _, _, _, E, hf, m, _⟩ := h.ex
  exact ⟨C, I, E, hf, m⟩
theorem Room.q {k : Nat} {A : Around} {o : Option Value} (r : Room k A) : RoomQ k (A.mark o) := ⟨r.dp, r.un⟩
section
variable {X : Cx} {fl : List Fl} {fld : Addr → Str} {c f ic n1 n2 n3 n y g s0 s1 : Str} {gp : List Str} {i j k : Nat} {W : List D → Option D} {rowE : Expr} {fr : FE}
variable {yp ap spos a1 a2 a3 a4 a5 a6 a7 a8 a9 b1 b2 b3 b4 b5 b6 b7 q0 q1 q2 q3 q4 q5 q6 q7 q8 q9 q10 q11 q12 q13 q14 rpos : Pos} {x1 j0 j1 : Nat}
theorem suite_x (Z : SuiG X.K X.mg fld c f ic n1 n2 n3) (hq : HasQ X.prog X.w X.K X.mg X.base k g gp (spD X.K W)) (hr : Room k X.A) (hrow : ∀ a oa dx od, DE (suiteCx X a oa dx od) fl .P rowE fr)
    (hmi : X.mg "isinstance" = none) (hmt : X.mg "int" = none) (hmv : X.mg "ValueError" = none) (hi : X.N[i]? = some n) (hj : X.N[j]? = some y) (hfi : fl[i]? = some .A) (hfj : fl[j]? = some .A) (hij : i ≠ j) (hN : X.N.Nodup)
    (hv : Vis X.env.scope n := by first | exact Or.inl rfl | exact Or.inr (Or.inl rfl) | exact Or.inr (Or.inr rfl)) (hvy : Vis X.env.scope y := by first | exact Or.inl rfl | exact Or.inr (Or.inl rfl) | exact Or.inr (Or.inr rfl)) (hly : Loc X.env.scope y := by first | exact Or.inl rfl | exact Or.inr rfl)
    (hgi : Gl X "isinstance" := by rfl) (hgt : Gl X "int" := by rfl) (hgv : Gl X "ValueError" := by rfl) (hgc : Gl X c := by rfl) (hg1 : Gl X n1 := by rfl) (hg2 : Gl X n2 := by rfl) (hg3 : Gl X n3 := by rfl) (hgg : Gl X g := by rfl)
    (hdc : (c == ("__debug__" : Str)) = false := by decide) (hd1 : (n1 == ("__debug__" : Str)) = false := by decide) (hd2 : (n2 == ("__debug__" : Str)) = false := by decide) (hd3 : (n3 == ("__debug__" : Str)) = false := by decide) (hdg : (g == ("__debug__" : Str)) = false := by decide)
    (hdn : (n == ("__debug__" : Str)) = false := by decide) (hcn : (n == ("__classdict__" : Str)) = false := by decide) (hdy : (y == ("__debug__" : Str)) = false := by decide) (hcy : (y == ("__classdict__" : Str)) = false := by decide)
    (hsw : swapsWith (.BoolOp .And [.Call (.Name "isinstance" a1) [.Name n a2, .Name c a3] [] a4, .Call (.Name "isinstance" a5) [.Name n a6, .Name "ValueError" a7] [] a8, .UnaryOp .Not (.Call (.Name "isinstance" b1) [.Name n b2, .Tuple [.Name n1 b3, .Name n2 b4, .Name n3 b5] x1 b6] [] b7) a9] ap) (some (.Name y yp)) spos.line X.env = pure false := by rfl)
    (hyf : X.fn y = true ∨ X.env.scope.names.lookup y = some .local := by first | exact .inl rfl | exact .inr rfl)
    (hb : ∀ p1, attributeBase (.Name n p1) f X.env (eval (.Name n p1) X.env) = eval (.Name n p1) X.env := by intro _; rfl)
    (hpr : PlainIx (.Call (.Name "int" q3) [.BoolOp .And [.Name y q4, .Call (.Name g q5) [.Attribute (.Name n q6) f q7] [] q8, .Compare (.Attribute (.Name n q9) f q10) [.Eq] [rowE] q11] q12] [] q13) := by exact fun _ _ => rfl)
    (hmk : behindInMarks .Eq rowE = false := by exact nomark _) :
    Suite X fl fld ic i (.Assign [.Name y yp] (.BoolOp .And [.Call (.Name "isinstance" a1) [.Name n a2, .Name c a3] [] a4, .Call (.Name "isinstance" a5) [.Name n a6, .Name "ValueError" a7] [] a8, .UnaryOp .Not (.Call (.Name "isinstance" b1) [.Name n b2, .Tuple [.Name n1 b3, .Name n2 b4, .Name n3 b5] x1 b6] [] b7) a9] ap) spos)
      [.Return (some (.Subscript (.List [.Constant (.str s0) j0 q0, .Constant (.str s1) j1 q1] q2) (.Call (.Name "int" q3) [.BoolOp .And [.Name y q4, .Call (.Name g q5) [.Attribute (.Name n q6) f q7] [] q8, .Compare (.Attribute (.Name n q9) f q10) [.Eq] [rowE] q11] q12] [] q13) q14)) rpos] (suR W s0 s1 fr i j) c := by
  obtain ⟨C, I0, D1, D2, D3, Ex, hf, mI, Kt, At, m1, m2, m3, ka⟩ := Z.ex
  refine ⟨C, I0, I0, by rw [hf]; exact Ex, .inr rfl, mI, fun a oa dx od u v d hoa hod hnc hdx rv => ?_⟩
  have att : ∀ p1 pos, PE (suiteCx X a oa dx od) (.Attribute (.Name n p1) f pos) (fun σ H Q => σ[i]? = some (some (.ref a)) ∧ Q v H) := fun p1 pos => att_e At hoa hod hnc (by rw [hf] at hdx; exact hdx) rv hi hv hdn hcn (hb p1)
  have test := et_and (i := i) (pos := ap) (et_ise (ise_own (a := a) (oa := oa) (dx := dx) (od := od) (p := a1) (p1 := a2) (p2 := a3) (pos := a4) Ex (.inl rfl) hoa Ex.mgC hgi hmi hgc hi hv hdc hdn hcn))
    (et_and (et_ise (ise_blt (a := a) (oa := oa) (dx := dx) (od := od) (p := a5) (p1 := a6) (p2 := a7) (pos := a8) (T0 := "ValueError") Ex rfl (by decide) hoa hmv (by decide +kernel) hgi hmi hgv hi hv (by decide) (by decide) hdn hcn))
      (et_one (et_not (pos := a9) (et_tup (b := false) (p := b1) (p1 := b2) (p2 := b6) (pos := b7) (x1 := x1) (Ds := [D1, D2, D3]) Kt ka hoa hod hnc
        (pa_cons (pe_glob (X := suiteCx X a oa dx od) (v := .ref D1) (pos := b3) hg1 m1 rfl hd1) (pa_cons (pe_glob (X := suiteCx X a oa dx od) (v := .ref D2) (pos := b4) hg2 m2 rfl hd2) (pa_cons (pe_glob (X := suiteCx X a oa dx od) (v := .ref D3) (pos := b5) hg3 m3 rfl hd3) pa_nil (by exact star_of rfl)) (by exact star_of rfl)) (by exact star_of rfl)) (show 3 ≤ sizeLine by unfold sizeLine; omega) hgi hmi hi hv hdn hcn))))
  have e1 := pe_and (X := suiteCx X a oa dx od) (pos := q12) (pe_var (X := suiteCx X a oa dx od) (pos := q4) hj hvy hdy hcy) (pe_and (pe_callQ (X := suiteCx X a oa dx od) (p := q5) (pos := q8) hq (Room.q hr) (pa_cons (att q6 q7) pa_nil (by exact star_of rfl)) hgg hdg (by exact star_of rfl) (by exact pl_of rfl))
    (pe_one (pe_cmpR (pos := q11) (op_eqD (X := suiteCx X a oa dx od) hr.units) (att q9 q10) (hrow a oa dx od) hmk)))
  have e2 := pe_ix (X := suiteCx X a oa dx od) (pos := q14) ix_seq (pe_lst (X := suiteCx X a oa dx od) (pos := q2) (pa_cons (pe_str (x := s0) (j := j0) (pos := q0)) (pa_cons (pe_str (x := s1) (j := j1) (pos := q1)) pa_nil (by exact star_of rfl)) (by exact star_of rfl))) (pe_callTy (X := suiteCx X a oa dx od) (p := q3) (pos := q13) call_int1 hgt hmt boot_int (pa_cons e1 pa_nil (by exact star_of rfl)) (by decide) (by decide) (by exact star_of rfl) (by exact pl_of rfl)) hpr
  refine ⟨_, pss_cons (ps_set (X := suiteCx X a oa dx od) (pos' := yp) (pos := spos) hN hj hly test hsw hyf) (pss_one (ps_ret (pos := rpos) e2)), ?_⟩
  intro G ow δ σ H Dn r R rd hS q
  unfold suR at hS
  by_cases hl : i < δ.length ∧ j < δ.length
  case neg => rw [if_neg hl] at hS; cases hS
  rw [if_pos hl] at hS
  have li : i < σ.length := by rw [R.len]; exact hl.1
  have lj : j < (σ.set i (some (.ref a))).length := by rw [List.length_set, R.len]; exact hl.2
  have s0' : (σ.set i (some (.ref a)))[i]? = some (some (.ref a)) := List.getElem?_set_self li
  have Rf := (Rel.forget (x := some (.ref a)) R hfi).setA (i := j) (v := .bl true) (d := .bool true) hfj lj (.bl true)
  split at hS
  case h_2 => cases hS
  next z =>
    obtain rfl := RA.intE rd
    obtain ⟨w, ew, hS⟩ := bind1 hS
    refine ⟨s0', fun H1 sm1 => ?_⟩
    have a2 : ((σ.set i (some (.ref a))).set j (some (.bl true)))[i]? = some (some (.ref a)) := by rw [List.getElem?_set_ne (Ne.symm hij)]; exact s0'
    have b2 : ((σ.set i (some (.ref a))).set j (some (.bl true)))[j]? = some (some (.bl true)) := List.getElem?_set_self lj
    refine ⟨show 2 ≤ sizeLine by unfold sizeLine; omega, fun pl hp => ?_⟩
    have sl := same_new hp (.lst [V.str s0, V.str s1])
    have R2 := Rf.grow (sm1.trans sl)
    have fin : ∀ (H5 : Hp) (bb : Bool), Same (upd H1 pl (.lst [V.str s0, V.str s1])) H5 → r = .str (if bb = true then s1 else s0) → rIx X.K (.ref pl) (.int (if bb = true then 1 else 0)) H5 Dn.rt := fun H5 bb s5 er => by
      have hp5 : H5 pl = some (.lst [V.str s0, V.str s1]) := s5 _ _ upd_same
      refine .inl ⟨pl, [V.str s0, V.str s1], _, .str (if bb = true then s1 else s0), rfl, rfl, SqL.of hp5, by cases bb <;> rfl, ?_⟩
      refine q _ H5 ((R2.grow s5).same0) ?_
      rw [er]
      exact .str _
    refine ⟨_, b2, true, rfl, iteT ?_⟩
    refine ⟨a2, ⟨[.int z], w, ⟨R2.tb, .cons (.int z) .nil⟩, ew, fun v' H3 s3 r3 => ?_⟩⟩
    split at hS
    · obtain rfl := RA.blE r3
      obtain ⟨rr, er, hS⟩ := bind1 hS
      obtain ⟨qq, eq, hS⟩ := bind1 hS
      refine ⟨true, rfl, iteT ⟨a2, G, ow, _, rr, R2.grow s3, er, fun v4 H4 s4 r4 => ?_⟩⟩
      refine b_eq H4 _ _ (.int z) rr qq _ (.int z) r4 eq fun v5 hv5 r5 => ?_
      split at hS
      · obtain rfl := RA.blE r5
        cases hS
        exact .inr ⟨true, rfl, fin H4 true (s3.trans s4) rfl⟩
      · obtain rfl := RA.blE r5
        cases hS
        exact .inr ⟨false, rfl, fin H4 false (s3.trans s4) rfl⟩
      · cases hS
    · obtain rfl := RA.blE r3
      cases hS
      exact ⟨false, rfl, iteF (.inr ⟨false, rfl, fin H3 false s3 rfl⟩)⟩
    · cases hS
end
end XC
namespace XS
open PySem PySem.W PyProof.Rows
def runT {α : Type} (lt : Nat → Nat → Bool) : KasT α → α
  | .ret a => a
  | .ask i j k => runT lt (k (lt i j))
def asksR {α : Type} (n : Nat) (R : α → Prop) : KasT α → Prop
  | .ret a => R a
  | .ask i j k => i < n ∧ j < n ∧ ∀ b, asksR n R (k b)
section
variable {α β : Type} {n : Nat} {R : α → Prop} {R' : β → Prop} {lt : Nat → Nat → Bool}
theorem runT_bind (f : α → KasT β) : ∀ t : KasT α, runT lt (t.bind f) = runT lt (f (runT lt t))
  | .ret _ => rfl
  | .ask _ _ k => runT_bind f (k _)
theorem asks_bind {f : α → KasT β} (hf : ∀ a, R a → asksR n R' (f a)) : ∀ t : KasT α, asksR n R t → asksR n R' (t.bind f)
  | .ret a, h => hf a h
  | .ask _ _ k, h => ⟨h.1, h.2.1, fun b => asks_bind hf (k b) (h.2.2 b)⟩
theorem asks_run : ∀ t : KasT α, asksR n R t → R (runT lt t)
  | .ret _, h => h
  | .ask _ _ k, h => asks_run (k _) (h.2.2 _)
theorem asks_wp {cmp : Nat → Nat → (Bool → Shared → Prop) → Shared → Prop} {G : α → Shared → Prop} {s : Shared} (hc : ∀ i j C, i < n → j < n → C (lt i j) s → cmp i j C s) :
    ∀ t : KasT α, asksR n R t → G (runT lt t) s → t.kasWp cmp G s
  | .ret _, _, q => q
  | .ask _ _ k, h, q => hc _ _ _ h.1 h.2.1 (asks_wp hc (k _) (h.2.2 _) q)
end
def good (n : Nat) (p : Array Nat) : Prop := p.Perm (List.range n).toArray
section
variable {n : Nat} {p : Array Nat}
theorem good.mem (g : good n p) {x : Nat} (h : x ∈ p.toList) : x < n := by
  have : x ∈ (List.range n) := by
    have := (Array.perm_iff_toList_perm.mp g).mem_iff.mp h
    simpa using this
  exact List.mem_range.mp this
theorem good.get (g : good n p) (h0 : 0 < n) (i : Nat) : p.getD i 0 < n := by
  unfold Array.getD
  split
  · exact g.mem (by simp)
  · exact h0
theorem good.rev (g : good n p) (i j : Nat) : good n (kas_rev p i j) := (mirror_perm _ _ _ _).trans g
theorem good.bub (g : good n p) (i j : Nat) : good n (bubble p i j) := (bubble_perm _ _ _).trans g
theorem asks_asc (h0 : 0 < n) (g : good n p) : ∀ f a, asksR n (fun _ => True) (kas_asc p f a)
  | 0, a => trivial
  | f + 1, a => ⟨g.get h0 _, g.get h0 _, fun b => by
    cases b
    · exact asks_asc h0 g f (a + 1)
    · trivial⟩
theorem asks_desc (h0 : 0 < n) : ∀ f (p : Array Nat) a q, good n p → asksR n (fun r => good n r.1) (kas_desc f p a q)
  | 0, p, a, q, g => g
  | f + 1, p, a, q, g => by
    refine ⟨g.get h0 _, g.get h0 _, fun b => ?_⟩
    cases b
    · refine ⟨g.get h0 _, g.get h0 _, fun c => ?_⟩
      cases c
      · exact asks_desc h0 f p (a + 1) (q + 1) g
      · exact g
    · show asksR n _ (if q > 0 then _ else _)
      split
      · exact asks_desc h0 f _ _ _ (g.rev _ _)
      · exact asks_desc h0 f _ _ _ g
theorem asks_tail3 (h0 : 0 < n) (g : good n p) (a m : Nat) : asksR n (fun r => good n r.2) (kas_tail3 a m p) := by
  unfold kas_tail3
  refine asks_bind (R := fun _ => True) (fun c _ => ?_) _ (asks_asc h0 (g.rev _ _) _ _)
  show good n (kas_rev p 0 a)
  exact g.rev _ _
theorem asks_part (h0 : 0 < n) (g : good n p) (a m : Nat) : asksR n (fun r => good n r.2) (kas_descPart a m p) :=
  asks_bind (R := fun r => good n r.1) (fun r h => by
    split
    · exact asks_tail3 h0 (good.rev h _ _) _ _
    · exact asks_tail3 h0 h _ _) _ (asks_desc h0 _ _ _ _ g)
theorem asks_count (h0 : 0 < n) (g : good n p) (m : Nat) : asksR n (fun r => good n r.2) (kas_count m p) :=
  asks_bind (R := fun _ => True) (fun a _ => by
    split
    · exact g
    · split
      · refine ⟨g.get h0 _, g.get h0 _, fun b => ?_⟩
        cases b
        · exact asks_part h0 (g.rev _ _) _ _
        · exact g
      · exact asks_part h0 g _ _) _ (asks_asc h0 g _ _)
theorem asks_place (h0 : 0 < n) (g : good n p) (k : Nat) : ∀ f l r, asksR n (fun _ => True) (kas_place p k f l r)
  | 0, l, r => trivial
  | f + 1, l, r => by
    unfold kas_place
    split
    · trivial
    · refine ⟨g.get h0 _, g.get h0 _, fun b => ?_⟩
      cases b
      · exact asks_place h0 g k f _ _
      · exact asks_place h0 g k f _ _
theorem asks_bin (h0 : 0 < n) : ∀ f (p : Array Nat) k, good n p → asksR n (good n) (kas_bin f p k)
  | 0, p, k, g => g
  | f + 1, p, k, g => asks_bind (R := fun _ => True) (fun l _ => asks_bin h0 f _ _ (g.bub _ _)) _ (asks_place h0 g k _ _ _)
theorem asks_sort (h0 : 0 < n) : asksR n (good n) (kas_sort n) :=
  asks_bind (R := fun r => good n r.2) (fun r h => by
    split
    · exact asks_bin h0 _ _ _ h
    · exact h) _ (asks_count h0 (Array.Perm.refl _) n)
end
def ordT (n : Nat) (lt : Nat → Nat → Bool) : List Nat := (runT lt (kas_sort n)).toList
theorem ord_perm {n : Nat} (h0 : 0 < n) (lt : Nat → Nat → Bool) : (ordT n lt).Perm (List.range n) := by
  have : good n (runT lt (kas_sort n)) := asks_run _ (asks_sort h0)
  have := Array.perm_iff_toList_perm.mp this
  simpa [ordT] using this
def lexB (a b : Int × Int) : Bool := if a.1 = b.1 then decide (a.2 < b.2) else decide (a.1 < b.1)
def ltP (qs : List (Int × Int)) (i j : Nat) : Bool := lexB (qs.getD i (0, 0)) (qs.getD j (0, 0))
open D3
def prsD : List D → Option (List (Int × Int))
  | [] => some []
  | .tuple [.int i, .int j] :: r => (prsD r).map ((i, j) :: ·)
  | _ => none
def gSortP : List D → Option D
  | [.list l] => match intsD l with
    | some _ => gSort [.list l]
    | none => (prsD l).bind fun qs => if l.length < 64 then (if l.length = 1 then some (.list l) else some (.list ((ordT l.length (ltP qs)).map fun i => l.getD i .none))) else none
  | _ => none
end XS
namespace XS
open PySem PySem.Spec PySem.W PyProof.Rows L2 My D3
theorem obj_there {P : Program} {w : World} {H : Hp} {h : Heap} {a : Addr} {o : HO} (x : ObjOk P w H h a o) : ∃ u, h.get? a = some u := by
  cases o with
  | lst xs => obtain ⟨_, _, _, _, e⟩ := x; exact ⟨_, e⟩
  | tup xs => obtain ⟨_, _, _, u, e, _⟩ := x; exact ⟨_, e⟩
  | dK kvs => obtain ⟨_, _, _, _, u, _, _, e, _⟩ := x; exact ⟨_, e⟩
  | dT kvs => obtain ⟨_, _, _, _, u, _, _, e, _⟩ := x; exact ⟨_, e⟩
  | set S n => obtain ⟨u, _, _, _, e, _⟩ := x; exact ⟨_, e⟩
  | ins C dx fs => obtain ⟨_, _, _, e, _⟩ := x; exact ⟨_, e⟩
  | own y => exact x
  | xd fs => obtain ⟨_, ⟨u, _, _, e, _⟩, _⟩ := x; exact ⟨_, e⟩
  | met f y => exact ⟨_, x⟩
  | rng lo hi => obtain ⟨_, _, _, e⟩ := x; exact ⟨_, e⟩
  | frz u v => exact ⟨_, x.1⟩
  | tbl q p => obtain ⟨_, e, _⟩ := x; exact ⟨_, e⟩
  | ext φ => exact x.2.1
section
variable {X : Cx} {pins : List (Addr × Obj)} {σ : L2.St} {H : Hp} {s : Shared}
theorem ns_one {h : Heap} {L : Addr} {m m' : Str → Option Value} (a : h.Ns L m) (b : h.Ns L m') : m = m' := by
  obtain ⟨o, es, ep, e, d, _, f⟩ := a
  obtain ⟨o', es', ep', e', d', _, f'⟩ := b
  rw [e] at e'; cases e'
  rw [d] at d'; cases d'
  funext x
  rw [← f, ← f']
theorem inv_new {h' : Heap} {m : Str → Option Value} {D : Addr} {o : HO} (I : Inv X pins σ H s) (hm : s.heap.Ns X.env.locals m) (hm' : h'.Ns X.env.locals m) (k : ∀ b u, b ≠ X.env.locals → s.heap.get? b = some u → h'.get? b = some u)
    (hD : s.heap.get? D = none) (new : ObjOk X.prog X.w (upd H D o) h' D o) : Inv X pins σ (upd H D o) { s with heap := h' } := by
  have hn : H D = none := by
    cases e : H D with
    | none => rfl
    | some u =>
      obtain ⟨w, hw⟩ := obj_there (I.hok D u e)
      rw [hD] at hw; cases hw
  have ne : ∀ {b u}, H b = some u → b ≠ D := fun e => ne_of_none e hn
  refine I.step (g' := s.gens) (d' := s.drawn) (t' := s.toks) (ch := []) (fun b hb => by cases hb) (fun b u hL _ _ e _ => k b u hL e) (fun b u hL _ _ e _ => ⟨u.slots, k b u hL e⟩) (fun b u _ e n => ?_) (fun b u _ e => ?_)
    (fun b xs e => by rw [upd_ne (ne e)]; exact e) (fun b u v e => by rw [upd_ne (ne e)]; exact e) (fun b q p e => by rw [upd_ne (ne e)]; exact e) (fun m2 h2 => by rw [← ns_one hm h2]; exact hm') (fun b u e => ?_) I.bare
  · rw [upd_ne (fun z => by rw [z, hD] at e; cases e)]; exact n
  · by_cases z : b = X.env.locals
    · obtain ⟨w, _, _, hw, _⟩ := hm'
      exact ⟨w, by rw [z]; exact hw⟩
    · exact ⟨u, k b u z e⟩
  · by_cases z : b = D
    · subst z
      rw [upd_same] at e
      cases e
      exact new
    · rw [upd_ne z] at e
      refine (I.hok b u e).stay (fun c w hc q => k c w (fun y => ?_) q) (fun c q => by rw [upd_ne (ne q)]; exact q) fun c xs q => by rw [upd_ne (ne q)]; exact q
      rcases hc with rfl | y2
      · rw [y, I.free] at e; cases e
      · rw [y, I.free] at y2; cases y2
end
section
variable {prog : Program} {w : World} {A : Around} {E : Value → Shared → Prop} {s : Shared}
theorem lt_pair {x y : Addr} {a b c d : Int} {t1 t2 t3 t4 : Tok} {C : Bool → Shared → Prop} (hx : IsTup s.heap x #[.int a t1, .int b t2]) (hy : IsTup s.heap y #[.int c t3, .int d t4]) (q : C (lexB (a, b) (c, d)) s) :
    wpAny (model prog w) A (keyLt' (tuples' true) (.ref x) (.ref y)) C E s := by
  obtain ⟨ox, ex, _, nx, dx⟩ := hx
  obtain ⟨oy, ey, _, ny, dy⟩ := hy
  refine kat_lt ex dx ey dy ?_
  show KatLex prog w A true (decide (2 < 2)) C [(Value.int a t1, Value.int c t3), (Value.int b t2, Value.int d t4)] 0 s
  refine kat_cons (wpAny_eqBool_int (kat_go (fun e => ?_) fun e => ?_))
  · refine kat_yes (kat_cons (wpAny_eqBool_int (kat_go (fun e2 => ?_) fun e2 => ?_)))
    · refine kat_yes (kat_nil ?_)
      have e := beq_iff_eq.mp e
      have e2 := beq_iff_eq.mp e2
      subst e e2
      simpa [lexB] using q
    · refine kat_no (kat_one _ _ (lt_int ?_))
      have e := beq_iff_eq.mp e
      subst e
      simpa [lexB, PySem.W.BoolBack] using q
  · refine kat_no ?_
    have e : a ≠ c := by
      intro z; subst z; simp at e
    have q' : C (decide (a < c)) s := by simpa [lexB, e] using q
    exact oneLt_int q'
end
end XS
namespace XS
open PySem PySem.Spec PySem.W PyProof.Rows L2 My D3
def IsPr (K : PySem.W.Frag) (H : Hp) (y : V) (q : Int × Int) : Prop := ∃ a, y = .ref a ∧ SqT K H a [.int q.1, .int q.2]
abbrev Prs (K : PySem.W.Frag) (H : Hp) : List V → List (Int × Int) → Prop := Paired (IsPr K H)
section
variable {X : Cx} {pins : List (Addr × Obj)} {σ : L2.St} {H : Hp} {s : Shared}
theorem pair_of (I : Inv X pins σ H s) {y : V} {u : Value} {q : Int × Int} (h : IsPr X.K H y q) (r : RelV y u) : ∃ a t1 t2, u = .ref a ∧ IsTup s.heap a #[.int q.1 t1, .int q.2 t2] := by
  obtain ⟨a, rfl, hq⟩ := h
  cases r
  obtain ⟨its, rr, p, _⟩ := I.tuple hq
  cases rr with
  | cons r1 rr => cases rr with
    | cons r2 rr =>
      cases rr
      obtain ⟨t1, rfl⟩ := r1
      obtain ⟨t2, rfl⟩ := r2
      exact ⟨a, t1, t2, rfl, p⟩
theorem tups_of (I : Inv X pins σ H s) {h' : Heap} (k : ∀ a items, IsTup s.heap a items → IsTup h' a items) : ∀ {ys : List V} {us : List Value} {qs : List (Int × Int)}, Prs X.K H ys qs → Vals ys us → ∃ fs, KatTups h' us fs ∧ fs.length = us.length ∧ ∀ v ∈ fs, ∃ i t, v = .int i t
  | _, _, _, .nil, .nil => ⟨[], trivial, rfl, fun _ h => by cases h⟩
  | _, _, _, .cons p ps, .cons r rs => by
    obtain ⟨fs, h1, h2, h3⟩ := tups_of I k ps rs
    obtain ⟨a, t1, t2, rfl, ht⟩ := pair_of I p r
    obtain ⟨o, e, c, n, d⟩ := k _ _ ht
    refine ⟨.int _ t1 :: fs, ⟨⟨a, o, _, n, rfl, e, c, d, rfl⟩, h1⟩, by simp [h2], fun v hv => ?_⟩
    rcases List.mem_cons.mp hv with rfl | hv
    · exact ⟨_, _, rfl⟩
    · exact h3 v hv
theorem getD_pair {ys : List V} {us : List Value} {qs : List (Int × Int)} : Prs X.K H ys qs → Vals ys us → ∀ i, i < ys.length → IsPr X.K H (ys.getD i .non) (qs.getD i (0, 0)) ∧ RelV (ys.getD i .non) (us.getD i .none)
  | .nil, .nil, i, h => by cases h
  | .cons p ps, .cons r rs, 0, h => ⟨p, r⟩
  | .cons p ps, .cons r rs, i + 1, h => by
    have := getD_pair ps rs i (by simpa using h)
    simpa using this
theorem call_sortedP : CallR X (.builtin "sorted") (fun xs H Q => ∃ (p : Addr) (ys : List V) (qs : List (Int × Int)), xs = [.ref p] ∧ SqL X.K H p ys ∧ 2 ≤ ys.length ∧ ys.length < 64 ∧ Prs X.K H ys qs ∧ ∀ l, H l = none → Q (.ref l) (upd H l (.lst ((ordT ys.length (ltP qs)).map fun i => ys.getD i .non)))) := by
  intro pins s σ H xs us Q I r h
  obtain ⟨p, ys, qs, rfl, hx, h2, h64, hp, q⟩ := h
  obtain ⟨u, rfl, rx⟩ := vals1 r
  cases rx
  obtain ⟨its, rvs, pl, hz⟩ := I.list hx
  obtain ⟨m, hm, _⟩ := id I.loc
  have len : its.length = ys.length := rvs.length.symm
  refine kat_sorted (h₀ := Att.noObjs s.heap) (L := X.env.locals) (m := m) (Att.fr_all hm) (news_all (g := Att.noObjs s.heap) (h := s.heap) (L := X.env.locals)) pl.isList (by rw [len]; exact h2) (by rw [len]; exact h64) fun D e1 h' F' N' lt => ?_
  have kept : ∀ {h'' : Heap} {nw : List (Addr × Obj)}, News (Att.noObjs s.heap) X.env.locals h'' nw → (∀ y ∈ allNews (Att.noObjs s.heap) s.heap X.env.locals, y ∈ nw) → ∀ b o, b ≠ X.env.locals → s.heap.get? b = some o → h''.get? b = some o := fun N hs b o hb e => (N (b, o) (hs _ (mem_allNews hb (Att.noObjs_get _ _) e))).1
  have kt : ∀ a items, IsTup s.heap a items → IsTup h' a items := fun a items ⟨o, e, c, n, d⟩ => ⟨o, kept N' (fun y hy => List.mem_cons_of_mem _ hy) a o (fun z => by
    obtain ⟨o2, es, ep, e2, d2, _⟩ := hm
    rw [z, e2] at e; cases e
    rw [d2] at d; cases d) e, c, n, d⟩
  obtain ⟨fs, f1, f2, f3⟩ := tups_of I kt hp rvs
  refine kat_kind (T := .type "int") f1 (by rw [f2, len]; omega) (fun v hv => ?_) rfl ?_
  · obtain ⟨i, t, rfl⟩ := f3 v hv
    exact fun A Q E s _ q => wpAny_pure q
  have e64 : its.length < 64 := by rw [len]; exact h64
  refine asks_wp (n := its.length) (lt := ltP qs) (R := good its.length) (fun i j C hi hj hc => ?_) _ (asks_sort (by rw [len]; omega)) ?_
  · obtain ⟨p1, r1⟩ := getD_pair hp rvs i (by rw [← len]; exact hi)
    obtain ⟨p2, r2⟩ := getD_pair hp rvs j (by rw [← len]; exact hj)
    obtain ⟨a1, t1, t2, x1, y1⟩ := pair_of I p1 r1
    obtain ⟨a2, t3, t4, x2, y2⟩ := pair_of I p2 r2
    unfold kas_ask
    rw [x1, x2]
    exact lt_pair (kt _ _ y1) (kt _ _ y2) hc
  · refine KasFin.intro F' N' (.head fun y hy => Nat.ne_of_lt (lt y hy)) fun h2 c F2 N2 => ?_
    have hD : s.heap.get? D = none := by
      cases e : s.heap.get? D with
      | none => rfl
      | some o =>
        by_cases z : D = X.env.locals
        · exact absurd z (N' _ (List.mem_cons_self ..)).2.1
        · exact absurd (lt (D, o) (mem_allNews z (Att.noObjs_get _ _) e)) (Nat.lt_irrefl _)
    have hn : H D = none := by
      cases e : H D with
      | none => rfl
      | some u =>
        obtain ⟨w, hw⟩ := obj_there (I.hok D u e)
        rw [hD] at hw; cases hw
    have pm := ord_perm (n := ys.length) (by omega) (ltP qs)
    have hv : ∀ l : List Nat, (∀ i ∈ l, i < ys.length) → Vals (l.map fun i => ys.getD i .non) (l.map fun i => its.getD i .none) := fun l hl => by
      induction l with
      | nil => exact .nil
      | cons i l ih => exact .cons (getD_pair hp rvs i (hl i List.mem_cons_self)).2 (ih fun j hj => hl j (List.mem_cons_of_mem _ hj))
    have o1 : ((runT (ltP qs) (kas_sort its.length)).toList) = ordT ys.length (ltP qs) := by rw [len]; rfl
    have new : ObjOk X.prog X.w (upd H D (.lst ((ordT ys.length (ltP qs)).map fun i => ys.getD i .non))) h2 D (.lst ((ordT ys.length (ltP qs)).map fun i => ys.getD i .non)) := by
      refine ⟨by rw [List.length_map, pm.length_eq, List.length_range]; exact Nat.le_trans (Nat.le_of_lt h64) (by decide), _, c, hv _ fun i hi => List.mem_range.mp (pm.mem_iff.mp hi), ?_⟩
      have := (N2 _ (List.mem_cons_self ..)).1
      rw [← o1]
      exact this
    exact ⟨.ref D, _, inv_new (s := s) (h' := h2) I hm F2.ns (kept N2 fun y hy => List.mem_cons_of_mem _ hy) hD new, rfl, q D hn⟩
end
end XS
namespace XS
open PySem PySem.Spec PySem.W PyProof.Rows L2 My D3
section
variable {prog : Program} {w : World} {A : Around} {E : Value → Shared → Prop} {s : Shared}
theorem sort_few {a : Addr} {v : Value} {n : Nat} {P : PySem.Fin → Shared → Prop} (ho : s.heap.get? a = some (seqObj "list" #[v] n))
    (h : ∀ h' c, (∀ b u, b ≠ a → s.heap.get? b = some u → h'.get? b = some u) → h'.get? a = some (seqObj "list" #[v] c) → P (.done (.ret .none)) { s with heap := h' }) :
    wpAny (model prog w) A (Builtin.«list.sort» ⟨[.ref a], []⟩) P E s := by
  obtain ⟨g1, e1⟩ : ∃ g1, g1 = s.heap.update a (Obj.mapSeq fun _ => (#[] : Array Value)) := ⟨_, rfl⟩
  obtain ⟨c1, h1⟩ : ∃ c, g1.get? a = some (seqObj "list" #[] c) := ⟨_, by rw [e1]; exact get?_update_seq ho fun _ => #[]⟩
  have k1 : ∀ b u, b ≠ a → s.heap.get? b = some u → g1.get? b = some u := fun b u z q => by rw [e1]; exact (Heap.get?_update_ne _ _ _ _ z).trans q
  rw [list_sort_plain]
  refine wpAny_bind (listItems_at ho rfl ?_)
  refine wpAny_bind (listUpdate_at ho rfl ?_ (show 1 ≤ sizeLine by decide) (Nat.zero_le _))
  rw [← e1]
  refine wpAny_bind (seqEpoch_at h1 rfl ?_)
  refine wpAny_bind (wpAny_newTuple ?_ (show 1 ≤ sizeLine by decide))
  refine wpAny_bind (wpAny_newList ?_ (Nat.zero_le _))
  refine wpAny_holding ?_
  obtain ⟨g2, e2⟩ : ∃ g2, g2 = (g1.push (seqObj "tuple" #[v] 0)).push (seqObj "list" #[] 0) := ⟨_, rfl⟩
  show wpAny (model prog w) A _ P E { s with heap := (g1.push (seqObj "tuple" #[v] 0)).push (seqObj "list" #[] 0) }
  rw [← e2]
  have h2 : g2.get? a = some (seqObj "list" #[] c1) := by rw [e2]; exact Heap.get?_push_of_some _ (Heap.get?_push_of_some _ h1)
  have k2 : ∀ b u, b ≠ a → s.heap.get? b = some u → g2.get? b = some u := fun b u z q => by rw [e2]; exact Heap.get?_push_of_some _ (Heap.get?_push_of_some _ (k1 b u z q))
  have two : (#[v] : Array Value).size < 2 := Nat.lt_succ_self 1
  have srt : (arrOf (SortSt.mk' general' ((#[v] : Array Value).zip #[v]) #[] 7 none)).map (·.2) = #[v] := by
    show ((#[v] : Array Value).zip #[v]).map (·.2) = #[v]
    simp
  dsimp only
  rw [if_pos two, if_pos two]
  refine wpAny_bind (wpAny_pure ?_)
  refine wpAny_bind (wpAny_pure ?_)
  dsimp only
  rw [srt]
  refine wpAny_bind (seqEpoch_at h2 rfl ?_)
  refine wpAny_bind (listUpdate_at h2 rfl ?_ (Nat.zero_le _) (show 1 ≤ sizeLine + 1 by decide))
  show wpAny _ _ (if (c1 != c1) = true then _ else ret Value.none) P E _
  rw [if_neg (by simp)]
  refine wpAny_pure (h _ _ (fun b u z q => (Heap.get?_update_ne _ _ _ _ z).trans (k2 b u z q)) (get?_update_seq h2 _))
end
section
variable {X : Cx}
theorem call_sorted1 : CallR X (.builtin "sorted") (fun xs H Q => ∃ (p : Addr) (y : V), xs = [.ref p] ∧ SqL X.K H p [y] ∧ ∀ l, H l = none → Q (.ref l) (upd H l (.lst [y]))) := by
  intro pins s σ H xs us Q I r h
  obtain ⟨p, y, rfl, hx, q⟩ := h
  obtain ⟨u, rfl, rx⟩ := vals1 r
  cases rx
  obtain ⟨its, rvs, pl, hz⟩ := I.list hx
  obtain ⟨v, rfl, rv⟩ : ∃ v, its = [v] ∧ RelV y v := by
    cases rvs with
    | cons a b => cases b; exact ⟨_, rfl, a⟩
  refine Calls.call_function_entry kind_sorted plain_sorted entry_sorted (args_sorted1 _) ?_
  unfold Builtin.«sorted»
  refine wpAny_bind (m := checkCount "sorted" 1 1 _) (wpAny_pure ?_)
  refine wpAny_bind (collect_list (vs := [v]) pl.isList ?_ (show 1 ≤ sizeLine by decide))
  refine wpAny_bind (wpAny_newList ?_ (show 1 ≤ sizeLine by decide))
  obtain ⟨g, eg⟩ : ∃ g, g = (s.heap.push (seqObj "list" #[] 0)).update s.heap.objs.size (Obj.mapSeq (· ++ [v].toArray)) := ⟨_, rfl⟩
  show wpAny _ _ _ _ _ { s with heap := ((s.heap.push (seqObj "list" #[] 0)).update s.heap.objs.size (Obj.mapSeq (· ++ [v].toArray))).push (seqObj "list" [v].toArray 0) }
  rw [← eg]
  have sz : g.objs.size = s.heap.objs.size + 1 := by rw [eg, Heap.size_update, size_push']
  have old : ∀ b o, s.heap.get? b = some o → g.get? b = some o := fun b o e => by
    have lt := Heap.lt_size e
    rw [eg, Heap.get?_update_ne _ _ _ _ (Nat.ne_of_lt lt)]
    exact Heap.get?_push_of_some _ e
  have at' : (g.push (seqObj "list" [v].toArray 0)).get? g.objs.size = some (seqObj "list" #[v] 0) := Heap.get?_push_size _ rfl
  refine wpAny_bind (wpAny_holding (wpAny_call_entry slot_list_sort ⟨_, at', rfl⟩ entry_list_sort (sort_few at' fun h' c k e => ⟨_, rfl, ?_⟩) (args_list_sort _)))
  refine wpAny_pure ⟨_, rfl, ?_⟩
  have hn : H g.objs.size = none := I.hok.fresh (by rw [sz]; exact Nat.le_succ _)
  have I2 := I.laid (h' := h') (t' := s.toks) (a := g.objs.size) (o := .lst [y]) (fun b o q => k b o (fun z => by
      have lt : b < s.heap.objs.size := Heap.lt_size q
      have z : b = s.heap.objs.size + 1 := z.trans sz
      rw [z] at lt
      exact absurd lt (Nat.not_lt.mpr (Nat.le_succ _))) (Heap.get?_push_of_some _ (old b o q))) (by rw [sz]; exact Nat.le_succ _) ⟨show 1 ≤ sizeLine by decide, [v], c, .cons rv .nil, e⟩
  exact ⟨.ref _, _, I2, rfl, q _ hn⟩
end
end XS
namespace XS
open PySem PySem.Spec PySem.W PyProof.Rows L2 My D3
section
variable {K : PySem.W.Frag} {H : Hp}
theorem prs_ra : ∀ {l : List D} {qs : List (Int × Int)} {ys : List V}, prsD l = some qs → RAs K ok1 true H ys l → Prs K H ys qs ∧ l = qs.map fun q => .tuple [.int q.1, .int q.2]
  | [], qs, ys, e, r => by
    cases e; cases r; exact ⟨.nil, rfl⟩
  | d :: l, qs, ys, e, r => by
    cases r with
    | cons r1 r2 =>
      unfold prsD at e
      split at e
      · next h => cases h
      · next i j t h =>
        cases h
        cases e3 : prsD l with
        | none => rw [e3] at e; cases e
        | some q2 =>
          rw [e3] at e
          cases e
          obtain ⟨p, el⟩ := prs_ra e3 r2
          obtain ⟨a, xs, rfl, hs, hr⟩ := r1.tupE
          cases hr with
          | cons h1 hr => cases hr with
            | cons h2 hr =>
              cases hr
              obtain rfl := h1.intE
              obtain rfl := h2.intE
              exact ⟨.cons ⟨a, rfl, hs⟩ p, by rw [List.map_cons, ← el]⟩
      · cases e
theorem flat_prs (qs : List (Int × Int)) : flats (qs.map fun q => (.tuple [.int q.1, .int q.2] : D)) = true := by
  induction qs with
  | nil => rfl
  | cons q qs ih => simp [flats, flat, ih]
theorem flat_get : ∀ {l : List D}, flats l = true → ∀ i, flat (l.getD i .none) = true
  | [], _, i => by simp [flat]
  | d :: l, h, 0 => by rw [flats, Bool.and_eq_true] at h; exact h.1
  | d :: l, h, i + 1 => by
    rw [flats, Bool.and_eq_true] at h
    simpa using flat_get h.2 i
theorem ra_getD : ∀ {ys : List V} {l : List D} {ok : Ok} {pl : Bool}, RAs K ok pl H ys l → ∀ i, RA K ok pl H (ys.getD i .non) (l.getD i .none)
  | _, _, _, _, .nil, i => by simp; exact .non
  | _, _, _, _, .cons a b, 0 => a
  | _, _, _, _, .cons a b, i + 1 => by simpa using ra_getD b i
end
theorem de_sortP {X : Cx} {fl : List Fl} {e : Expr} {fa : FA} {p pos : Pos} (ha : DB X fl .P [e] fa) (hg : Gl X "sorted") (hm : X.mg "sorted" = none)
    (he : starEach [e] X.env = (false, eval e X.env) :: starEach [] X.env := by rfl) (hpl : (backTo pos (starEach [] X.env)).any (·.1) = false := by rfl) : DE X fl .FC (.Call (.Name "sorted" p) [e] [] pos) (dCall gSortP fa) := by
  have bs : bootBuiltins "sorted" = some (.builtin "sorted") := by decide +kernel
  intro pins s σ H Q I h
  obtain ⟨G, ow, δ, d, R, hf, q⟩ := h
  obtain ⟨ds, e1, e2⟩ := bind1 hf
  unfold gSortP at e2
  split at e2
  · next l =>
    split at e2
    · next ns e3 => exact de_sorted ha hg hm he hpl pins s σ H Q I ⟨G, ow, δ, d, R, by unfold dCall; rw [e1]; exact e2, q⟩
    · next e3 =>
      obtain ⟨qs, e4, e5⟩ := bind1 e2
      by_cases h64 : l.length < 64
      · rw [if_pos h64] at e5
        by_cases h1 : l.length = 1
        · rw [if_pos h1] at e5
          cases e5
          refine pe_callB call_sorted1 hg hm bs ha (by decide) (by decide) he hpl pins s σ H Q I ⟨G, ow, δ, _, R, e1, fun vs H' sm r' => ?_⟩
          cases r' with
          | cons r1 r2 =>
            cases r2
            obtain ⟨a, ys, rfl, hx, hr⟩ := r1.lstE
            obtain ⟨hp, hl⟩ := prs_ra e4 hr
            obtain ⟨y, rfl⟩ : ∃ y, ys = [y] := by
              have := hr.length
              rw [h1] at this
              exact List.length_eq_one_iff.mp this
            refine ⟨a, y, rfl, hx, fun l0 hn => q _ _ (sm.trans (same_new hn _)) (.inr ⟨_, _, _, rfl, rfl, sm.free hn, upd_same, ?_⟩)⟩
            exact RAs.flat (by rw [hl]; exact flat_prs qs) (hr.same (same_new hn _))
        · rw [if_neg h1] at e5
          cases e5
          refine pe_callB call_sortedP hg hm bs ha (by decide) (by decide) he hpl pins s σ H Q I ⟨G, ow, δ, _, R, e1, fun vs H' sm r' => ?_⟩
          cases r' with
          | cons r1 r2 =>
            cases r2
            obtain ⟨a, ys, rfl, hx, hr⟩ := r1.lstE
            obtain ⟨hp, hl⟩ := prs_ra e4 hr
            have el : ys.length = l.length := hr.length
            have h2 : 2 ≤ ys.length := by
              rcases Nat.lt_or_ge ys.length 2 with z | z
              · have : l.length = 0 := by omega
                have := List.length_eq_zero_iff.mp this
                subst this
                cases e3
              · exact z
            refine ⟨a, ys, qs, rfl, hx, h2, by omega, hp, fun l0 hn => q _ _ (sm.trans (same_new hn _)) (.inr ⟨_, _, _, rfl, rfl, sm.free hn, upd_same, ?_⟩)⟩
            rw [el]
            have fl0 : flats l = true := by rw [hl]; exact flat_prs qs
            have hr2 := hr.same (same_new hn (.lst ((ordT l.length (ltP qs)).map fun i => ys.getD i .non)))
            generalize ordT l.length (ltP qs) = is at hr2 ⊢
            clear e3 e4 hx h2 hp hl e1 hf
            have : ∀ (is : List Nat) (H2 : Hp), RAs X.K ok1 true H2 ys l → RAs X.K (fun b => okN H b ∧ b ≠ l0) false H2 (is.map fun i => ys.getD i .non) (is.map fun i => l.getD i .none) := fun is H2 hr => by
              induction is with
              | nil => exact .nil
              | cons i is ih => exact .cons (RA.flat (flat_get fl0 i) (ra_getD hr i)) ih
            exact this is _ hr2
      · rw [if_neg h64] at e5; cases e5
  · cases e2
end XS
namespace XS
open PySem PySem.Spec PySem.W PyProof.Rows
section
variable {prog : Program} {w : World} {A : Around} {E : Value → Shared → Prop} {s : Shared}
structure PL (h : Heap) (D I l : Addr) (its : Array Value) (vs : List (L2.Key × Value)) (i : Nat) : Prop where
  iter : h.IsListIter I l i
  lst : h.IsList l its
  prs : ∀ (j : Nat) (u : Value), its[j]? = some u → ∃ (a : Addr) (n : Int) (t : Tok) (v : Value), u = Value.ref a ∧ IsTup h a #[Value.int n t, v] ∧ vs[j]? = some (Sum.inl n, v) ∧ a ≠ D ∧ a ≠ I
  ne : l ≠ D ∧ l ≠ I ∧ D ≠ I
end
end XS
namespace XS
open PySem PySem.Spec PySem.W PyProof.Rows
section
variable {prog : Program} {w : World} {A : Around} {E : Value → Shared → Prop} {s : Shared}
end
end XS
namespace XS
open PySem PySem.Spec PySem.W PyProof.Rows L2 My D3
section
variable {X : Cx} {pins : List (Addr × Obj)} {σ : L2.St} {H : Hp} {s : Shared}
end
end XS
namespace XS
open PySem PySem.Spec PySem.W PyProof.Rows L2 My D3
section
variable {X : Cx} {fl : List Fl} {a : Expr} {f : FE} {pos : Pos} {ta : TE}
end
end XS
namespace D3
open PySem
end D3
namespace D3
open PySem
end D3
namespace D3
open PySem
end D3
namespace D3
open PySem
end D3
namespace D3
open PySem
def qS (o : Option Oc) (b : FS) : Option Oc := match o with
  | some (.nx δ) => b δ
  | some o => some o
  | none => none
def qI (o : Option Bool) (a b : FS) (δ : DS) : Option Oc := match o with
  | some true => a δ
  | some false => b δ
  | none => none
def qO (g : D → D → Option D) (a b : Option D) : Option D := match a, b with
  | some x, some y => g x y
  | _, _ => none
def qU (g : D → Option D) (a : Option D) : Option D := match a with
  | some x => g x
  | none => none
def qC (a : Option D) (r : Option (List D)) : Option (List D) := match a, r with
  | some x, some l => some (x :: l)
  | _, _ => none
def qF (F : List D → Option D) (l : Option (List D)) : Option D := match l with
  | some l => F l
  | none => none
def qR (a : Option D) : Option Oc := match a with
  | some d => some (.rt d)
  | none => none
def qSet (i : Nat) (a : Option D) (δ : DS) : Option Oc := match a with
  | some d => if i < δ.length then some (.nx (δ.set i (some (.d d)))) else none
  | none => none
def qAnd (a : Option D) (fb : FE) (δ : DS) : Option D := match a with
  | some (.bool true) => fb δ
  | some (.bool false) => some (.bool false)
  | _ => none
def qOr (a : Option D) (fb : FE) (δ : DS) : Option D := match a with
  | some (.bool true) => some (.bool true)
  | some (.bool false) => fb δ
  | _ => none
def qN (a : Option D) : Option D := match a with
  | some (.bool b) => some (.bool (!b))
  | _ => none
def qB (a : Option D) : Option Bool := match a with
  | some (.bool b) => some b
  | _ => none
def qTA (a : Option Bool) (b : FT) (δ : DS) : Option Bool := match a with
  | some true => b δ
  | some false => some false
  | none => none
def qTO (a : Option Bool) (b : FT) (δ : DS) : Option Bool := match a with
  | some true => some true
  | some false => b δ
  | none => none
def qTN (a : Option Bool) : Option Bool := match a with
  | some b => some (!b)
  | none => none
def qE (a : Option Bool) (fa fb : FE) (δ : DS) : Option D := match a with
  | some true => fa δ
  | some false => fb δ
  | none => none
def qL (a : Option D) : Option (List D) := match a with
  | some (.list l) => some l
  | _ => none
def qFor (a : Option (List D)) (g : FG) (b : FS) (δ : DS) : Option Oc := match a with
  | some l => forD g b l δ
  | none => none
def qD (a : Option DS) : Option Oc := match a with
  | some δ => some (.nx δ)
  | none => none
def qG (a : Option D) (g : FG) (δ : DS) : Option DS := match a with
  | some d => g d δ
  | none => none
def qGs (a : Option DS) (r : List D → DS → Option DS) (l : List D) : Option DS := match a with
  | some δ => r l δ
  | none => none
def qT (a : Option (List D)) : Option D := match a with
  | some l => if l.length ≤ sizeLine then some (.tuple l) else none
  | none => none
def qK (a : Option (List D)) : Option D := match a with
  | some l => if l.length ≤ sizeLine then some (.list l) else none
  | none => none
def qFl (p : D → Bool) (a : Option D) : Option D := match a with
  | some d => if p d = true then some d else none
  | none => none
def qA (i : Nat) (x a : Option D) (δ : DS) : Option Oc := match x, a with
  | some (.list l), some d => if l.length < 1000000 then some (.nx (δ.set i (some (.d (.list (l ++ [d])))))) else none
  | _, _ => none
def qP (i : Nat) (a x k : Option D) (δ : DS) : Option Oc := match a, x, k with
  | some d, some (.list l), some (.int j) => (pIx l.length j).bind fun n => some (.nx (δ.set i (some (.d (.list (l.set n d))))))
  | _, _, _ => none
def qCh (g' : D → D → Option D) (z : Option D) (y : Option D) (fc : FE) (δ : DS) : Option D := match z with
  | some (.bool true) => qO g' y (fc δ)
  | some (.bool false) => some (.bool false)
  | _ => none
def qFn (o : Option Oc) : Option D := match o with
  | some (.rt d) => some d
  | some (.nx _) => some .none
  | _ => none
def qCo (a : Option (List D)) (g : FG) (c : FT) (e : FE) (t : Nat) (ix : List Nat) (δ : DS) : Option D := match a with
  | some l => if l.length ≤ 100000 then (match compD g c e (capD t ix δ) l with | some r => some (.list r) | none => none) else none
  | none => none
section
variable {a b : FS} {c c' : FT} {fa fb fc : FE} {fr : FA} {δ : DS} {g : D → D → Option D} {h : D → Option D} {F : List D → Option D} {i : Nat} {G : FG} {d : D}
theorem v_seq : sSeq a b δ = qS (a δ) b := by
  unfold sSeq qS
  cases a δ with
  | none => rfl
  | some o => cases o <;> rfl
theorem v_seq_nx {δ' : DS} : qS (some (.nx δ')) b = b δ' := rfl
theorem v_seq_rt : qS (some (.rt d)) b = some (.rt d) := rfl
theorem v_seq_bk {δ' : DS} : qS (some (.bk δ')) b = some (.bk δ') := rfl
theorem v_seq_ct {δ' : DS} : qS (some (.ct δ')) b = some (.ct δ') := rfl
theorem v_nil : sNil δ = some (.nx δ) := rfl
theorem v_bk : sBk δ = some (.bk δ) := rfl
theorem v_ct : sCt δ = some (.ct δ) := rfl
theorem v_if : sIf c a b δ = qI (c δ) a b δ := by
  unfold sIf qI
  cases c δ with
  | none => rfl
  | some t => cases t <;> rfl
theorem v_if_t : qI (some true) a b δ = a δ := rfl
theorem v_if_f : qI (some false) a b δ = b δ := rfl
theorem v_op : dOp g fa fb δ = qO g (fa δ) (fb δ) := by
  unfold dOp qO
  cases fa δ <;> cases fb δ <;> rfl
theorem v_op_s {x y : D} : qO g (some x) (some y) = g x y := rfl
theorem v_un : dUn h fa δ = qU h (fa δ) := by
  unfold dUn qU
  cases fa δ <;> rfl
theorem v_un_s {x : D} : qU h (some x) = h x := rfl
theorem v_lnil : dNil δ = some [] := rfl
theorem v_lcons : dCons fa fr δ = qC (fa δ) (fr δ) := by
  unfold dCons qC
  cases fa δ <;> cases fr δ <;> rfl
theorem v_lcons_s {x : D} {l : List D} : qC (some x) (some l) = some (x :: l) := rfl
theorem v_call : dCall F fr δ = qF F (fr δ) := by
  unfold dCall qF
  cases fr δ <;> rfl
theorem v_call_s {l : List D} : qF F (some l) = F l := rfl
theorem v_ret : sRet fa δ = qR (fa δ) := by
  unfold sRet qR
  cases fa δ <;> rfl
theorem v_ret_s : qR (some d) = some (.rt d) := rfl
theorem v_retN : sRetN δ = some (.rt .none) := rfl
theorem v_set : sSetl i fa δ = qSet i (fa δ) δ := by
  unfold sSetl sSet qSet
  cases fa δ with
  | none => simp
  | some d => rfl
theorem v_set_s : qSet i (some d) δ = if i < δ.length then some (.nx (δ.set i (some (.d d)))) else none := rfl
theorem v_c : dC d δ = some d := rfl
theorem v_and : dAnd fa fb δ = qAnd (fa δ) fb δ := by
  unfold dAnd qAnd
  cases fa δ with
  | none => rfl
  | some x =>
    cases x <;> try rfl
    next b => cases b <;> rfl
theorem v_and_t : qAnd (some (.bool true)) fb δ = fb δ := rfl
theorem v_and_f : qAnd (some (.bool false)) fb δ = some (.bool false) := rfl
theorem v_or : dOr fa fb δ = qOr (fa δ) fb δ := by
  unfold dOr qOr
  cases fa δ with
  | none => rfl
  | some x =>
    cases x <;> try rfl
    next b => cases b <;> rfl
theorem v_or_t : qOr (some (.bool true)) fb δ = some (.bool true) := rfl
theorem v_or_f : qOr (some (.bool false)) fb δ = fb δ := rfl
theorem v_not : dNot fa δ = qN (fa δ) := by
  unfold dNot qN
  cases fa δ with
  | none => rfl
  | some x => cases x <;> rfl
theorem v_not_s {b : Bool} : qN (some (.bool b)) = some (.bool (!b)) := rfl
theorem v_tb : tBool fa δ = qB (fa δ) := by
  unfold tBool qB
  cases fa δ with
  | none => rfl
  | some x => cases x <;> rfl
theorem v_tb_s {b : Bool} : qB (some (.bool b)) = some b := rfl
theorem v_tand : D3.tAnd c c' δ = qTA (c δ) c' δ := by
  unfold D3.tAnd qTA
  cases c δ with
  | none => rfl
  | some t => cases t <;> rfl
theorem v_tand_t : qTA (some true) c δ = c δ := rfl
theorem v_tand_f : qTA (some false) c δ = some false := rfl
theorem v_tor : D3.tOr c c' δ = qTO (c δ) c' δ := by
  unfold D3.tOr qTO
  cases c δ with
  | none => rfl
  | some t => cases t <;> rfl
theorem v_tor_t : qTO (some true) c δ = some true := rfl
theorem v_tor_f : qTO (some false) c δ = c δ := rfl
theorem v_tnot : D3.tNot c δ = qTN (c δ) := by
  unfold D3.tNot qTN
  cases c δ <;> rfl
theorem v_tnot_s {b : Bool} : qTN (some b) = some (!b) := rfl
theorem v_ite : dIf c fa fb δ = qE (c δ) fa fb δ := by
  unfold dIf qE
  cases c δ with
  | none => rfl
  | some t => cases t <;> rfl
theorem v_ite_t : qE (some true) fa fb δ = fa δ := rfl
theorem v_ite_f : qE (some false) fa fb δ = fb δ := rfl
theorem v_lst : fLst fa δ = qL (fa δ) := by
  unfold fLst qL asList
  cases fa δ with
  | none => rfl
  | some x => cases x <;> rfl
theorem v_lst_s {l : List D} : qL (some (.list l)) = some l := rfl
theorem v_for : sFor fr G b δ = qFor (fr δ) G b δ := by
  unfold sFor qFor
  cases fr δ <;> rfl
theorem v_for_s {l : List D} : qFor (some l) G b δ = forD G b l δ := rfl
theorem v_for_nil : forD G b [] δ = some (.nx δ) := rfl
theorem v_asg : sAsg fa G δ = qD (qG (fa δ) G δ) := by
  unfold sAsg qG qD
  cases fa δ with
  | none => rfl
  | some d =>
    dsimp only [Option.bind_some]
    cases G d δ <;> rfl
theorem v_asg_s : qG (some d) G δ = G d δ := rfl
theorem v_asg_d {δ' : DS} : qD (some δ') = some (.nx δ') := rfl
theorem v_gn : gNl i d δ = if i < δ.length then some (δ.set i (some (.d d))) else none := rfl
theorem v_gt {n : Nat} {gs : List D → DS → Option DS} {l : List D} : gTn n gs (.tuple l) δ = if l.length = n then gs l δ else none := rfl
theorem v_gsn : gsNil [] δ = some δ := rfl
theorem v_gsc {gs : List D → DS → Option DS} {l : List D} : gsCons G gs (d :: l) δ = qGs (G d δ) gs l := by
  show (G d δ).bind (fun δ' => gs l δ') = qGs (G d δ) gs l
  cases G d δ <;> rfl
theorem v_gsc_s {gs : List D → DS → Option DS} {l : List D} {δ' : DS} : qGs (some δ') gs l = gs l δ' := rfl
theorem v_tup : dTup fr δ = qT (fr δ) := by
  unfold dTup qT
  cases fr δ <;> rfl
theorem v_tup_s {l : List D} : qT (some l) = if l.length ≤ sizeLine then some (.tuple l) else none := rfl
theorem v_dl : dLst fr δ = qK (fr δ) := by
  unfold dLst qK
  cases fr δ <;> rfl
theorem v_dl_s {l : List D} : qK (some l) = if l.length ≤ sizeLine then some (.list l) else none := rfl
theorem v_flat : dFlat fa δ = qFl flat (fa δ) := by
  unfold dFlat qFl
  cases fa δ <;> rfl
theorem v_fl1 : dFl1 fa δ = qFl fl1 (fa δ) := by
  unfold dFl1 qFl
  cases fa δ <;> rfl
theorem v_fl_s {p : D → Bool} : qFl p (some d) = if p d = true then some d else none := rfl
theorem v_app : sApp i fa δ = qA i (dVar i δ) (fa δ) δ := by
  unfold sApp qA
  cases dVar i δ with
  | none => rfl
  | some x =>
    cases fa δ with
    | none => cases x <;> rfl
    | some d => cases x <;> rfl
theorem v_app_s {l : List D} : qA i (some (.list l)) (some d) δ = if l.length < 1000000 then some (.nx (δ.set i (some (.d (.list (l ++ [d])))))) else none := rfl
theorem v_put {fk : FE} : sPut i fk fa δ = qP i (fa δ) (dVar i δ) (fk δ) δ := by
  unfold sPut qP
  cases fa δ with
  | none => rfl
  | some d =>
    cases dVar i δ with
    | none => rfl
    | some x =>
      cases fk δ with
      | none => cases x <;> rfl
      | some k => cases x <;> cases k <;> rfl
theorem v_put_s {l : List D} {j : Int} : qP i (some d) (some (.list l)) (some (.int j)) δ = (pIx l.length j).bind fun n => some (.nx (δ.set i (some (.d (.list (l.set n d)))))) := rfl
theorem v_chain {g' : D → D → Option D} : dChain g g' fa fb fc δ = qCh g' (qO g (fa δ) (fb δ)) (fb δ) fc δ := by
  unfold dChain qCh qO
  cases fa δ with
  | none => rfl
  | some x =>
    cases fb δ with
    | none => rfl
    | some y =>
      dsimp only [Option.bind_some]
      cases g x y with
      | none => rfl
      | some z =>
        cases z <;> try rfl
        next b =>
        cases b with
        | false => rfl
        | true => dsimp only [Option.bind_some]; cases fc δ <;> rfl
theorem v_chain_t {g' : D → D → Option D} {y : Option D} : qCh g' (some (.bool true)) y fc δ = qO g' y (fc δ) := rfl
theorem v_chain_f {g' : D → D → Option D} {y : Option D} : qCh g' (some (.bool false)) y fc δ = some (.bool false) := rfl
theorem v_fn {p q : Nat} {ds : List D} : fnD p q b ds = if ds.length = p then qFn (b (ds.map (fun d => some (.d d)) ++ List.replicate q none)) else none := by
  unfold fnD qFn
  rfl
theorem v_fn_rt : qFn (some (.rt d)) = some d := rfl
theorem v_fn_nx {δ' : DS} : qFn (some (.nx δ')) = some .none := rfl
theorem v_comp {t : Nat} {ix : List Nat} : dComp fr G c fa t ix δ = qCo (fr δ) G c fa t ix δ := by
  unfold dComp qCo
  cases fr δ with
  | none => rfl
  | some l =>
    dsimp only [Option.bind_some]
    by_cases z : l.length ≤ 100000
    · rw [if_pos z, if_pos z]
      cases compD G c fa (capD t ix δ) l <;> rfl
    · rw [if_neg z, if_neg z]
theorem v_comp_s {t : Nat} {ix : List Nat} {l : List D} : qCo (some l) G c fa t ix δ = if l.length ≤ 100000 then (match compD G c fa (capD t ix δ) l with | some r => some (.list r) | none => none) else none := rfl
theorem v_yes : D3.tYes δ = some true := rfl
theorem v_var0 {r : DS} {x : D} : dVar 0 (some (.d x) :: r) = some x := rfl
theorem v_varS {r : DS} {y : Option U} : dVar (i + 1) (y :: r) = dVar i r := rfl
end
section
variable {i j : Int} {l m : List D} {d : D}
theorem n_add : gAdd (.int i) (.int j) = some (.int (i + j)) := rfl
theorem n_sub : gSub (.int i) (.int j) = some (.int (i - j)) := rfl
theorem n_lt : gLt (.int i) (.int j) = some (.bool (decide (i < j))) := rfl
theorem n_le : gLe (.int i) (.int j) = some (.bool (decide (i ≤ j))) := rfl
theorem n_gt : gGt (.int i) (.int j) = some (.bool (decide (j < i))) := rfl
theorem n_ge : gGe (.int i) (.int j) = some (.bool (decide (j ≤ i))) := rfl
theorem n_eqI : gEq (.int i) (.int j) = some (.bool (decide (i = j))) := rfl
theorem n_neI : gNe (.int i) (.int j) = some (.bool (!decide (i = j))) := rfl
theorem n_len : gLen [.list l] = some (.int l.length) := rfl
theorem n_lenT : gLen [.tuple l] = some (.int l.length) := rfl
theorem intsD_map : ∀ ns : List Int, intsD (ns.map .int) = some ns
  | [] => rfl
  | n :: r => by rw [List.map_cons, intsD, intsD_map r]; rfl
theorem n_abs : gAbs [.int i] = some (.int (if i < 0 then -i else i)) := rfl
theorem n_max : gMax2 [.int i, .int j] = some (.int (if j > i then j else i)) := rfl
theorem n_min : gMin2 [.int i, .int j] = some (.int (if j < i then j else i)) := rfl
theorem n_neg : gNeg (.int i) = some (.int (-i)) := rfl
theorem n_ix : gIx (.list l) (.int i) = pAt l i := rfl
theorem n_ixT : gIx (.tuple l) (.int i) = pAt l i := rfl
theorem n_cat : gCat (.list l) (.list m) = if l.length + m.length ≤ 1000000 then some (.list (l ++ m)) else none := rfl
theorem n_list : gList (.list l) = some (.list l) := rfl
theorem n_listT : gList (.tuple l) = some (.list l) := rfl
theorem n_at0 : pAt (d :: l) 0 = some d := by
  unfold pAt pIx
  rw [if_pos (by decide), if_pos (by simp)]
  rfl
end
def qPar (i j : Nat) (a : Option (List D)) (δ : DS) : Option Oc := match a with
  | some l => match l with
    | [x, y] => if i < δ.length ∧ j < δ.length then some (.nx ((δ.set i (some (.d x))).set j (some (.d y)))) else none
    | _ => none
  | none => none
def qRng1 (a : Option (List D)) : Option (List D) := match a with
  | some l => match l with
    | [.int j] => if rngG j = true then some (rngD 0 j) else none
    | _ => none
  | none => none
def qRng2 (a : Option (List D)) : Option (List D) := match a with
  | some l => match l with
    | [.int i, .int j] => if (rngG i && rngG j) = true then some (rngD i j) else none
    | _ => none
  | none => none
def qSl (x : Option D) (a b : Option (Option Int)) : Option D := match x, a, b with
  | some (.list l), some a, some b => some (.list (cutD l a b))
  | _, _, _ => none
def qOP (x : Option D) : Option (Option Int) := match x with
  | some (.int i) => some (some i)
  | _ => none
def qEn (x : Option D) : Option (List D) := match x with
  | some (.list l) => some (enumD l)
  | _ => none
section
variable {a b : FS} {fa : FE} {fr : FA} {δ : DS} {i j : Nat} {g : FG}
theorem v_par : sPar i j fr δ = qPar i j (fr δ) δ := by
  unfold sPar qPar
  cases fr δ with
  | none => rfl
  | some l => rfl
theorem v_par_s {x y : D} : qPar i j (some [x, y]) δ = if i < δ.length ∧ j < δ.length then some (.nx ((δ.set i (some (.d x))).set j (some (.d y)))) else none := rfl
theorem v_rng1 : fRng1 fr δ = qRng1 (fr δ) := by
  unfold fRng1 qRng1
  cases fr δ with
  | none => rfl
  | some l => rfl
theorem rng1 {k : Int} (h : -(2 ^ 62) ≤ k) (h2 : k < 2 ^ 62) : qRng1 (some [.int k]) = some (rngD 0 k) := by
  show (if rngG k = true then some (rngD 0 k) else none) = _
  rw [if_pos]
  unfold rngG
  rw [decide_eq_true h, decide_eq_true h2]
  rfl
theorem v_rng2 : fRng2 fr δ = qRng2 (fr δ) := by
  unfold fRng2 qRng2
  cases fr δ with
  | none => rfl
  | some l => rfl
theorem v_sl {lo hi : FO} : dSl fa lo hi δ = qSl (fa δ) (lo δ) (hi δ) := by
  unfold dSl qSl
  cases fa δ with
  | none => rfl
  | some x =>
    dsimp only [Option.bind_some]
    cases lo δ with
    | none => cases x <;> rfl
    | some p =>
      dsimp only [Option.bind_some]
      cases hi δ with
      | none => cases x <;> rfl
      | some r => cases x <;> rfl
theorem v_sl_s {l : List D} {p r : Option Int} : qSl (some (.list l)) (some p) (some r) = some (.list (cutD l p r)) := rfl
theorem v_oN : oNone δ = some none := rfl
theorem v_oP : oPart fa δ = qOP (fa δ) := by
  unfold oPart qOP
  cases fa δ with
  | none => rfl
  | some x => cases x <;> rfl
theorem v_oP_s {k : Int} : qOP (some (.int k)) = some (some k) := rfl
theorem v_enum : fEnum fa δ = qEn (fa δ) := by
  unfold fEnum qEn
  cases fa δ with
  | none => rfl
  | some x => cases x <;> rfl
theorem v_enum_s {l : List D} : qEn (some (.list l)) = some (enumD l) := rfl
theorem for_inv (Inv : Nat → DS → Prop) : ∀ (l : List D) (δ : DS), Inv 0 δ → (∀ i d δ, l[i]? = some d → Inv i δ → ∃ δ1 δ', g d δ = some δ1 ∧ (b δ1 = some (.nx δ') ∨ b δ1 = some (.ct δ')) ∧ Inv (i + 1) δ') → ∃ δ', forD g b l δ = some (.nx δ') ∧ Inv l.length δ' := by
  have key : ∀ (l : List D) (k : Nat) (δ : DS), Inv k δ → (∀ i d δ, l[i]? = some d → Inv (k + i) δ → ∃ δ1 δ', g d δ = some δ1 ∧ (b δ1 = some (.nx δ') ∨ b δ1 = some (.ct δ')) ∧ Inv (k + i + 1) δ') → ∃ δ', forD g b l δ = some (.nx δ') ∧ Inv (k + l.length) δ' := by
    intro l
    induction l with
    | nil => exact fun k δ h _ => ⟨δ, rfl, h⟩
    | cons d r ih =>
      intro k δ h hs
      obtain ⟨δ1, δ', e1, e2, e3⟩ := hs 0 d δ rfl h
      obtain ⟨δ2, e4, e5⟩ := ih (k + 1) δ' e3 fun i d' δ'' hd hi => by
        have := hs (i + 1) d' δ'' (by simpa using hd) (by rw [show k + (i + 1) = k + 1 + i by omega]; exact hi)
        rw [show k + (i + 1) + 1 = k + 1 + i + 1 by omega] at this
        exact this
      refine ⟨δ2, ?_, by rw [List.length_cons, show k + (r.length + 1) = k + 1 + r.length by omega]; exact e5⟩
      rw [forD, e1, Option.bind_some]
      rcases e2 with e2 | e2
      · rw [e2]; exact e4
      · rw [e2]; exact e4
  intro l δ h hs
  have := key l 0 δ h fun i d δ hd hi => by
    have := hs i d δ hd (by rw [Nat.zero_add] at hi; exact hi)
    rw [Nat.zero_add]
    exact this
  rw [Nat.zero_add] at this
  exact this
end
def qX (a : Option D) (δ : DS) : Option Oc := match a with
  | some _ => some (.nx δ)
  | none => none
theorem v_expr {fa : FE} {δ : DS} : sExpr fa δ = qX (fa δ) δ := by
  unfold sExpr qX
  cases fa δ <;> rfl
theorem v_expr_s {d : D} {δ : DS} : qX (some d) δ = some (.nx δ) := rfl
theorem v_chain3 {g g' g'' : D → D → Option D} {fa fb fc fd : FE} {δ : DS} : dChain3 g g' g'' fa fb fc fd δ = qAnd (qO g (fa δ) (fb δ)) (dChain g' g'' fb fc fd) δ := by
  unfold dChain3 qAnd dChain qO
  cases fa δ with
  | none => rfl
  | some x =>
    cases fb δ with
    | none => rfl
    | some y =>
      dsimp only [Option.bind_some]
      cases g x y with
      | none => rfl
      | some z =>
        cases z <;> try rfl
        next b => cases b <;> rfl
def qZ (a b : Option D) : Option (List D) := match a, b with
  | some (.list l), some (.list m) => some (zipD l m)
  | _, _ => none
theorem v_zip {f g : FE} {δ : DS} : fZip f g δ = qZ (f δ) (g δ) := by
  unfold fZip qZ
  cases f δ with
  | none => rfl
  | some x =>
    cases g δ with
    | none => cases x <;> rfl
    | some y => cases x <;> cases y <;> rfl
theorem v_zip_s {l m : List D} : qZ (some (.list l)) (some (.list m)) = some (zipD l m) := rfl
theorem v_n1 {fa : FE} {δ : DS} : dN1 fa δ = qFl (fun d => decide (nl d ≤ 1)) (fa δ) := by
  unfold dN1 qFl
  cases fa δ <;> rfl
theorem f_non : flat .none = true := rfl
theorem f_bl {b : Bool} : flat (.bool b) = true := rfl
theorem f_int {i : Int} : flat (.int i) = true := rfl
theorem f_str {x : Str} : flat (.str x) = true := rfl
theorem f_lst {l : List D} : flat (.list l) = false := rfl
theorem f_tup {l : List D} : flat (.tuple l) = flats l := rfl
theorem f_nil : flats [] = true := rfl
theorem f_cons {d : D} {l : List D} : flats (d :: l) = (flat d && flats l) := rfl
theorem f1_non : fl1 .none = true := rfl
theorem f1_bl {b : Bool} : fl1 (.bool b) = true := rfl
theorem f1_int {i : Int} : fl1 (.int i) = true := rfl
theorem f1_str {x : Str} : fl1 (.str x) = true := rfl
theorem f1_lst {l : List D} : fl1 (.list l) = flats l := rfl
theorem f1_tup {l : List D} : fl1 (.tuple l) = flats l := rfl
theorem u_is {c : String} {d : D} : gIs c d = some (.bool (isT c (tyD d))) := rfl
theorem u_isN {d : D} : gIsN d = some (.bool (isNone d)) := rfl
theorem u_notN {d : D} : gNotN d = some (.bool (!isNone d)) := rfl
theorem n_non : isNone .none = true := rfl
theorem n_bl {b : Bool} : isNone (.bool b) = false := rfl
theorem n_int {i : Int} : isNone (.int i) = false := rfl
theorem n_str {x : Str} : isNone (.str x) = false := rfl
theorem n_lst {l : List D} : isNone (.list l) = false := rfl
theorem n_tup {l : List D} : isNone (.tuple l) = false := rfl
theorem n_dic {l : List (D × D)} : isNone (.dict l) = false := rfl
def EVL := And.intro @f_non <| And.intro @f_bl <| And.intro @f_int <| And.intro @f_str <| And.intro @f_lst <| And.intro @f_tup <| And.intro @f_nil <| And.intro @f_cons <| And.intro @f1_non <| And.intro @f1_bl <| And.intro @f1_int <| And.intro @f1_str <| And.intro @f1_lst <| And.intro @f1_tup <| And.intro @u_is <| And.intro @u_isN <| And.intro @u_notN <| And.intro @n_non <| And.intro @n_bl <| And.intro @n_int <| And.intro @n_str <| And.intro @n_lst <| And.intro @n_tup <| And.intro @n_dic <| And.intro @List.length_cons.{0} <| And.intro @List.length_nil.{0} <| And.intro @List.map_cons.{0, 0} <| And.intro @List.map_nil.{0, 0} <| And.intro @List.replicate_succ.{0} <| And.intro @List.replicate_zero.{0} <| And.intro @List.cons_append.{0} <| And.intro @List.nil_append.{0} <| And.intro @List.append_nil.{0} <| And.intro @List.set_cons_zero.{0} <| And.intro @List.set_cons_succ.{0} <| And.intro @Nat.zero_add <| And.intro @if_true.{1} <| And.intro @decide_true <| And.intro @decide_false <| And.intro @Int.cast_ofNat_Int <| And.intro @Bool.not_true <| And.intro @Bool.not_false <| @Bool.and_self
def EV := And.intro EVL <| And.intro @v_n1 <| And.intro @v_zip <| And.intro @v_zip_s <| And.intro @v_expr <| And.intro @v_expr_s <| And.intro @v_chain3 <| And.intro @v_seq (And.intro @v_seq_nx (And.intro @v_seq_rt (And.intro @v_seq_bk (And.intro @v_seq_ct (And.intro @v_nil (And.intro @v_bk (And.intro @v_ct (And.intro @v_if (And.intro @v_if_t (And.intro @v_if_f (And.intro @v_op (And.intro @v_op_s (And.intro @v_un (And.intro @v_un_s (And.intro @v_lnil (And.intro @v_lcons (And.intro @v_lcons_s (And.intro @v_call (And.intro @v_call_s (And.intro @v_ret (And.intro @v_ret_s (And.intro @v_retN (And.intro @v_set (And.intro @v_set_s (And.intro @v_c (And.intro @v_and (And.intro @v_and_t (And.intro @v_and_f (And.intro @v_or (And.intro @v_or_t (And.intro @v_or_f (And.intro @v_not (And.intro @v_not_s (And.intro @v_tb (And.intro @v_tb_s (And.intro @v_tand (And.intro @v_tand_t (And.intro @v_tand_f (And.intro @v_tor (And.intro @v_tor_t (And.intro @v_tor_f (And.intro @v_tnot (And.intro @v_tnot_s (And.intro @v_ite (And.intro @v_ite_t (And.intro @v_ite_f (And.intro @v_lst (And.intro @v_lst_s (And.intro @v_for (And.intro @v_for_s (And.intro @v_for_nil (And.intro @v_asg (And.intro @v_asg_s (And.intro @v_asg_d (And.intro @v_gn (And.intro @v_gt (And.intro @v_gsn (And.intro @v_gsc (And.intro @v_gsc_s (And.intro @v_tup (And.intro @v_tup_s (And.intro @v_dl (And.intro @v_dl_s (And.intro @v_flat (And.intro @v_fl1 (And.intro @v_fl_s (And.intro @v_app (And.intro @v_app_s (And.intro @v_put (And.intro @v_put_s (And.intro @v_chain (And.intro @v_chain_t (And.intro @v_chain_f (And.intro @v_fn (And.intro @v_fn_rt (And.intro @v_fn_nx (And.intro @v_comp (And.intro @v_comp_s (And.intro @v_yes (And.intro @v_var0 (And.intro @v_varS (And.intro @n_add (And.intro @n_sub (And.intro @n_lt (And.intro @n_le (And.intro @n_gt (And.intro @n_ge (And.intro @n_eqI (And.intro @n_neI (And.intro @n_len (And.intro @n_lenT (And.intro @n_abs (And.intro @n_max (And.intro @n_min (And.intro @n_neg (And.intro @n_ix (And.intro @n_ixT (And.intro @n_cat (And.intro @n_list (And.intro @n_listT (And.intro @n_at0 (And.intro @v_par (And.intro @v_par_s (And.intro @v_rng1 (And.intro @v_rng2 (And.intro @v_sl (And.intro @v_sl_s (And.intro @v_oN (And.intro @v_oP (And.intro @v_oP_s (And.intro @v_enum @v_enum_s)))))))))))))))))))))))))))))))))))))))))))))))))))))))))))))))))))))))))))))))))))))))))))))))))))))))))))))))
end D3
namespace My
def cellF (ns : List Int) (i : Int) : Int :=
  if i < (ns.length : Int) then ns.getD i.toNat 0 % 1000000007
  else if ns = [] then 7919 * i + 5000011
  else ns.getD (i * 7 % (ns.length : Int)).toNat 0 % 1000000007 + 7919 * i
def divs (n : Int) : Nat → Int
  | 0 => n
  | k + 1 => divs n k / 1000003
def drawF (c i k m : Int) : Int :=
  (((c + 65537 * i + 3) * (1299709 + 15485863 * k) % 2147483629 * ((c + 65537 * i + 3) * (1299709 + 15485863 * k) % 2147483629) % 1500450271 + 104729) *
    ((c + 65537 * i + 3) * (1299709 + 15485863 * k) % 2147483629 * ((c + 65537 * i + 3) * (1299709 + 15485863 * k) % 2147483629) % 1500450271 + 104729)) % 715827883 / 64 % m
def partF (ns : List Int) (i k m : Int) : Int :=
  if i < (ns.length : Int) ∧ 10 ^ 40 ≤ ns.getD i.toNat 0 ∧ 0 < divs (ns.getD i.toNat 0) k.toNat then divs (ns.getD i.toNat 0) k.toNat % 1000003 % m
  else drawF (cellF ns i) i k m
theorem partF_range (ns : List Int) (i k : Int) {m : Int} (h : 0 < m) : 0 ≤ partF ns i k m ∧ partF ns i k m < m := by
  unfold partF drawF
  split
  · exact ⟨Int.emod_nonneg _ (by omega), Int.emod_lt_of_pos _ h⟩
  · exact ⟨Int.emod_nonneg _ (by omega), Int.emod_lt_of_pos _ h⟩
theorem partF_hit {ns : List Int} {i k m : Int} (h1 : i < (ns.length : Int)) (h2 : 10 ^ 40 ≤ ns.getD i.toNat 0) (h3 : 0 < divs (ns.getD i.toNat 0) k.toNat) :
    partF ns i k m = divs (ns.getD i.toNat 0) k.toNat % 1000003 % m := by
  unfold partF
  rw [if_pos ⟨h1, h2, h3⟩]
theorem partF_miss {ns : List Int} {i k m : Int} (h : ¬ (i < (ns.length : Int) ∧ 10 ^ 40 ≤ ns.getD i.toNat 0 ∧ 0 < divs (ns.getD i.toNat 0) k.toNat)) :
    partF ns i k m = drawF (cellF ns i) i k m := by
  unfold partF
  rw [if_neg h]
end My
namespace Com
open PySem D3
noncomputable def F_is_whole : List D → Option D := fnD 1 0 (sRet (dAnd (dUn (gIs "int") (dVar 0)) (dNot (dUn (gIs "bool") (dVar 0)))))
noncomputable def F_greatest_divisor : List D → Option D := fnD 2 1 (sSeq (sWhile (tBool (dOp gNe (dVar 1) (dC (.int 0)))) (sSeq (sSetl 2 (dOp gMod (dVar 0) (dVar 1)))
    (sSeq (sSetl 0 (dVar 1))
    (sSetl 1 (dVar 2)))))
    (sRet (dFlat (dVar 0))))
noncomputable def F__law_cell : List D → Option D := fnD 2 0 (sSeq (sIf (tBool (dOp gLt (dVar 1) (dCall gLen (dCons (dVar 0) (dNil))))) (sRet (dOp gMod (dOp gIx (dVar 0) (dVar 1)) (dC (.int 1000000007)))) (sNil))
    (sSeq (sIf (tBool (dOp gEq (dVar 0) (dLst (dNil)))) (sRet (dOp gAdd (dOp gMul (dC (.int 7919)) (dVar 1)) (dC (.int 5000011)))) (sNil))
    (sRet (dOp gAdd (dOp gMod (dOp gIx (dVar 0) (dOp gMod (dOp gMul (dVar 1) (dC (.int 7))) (dCall gLen (dCons (dVar 0) (dNil))))) (dC (.int 1000000007))) (dOp gMul (dC (.int 7919)) (dVar 1))))))
noncomputable def F__law_part : List D → Option D := fnD 4 2 (sSeq (sIf (D3.tAnd (tBool (dOp gLt (dVar 1) (dCall gLen (dCons (dVar 0) (dNil))))) (tBool (dOp gGe (dOp gIx (dVar 0) (dVar 1)) (dOp gPow (dC (.int 10)) (dC (.int 40)))))) (sSeq (sSetl 4 (dOp gIx (dVar 0) (dVar 1)))
    (sSeq (sFor (fRng1 (dCons (dVar 2) (dNil))) (gNl 5) (sSetl 4 (dOp gDiv (dVar 4) (dC (.int 1000003)))))
    (sIf (tBool (dOp gGt (dVar 4) (dC (.int 0)))) (sRet (dOp gMod (dOp gMod (dVar 4) (dC (.int 1000003))) (dVar 3))) (sNil)))) (sNil))
    (sSeq (sSetl 4 (dOp gMod (dOp gMul (dOp gAdd (dOp gAdd (dCall F__law_cell (dCons (dVar 0) (dCons (dVar 1) (dNil)))) (dOp gMul (dC (.int 65537)) (dVar 1))) (dC (.int 3))) (dOp gAdd (dC (.int 1299709)) (dOp gMul (dC (.int 15485863)) (dVar 2)))) (dC (.int 2147483629))))
    (sSeq (sSetl 4 (dOp gAdd (dOp gMod (dOp gMul (dVar 4) (dVar 4)) (dC (.int 1500450271))) (dC (.int 104729))))
    (sRet (dOp gMod (dOp gDiv (dOp gMod (dOp gMul (dVar 4) (dVar 4)) (dC (.int 715827883))) (dC (.int 64))) (dVar 3))))))
noncomputable def F__law_far : List D → Option D := fnD 2 0 (sSeq (sIf (tBool (dOp gLt (dVar 1) (dCall gLen (dCons (dVar 0) (dNil))))) (sRet (dOp gMod (dOp gIx (dVar 0) (dVar 1)) (dOp gPow (dC (.int 10)) (dC (.int 60))))) (sNil))
    (sRet (dOp gAdd (dOp gMul (dCall F__law_part (dCons (dVar 0) (dCons (dVar 1) (dCons (dC (.int 59)) (dCons (dOp gPow (dC (.int 10)) (dC (.int 6))) (dNil)))))) (dOp gPow (dC (.int 10)) (dC (.int 40)))) (dCall F__law_part (dCons (dVar 0) (dCons (dVar 1) (dCons (dC (.int 60)) (dCons (dOp gPow (dC (.int 10)) (dC (.int 6))) (dNil)))))))))
noncomputable def F__law_whole : List D → Option D := fnD 1 0 (sRet (dAnd (dUn (gIs "int") (dVar 0)) (dNot (dUn (gIs "bool") (dVar 0)))))
noncomputable def F__law_divisor : List D → Option D := fnD 2 0 (sSeq (sWhile (tBool (dOp gGt (dVar 1) (dC (.int 0)))) (sPar 0 1 (dCons (dVar 1) (dCons (dOp gMod (dVar 0) (dVar 1)) (dNil)))))
    (sRet (dFlat (dVar 0))))
noncomputable def F__law_right : List D → Option D := fnD 3 0 (sSeq (sIf (D3.tOr (D3.tNot (tBool (dUn (gIs "tuple") (dVar 0)))) (D3.tOr (tBool (dOp gNe (dCall gLen (dCons (dVar 0) (dNil))) (dC (.int 2)))) (D3.tOr (D3.tNot (tBool (dCall F__law_whole (dCons (dOp gIx (dVar 0) (dC (.int 0))) (dNil))))) (D3.tNot (tBool (dCall F__law_whole (dCons (dOp gIx (dVar 0) (dC (.int 1))) (dNil)))))))) (sRet (dC (.bool false))) (sNil))
    (sSeq (sIf (D3.tOr (tBool (dOp gLt (dOp gIx (dVar 0) (dC (.int 1))) (dC (.int 1)))) (tBool (dOp gNe (dCall F__law_divisor (dCons (dOp gIx (dVar 0) (dC (.int 0))) (dCons (dOp gIx (dVar 0) (dC (.int 1))) (dNil)))) (dC (.int 1))))) (sRet (dC (.bool false))) (sNil))
    (sRet (dOp gEq (dOp gMul (dOp gIx (dVar 0) (dC (.int 0))) (dVar 2)) (dOp gMul (dVar 1) (dOp gIx (dVar 0) (dC (.int 1))))))))
noncomputable def F_under : List D → Option D := fnD 2 0 (sRet (dOp gLt (dOp gMul (dOp gIx (dVar 0) (dC (.int 0))) (dOp gIx (dVar 1) (dC (.int 1)))) (dOp gMul (dOp gIx (dVar 1) (dC (.int 0))) (dOp gIx (dVar 0) (dC (.int 1))))))
noncomputable def F__law_told : List D → Option D := fnD 3 1 (sSeq (sSetl 3 (dCall F_under (dCons (dVar 0) (dCons (dVar 1) (dNil)))))
    (sRet (dAnd (dUn (gIs "bool") (dVar 3)) (dOp gEq (dVar 3) (dVar 2)))))
noncomputable def F_all_whole : List D → Option D := fnD 1 0 (sRet (dCall gAll (dCons (dComp (fLst (dVar 0)) (gNl 0) (tYes) (dCall F_is_whole (dCons (dVar 0) (dNil))) 1 []) (dNil))))
noncomputable def F_is_tuple_of : List D → Option D := fnD 2 0 (sRet (dAnd (dUn (gIs "tuple") (dVar 0)) (dAnd (dOp gEq (dCall gLen (dCons (dVar 0) (dNil))) (dVar 1)) (dCall F_all_whole (dCons (dVar 0) (dNil))))))
noncomputable def F_is_pair : List D → Option D := fnD 1 0 (sRet (dCall F_is_tuple_of (dCons (dVar 0) (dCons (dC (.int 2)) (dNil)))))
noncomputable def F_is_ratio : List D → Option D := fnD 1 0 (sRet (dAnd (dCall F_is_pair (dCons (dVar 0) (dNil))) (dAnd (dOp gGe (dOp gIx (dVar 0) (dC (.int 1))) (dC (.int 1))) (dOp gEq (dCall F_greatest_divisor (dCons (dCall gAbs (dCons (dOp gIx (dVar 0) (dC (.int 0))) (dNil))) (dCons (dOp gIx (dVar 0) (dC (.int 1))) (dNil)))) (dC (.int 1))))))
noncomputable def F_is_chance : List D → Option D := fnD 1 0 (sRet (dAnd (dCall F_is_ratio (dCons (dVar 0) (dNil))) (dChain gLe gLe (dC (.int 0)) (dOp gIx (dVar 0) (dC (.int 0))) (dOp gIx (dVar 0) (dC (.int 1))))))
noncomputable def F_is_stretch : List D → Option D := fnD 1 0 (sRet (dAnd (dCall F_is_pair (dCons (dVar 0) (dNil))) (dChain3 gLe gLt gLe (dC (.int 0)) (dOp gIx (dVar 0) (dC (.int 0))) (dOp gIx (dVar 0) (dC (.int 1))) (dC (.int 400)))))
noncomputable def F__law_one : List D → Option D := fnD 3 2 (sSeq (sSetl 3 (dLst (dCons (dN1 (dC (.bool true))) (dCons (dN1 (dC (.bool false))) (dCons (dN1 (dC (.none))) (dCons (dN1 (dC (.str "2"))) (dCons (dN1 (dC (.str ""))) (dCons (dTup (dCons (dN1 (dC (.int 1))) (dNil))) (dCons (dTup (dCons (dN1 (dC (.int 1))) (dCons (dN1 (dC (.int 2))) (dNil)))) (dCons (dLst (dCons (dN1 (dC (.int 1))) (dNil))) (dCons (dC (.dict [])) (dCons (dN1 (dC (.str "1/2"))) (dCons (dLst (dNil)) (dCons (dTup (dNil)) (dNil)))))))))))))))
    (sSeq (sSetl 4 (dCall F__law_part (dCons (dVar 0) (dCons (dVar 1) (dCons (dVar 2) (dCons (dC (.int 10)) (dNil)))))))
    (sSeq (sIf (tBool (dOp gEq (dVar 4) (dC (.int 0)))) (sRet (dOp gIx (dVar 3) (dCall F__law_part (dCons (dVar 0) (dCons (dVar 1) (dCons (dOp gAdd (dVar 2) (dC (.int 1))) (dCons (dC (.int 12)) (dNil)))))))) (sNil))
    (sSeq (sIf (tBool (dOp gLt (dVar 4) (dC (.int 5)))) (sRet (dOp gSub (dCall F__law_part (dCons (dVar 0) (dCons (dVar 1) (dCons (dOp gAdd (dVar 2) (dC (.int 1))) (dCons (dC (.int 13)) (dNil)))))) (dC (.int 3)))) (sNil))
    (sSeq (sIf (tBool (dOp gLt (dVar 4) (dC (.int 8)))) (sRet (dOp gSub (dCall F__law_part (dCons (dVar 0) (dCons (dVar 1) (dCons (dOp gAdd (dVar 2) (dC (.int 1))) (dCons (dC (.int 406)) (dNil)))))) (dC (.int 2)))) (sNil))
    (sSeq (sIf (tBool (dOp gEq (dVar 4) (dC (.int 8)))) (sRet (dFlat (dOp gIx (dLst (dCons (dC (.int 0)) (dCons (dC (.int 1)) (dCons (dC (.int 399)) (dCons (dC (.int 400)) (dCons (dC (.int 401)) (dCons (dC (.int 100)) (dNil)))))))) (dCall F__law_part (dCons (dVar 0) (dCons (dVar 1) (dCons (dOp gAdd (dVar 2) (dC (.int 1))) (dCons (dC (.int 6)) (dNil))))))))) (sNil))
    (sRet (dOp gSub (dOp gDiv (dCall F__law_far (dCons (dVar 0) (dCons (dVar 1) (dNil)))) (dOp gAdd (dVar 2) (dC (.int 1)))) (dOp gPow (dC (.int 10)) (dC (.int 58)))))))))))
noncomputable def F__law_thing : List D → Option D := fnD 2 3 (sSeq (sSetl 2 (dCall F__law_one (dCons (dVar 0) (dCons (dVar 1) (dCons (dC (.int 1)) (dNil))))))
    (sSeq (sSetl 3 (dCall F__law_one (dCons (dVar 0) (dCons (dVar 1) (dCons (dC (.int 3)) (dNil))))))
    (sSeq (sSetl 4 (dCall F__law_part (dCons (dVar 0) (dCons (dVar 1) (dCons (dC (.int 0)) (dCons (dC (.int 12)) (dNil)))))))
    (sSeq (sIf (tBool (dOp gEq (dVar 4) (dC (.int 0)))) (sRet (dFl1 (dLst (dCons (dVar 2) (dCons (dVar 3) (dNil)))))) (sNil))
    (sSeq (sIf (tBool (dOp gEq (dVar 4) (dC (.int 1)))) (sRet (dTup (dCons (dFlat (dVar 2)) (dNil)))) (sNil))
    (sSeq (sIf (tBool (dOp gEq (dVar 4) (dC (.int 2)))) (sRet (dTup (dCons (dFlat (dVar 2)) (dCons (dFlat (dVar 3)) (dCons (dFlat (dVar 2)) (dNil)))))) (sNil))
    (sSeq (sIf (tBool (dOp gEq (dVar 4) (dC (.int 3)))) (sRet (dFlat (dVar 2))) (sNil))
    (sSeq (sIf (tBool (dOp gEq (dVar 4) (dC (.int 4)))) (sRet (dTup (dCons (dFlat (dVar 2)) (dCons (dFlat (dVar 2)) (dNil))))) (sNil))
    (sRet (dTup (dCons (dFlat (dVar 2)) (dCons (dFlat (dVar 3)) (dNil)))))))))))))
noncomputable def F__law_two : List D → Option D := fnD 1 0 (sRet (dAnd (dUn (gIs "tuple") (dVar 0)) (dAnd (dOp gEq (dCall gLen (dCons (dVar 0) (dNil))) (dC (.int 2))) (dAnd (dCall F__law_whole (dCons (dOp gIx (dVar 0) (dC (.int 0))) (dNil))) (dCall F__law_whole (dCons (dOp gIx (dVar 0) (dC (.int 1))) (dNil)))))))
noncomputable def F__law_ratio : List D → Option D := fnD 1 0 (sRet (dAnd (dCall F__law_two (dCons (dVar 0) (dNil))) (dAnd (dOp gGt (dOp gIx (dVar 0) (dC (.int 1))) (dC (.int 0))) (dOp gEq (dCall F__law_divisor (dCons (dOp gIx (dVar 0) (dC (.int 0))) (dCons (dOp gIx (dVar 0) (dC (.int 1))) (dNil)))) (dC (.int 1))))))
noncomputable def F__law_said : List D → Option D := fnD 2 0 (sRet (dAnd (dUn (gIs "bool") (dVar 0)) (dOp gEq (dVar 0) (dVar 1))))
noncomputable def F__law_asked : List D → Option D := fnD 2 4 (sSeq (sSetl 2 (dCall F__law_thing (dCons (dVar 0) (dCons (dVar 1) (dNil)))))
    (sSeq (sSetl 3 (dCall F__law_ratio (dCons (dVar 2) (dNil))))
    (sSeq (sSetl 4 (dAnd (dVar 3) (dAnd (dOp gGe (dOp gIx (dVar 2) (dC (.int 0))) (dC (.int 0))) (dOp gLe (dOp gIx (dVar 2) (dC (.int 0))) (dOp gIx (dVar 2) (dC (.int 1)))))))
    (sSeq (sSetl 5 (dAnd (dCall F__law_two (dCons (dVar 2) (dNil))) (dAnd (dOp gGe (dOp gIx (dVar 2) (dC (.int 0))) (dC (.int 0))) (dAnd (dOp gLt (dOp gIx (dVar 2) (dC (.int 0))) (dOp gIx (dVar 2) (dC (.int 1)))) (dOp gLt (dOp gIx (dVar 2) (dC (.int 1))) (dC (.int 401)))))))
    (sSeq (sIf (D3.tOr (D3.tNot (tBool (dCall F__law_said (dCons (dCall F_is_ratio (dCons (dVar 2) (dNil))) (dCons (dVar 3) (dNil)))))) (D3.tNot (tBool (dCall F__law_said (dCons (dCall F_is_chance (dCons (dVar 2) (dNil))) (dCons (dVar 4) (dNil))))))) (sRet (dC (.bool false))) (sNil))
    (sRet (dAnd (dCall F__law_said (dCons (dCall F_is_stretch (dCons (dVar 2) (dNil))) (dCons (dVar 5) (dNil)))) (dOp gEq (dVar 2) (dCall F__law_thing (dCons (dVar 0) (dCons (dVar 1) (dNil))))))))))))
noncomputable def F__law_due : List D → Option D := fnD 3 1 (sSeq (sFor (fRng2 (dCons (dVar 2) (dCons (dC (.int 400)) (dNil)))) (gNl 3) (sIf (tBool (dOp gGt (dOp gIx (dVar 0) (dVar 3)) (dVar 1))) (sRet (dFlat (dVar 3))) (sNil)))
    (sRet (dC (.none))))
noncomputable def F__law_stay : List D → Option D := fnD 5 2 (sSeq (sSetl 5 (dCall gMin2 (dCons (dC (.int 399)) (dCons (dOp gAdd (dVar 4) (dCall F__law_part (dCons (dVar 0) (dCons (dVar 1) (dCons (dVar 2) (dCons (dOp gIx (dLst (dCons (dC (.int 3)) (dCons (dC (.int 9)) (dCons (dC (.int 24)) (dCons (dC (.int 60)) (dNil)))))) (dVar 3)) (dNil))))))) (dNil)))))
    (sSeq (sSetl 6 (dOp gAdd (dC (.int 1)) (dCall F__law_part (dCons (dVar 0) (dCons (dVar 1) (dCons (dOp gAdd (dVar 2) (dC (.int 1))) (dCons (dOp gIx (dLst (dCons (dC (.int 2)) (dCons (dC (.int 6)) (dCons (dC (.int 24)) (dCons (dC (.int 60)) (dNil)))))) (dCall F__law_part (dCons (dVar 0) (dCons (dVar 1) (dCons (dOp gAdd (dVar 2) (dC (.int 2))) (dCons (dC (.int 4)) (dNil))))))) (dNil))))))))
    (sRet (dTup (dCons (dFlat (dVar 5)) (dCons (dCall gMin2 (dCons (dC (.int 400)) (dCons (dOp gAdd (dVar 5) (dVar 6)) (dNil)))) (dCons (dC (.none)) (dNil))))))))
noncomputable def F__law_guest : List D → Option D := fnD 5 2 (sSeq (sSetl 5 (dCall gMax2 (dCons (dC (.int 0)) (dCons (dOp gSub (dVar 3) (dCall F__law_part (dCons (dVar 0) (dCons (dVar 1) (dCons (dVar 2) (dCons (dC (.int 6)) (dNil))))))) (dNil)))))
    (sSeq (sSetl 6 (dCall F__law_part (dCons (dVar 0) (dCons (dVar 1) (dCons (dOp gAdd (dVar 2) (dC (.int 1))) (dCons (dOp gIx (dLst (dCons (dC (.int 2)) (dCons (dC (.int 9)) (dCons (dC (.int 30)) (dNil))))) (dCall F__law_part (dCons (dVar 0) (dCons (dVar 1) (dCons (dOp gAdd (dVar 2) (dC (.int 2))) (dCons (dC (.int 3)) (dNil))))))) (dNil)))))))
    (sRet (dTup (dCons (dFlat (dVar 5)) (dCons (dCall gMin2 (dCons (dC (.int 400)) (dCons (dOp gAdd (dOp gAdd (dVar 3) (dC (.int 1))) (dVar 6)) (dNil)))) (dCons (dFlat (dVar 4)) (dNil))))))))
noncomputable def F__law_full : List D → Option D := fnD 3 1 (sSeq (sFor (fLst (dCall gSort (dCons (dOp gCat (dLst (dCons (dVar 2) (dNil))) (dComp (fLst (dVar 0)) (gNl 0) (tYes) (dCall gMax2 (dCons (dVar 1) (dCons (dOp gIx (dVar 0) (dC (.int 0))) (dNil)))) 1 [2])) (dNil)))) (gNl 3) (sIf (tBool (dOp gGt (dCall gLen (dCons (dComp (fLst (dVar 0)) (gNl 0) (D3.tAnd (tBool (dOp gLe (dOp gIx (dVar 0) (dC (.int 0))) (dVar 1))) (tBool (dOp gLt (dVar 1) (dOp gIx (dVar 0) (dC (.int 1)))))) (dFlat (dVar 0)) 1 [3]) (dNil))) (dVar 1))) (sRet (dFlat (dVar 3))) (sNil)))
    (sRet (dC (.none))))
noncomputable def F__law_stays : List D → Option D := fnD 4 7 (sSeq (sSetl 4 (dCall F__law_part (dCons (dVar 0) (dCons (dC (.int 0)) (dCons (dC (.int 0)) (dCons (dC (.int 4)) (dNil)))))))
    (sSeq (sSetl 5 (dLst (dNil)))
    (sSeq (sFor (fRng1 (dCons (dVar 1) (dNil))) (gNl 6) (sIf (D3.tAnd (tBool (dOp gEq (dCall F__law_part (dCons (dVar 0) (dCons (dC (.int 1)) (dCons (dVar 6) (dCons (dC (.int 3)) (dNil)))))) (dC (.int 1)))) (tBool (dOp gLt (dCall gLen (dCons (dVar 5) (dNil))) (dVar 3)))) (sSeq (sSetl 7 (dCall F__law_part (dCons (dVar 0) (dCons (dC (.int 1)) (dCons (dOp gAdd (dC (.int 12)) (dVar 6)) (dCons (dOp gAdd (dCall gLen (dCons (dVar 5) (dNil))) (dC (.int 1))) (dNil)))))))
    (sIns 5 (dVar 7) (dCall F__law_guest (dCons (dVar 0) (dCons (dC (.int 2)) (dCons (dOp gMul (dC (.int 3)) (dVar 6)) (dCons (dVar 2) (dCons (dVar 6) (dNil))))))))) (sNil)))
    (sSeq (sSetl 8 (dOp gEq (dCall F__law_part (dCons (dVar 0) (dCons (dC (.int 0)) (dCons (dC (.int 6)) (dCons (dC (.int 6)) (dNil)))))) (dC (.int 1))))
    (sSeq (sFor (fRng1 (dCons (dOp gIx (dLst (dCons (dC (.int 10)) (dCons (dC (.int 30)) (dNil)))) (dCall gInt (dCons (dVar 8) (dNil)))) (dNil))) (gNl 9) (sSeq (sSetl 10 (dCall F__law_stay (dCons (dVar 0) (dCons (dOp gAdd (dC (.int 10)) (dVar 9)) (dCons (dC (.int 0)) (dCons (dVar 4) (dCons (dVar 2) (dNil))))))))
    (sSeq (sSetl 7 (dCall F__law_part (dCons (dVar 0) (dCons (dC (.int 4)) (dCons (dVar 9) (dCons (dOp gAdd (dCall gLen (dCons (dVar 5) (dNil))) (dC (.int 1))) (dNil)))))))
    (sIf (D3.tAnd (tBool (dOp gLt (dCall gLen (dCons (dVar 5) (dNil))) (dVar 3))) (tBool (dUn gIsN (dCall F__law_full (dCons (dOp gCat (dVar 5) (dLst (dCons (dVar 10) (dNil)))) (dCons (dVar 1) (dCons (dVar 2) (dNil)))))))) (sIns 5 (dVar 7) (dVar 10)) (sNil)))))
    (sRet (dFl1 (dVar 5))))))))
noncomputable def F__law_plan : List D → Option D := fnD 4 5 (sSeq (sSetl 4 (dComp (fLst (dVar 2)) (gNl 0) (tYes) (dFlat (dOp gIx (dVar 0) (dC (.int 2)))) 1 []))
    (sSeq (sFor (fLst (dCall gSort (dCons (dComp (fRng1 (dCons (dCall gLen (dCons (dVar 2) (dNil))) (dNil))) (gNl 0) (tYes) (dFlat (dTup (dCons (dOp gIx (dOp gIx (dVar 1) (dVar 0)) (dC (.int 0))) (dCons (dVar 0) (dNil))))) 1 [2]) (dNil)))) (gTn 2 (gsCons (gNl 5) (gsCons (gNl 6) (gsNil)))) (sSeq (sSetl 7 (dComp (fRng1 (dCons (dCall gLen (dCons (dVar 2) (dNil))) (dNil))) (gNl 0) (D3.tAnd (tBool (dOp gLe (dOp gIx (dOp gIx (dVar 3) (dVar 0)) (dC (.int 0))) (dVar 2))) (tBool (dOp gLt (dVar 2) (dOp gIx (dOp gIx (dVar 3) (dVar 0)) (dC (.int 1)))))) (dFlat (dOp gIx (dVar 1) (dVar 0))) 1 [4, 5, 2]))
    (sSeq (sSetl 8 (dComp (fRng1 (dCons (dVar 3) (dNil))) (gNl 0) (tBool (dOp gNotin (dVar 0) (dVar 1))) (dFlat (dVar 0)) 1 [7]))
    (sIf (tBool (dUn gIsN (dOp gIx (dVar 4) (dVar 6)))) (sPut 4 (dVar 6) (dOp gIx (dVar 8) (dCall F__law_part (dCons (dVar 0) (dCons (dVar 1) (dCons (dVar 6) (dCons (dCall gLen (dCons (dVar 8) (dNil))) (dNil)))))))) (sNil)))))
    (sRet (dFl1 (dVar 4)))))
noncomputable def F__law_now : List D → Option D := fnD 1 0 (sRet (dFlat (dOp gIx (dLst (dCons (dC (.int 0)) (dCons (dCall F__law_part (dCons (dVar 0) (dCons (dC (.int 0)) (dCons (dC (.int 1)) (dCons (dC (.int 40)) (dNil)))))) (dCons (dCall F__law_part (dCons (dVar 0) (dCons (dC (.int 0)) (dCons (dC (.int 1)) (dCons (dC (.int 400)) (dNil)))))) (dCons (dC (.int 390)) (dNil)))))) (dCall F__law_part (dCons (dVar 0) (dCons (dC (.int 0)) (dCons (dC (.int 2)) (dCons (dC (.int 4)) (dNil)))))))))
noncomputable def F_hinders : List D → Option D := fnD 2 0 (sRet (dAnd (dOr (dUn gNotN (dOp gIx (dVar 0) (dC (.int 2)))) (dOp gLt (dOp gIx (dVar 0) (dC (.int 0))) (dVar 1))) (dOp gGt (dOp gIx (dVar 0) (dC (.int 1))) (dVar 1))))
noncomputable def F_room_behind : List D → Option D := fnD 5 0 (sSeq (sIf (tBool (dOp gLt (dOp gIx (dVar 0) (dC (.int 0))) (dVar 2))) (sRet (dFlat (dVar 1))) (sNil))
    (sSeq (sIf (tBool (dOp gEq (dVar 1) (dVar 3))) (sRet (dFlat (dVar 4))) (sNil))
    (sSeq (sIf (tBool (dOp gEq (dVar 1) (dVar 4))) (sRet (dFlat (dVar 3))) (sNil))
    (sRet (dFlat (dVar 1))))))
noncomputable def F__law_beyond : List D → Option D := fnD 2 4 (sSeq (sSetl 2 (dLst (dNil)))
    (sSeq (sFor (fLst (dVar 0)) (gTn 3 (gsCons (gNl 3) (gsCons (gNl 4) (gsCons (gNl 5) (gsNil))))) (sSeq (sIf (tBool (dUn gNotN (dVar 5))) (sSetl 5 (dCall F__law_far (dCons (dVar 1) (dCons (dVar 5) (dNil))))) (sNil))
    (sApp 2 (dTup (dCons (dVar 3) (dCons (dVar 4) (dCons (dVar 5) (dNil))))))))
    (sRet (dFl1 (dVar 2)))))
end Com
namespace Com
open PySem D3 My
theorem pAt_ints {ns : List Int} {i : Int} (h0 : 0 ≤ i) (h1 : i < ns.length) : pAt (ns.map PyData.int) i = some (.int (ns.getD i.toNat 0)) := by
  unfold pAt pIx
  rw [List.length_map, if_pos h0, if_pos h1, Option.bind_some, List.getElem?_map]
  have h : i.toNat < ns.length := by omega
  rw [List.getElem?_eq_getElem h]
  simp [List.getD, h]
theorem pAt_nat {l : List D} {k : Nat} : pAt l (k : Int) = l[k]? := by
  unfold pAt pIx
  rw [if_pos (by omega)]
  by_cases h : k < l.length
  · rw [if_pos (by omega), Option.bind_some]
    simp
  · rw [if_neg (by omega), List.getElem?_eq_none (by omega)]
    rfl
theorem at0 {a : D} {l : List D} : pAt (a :: l) 0 = some a := pAt_nat (k := 0)
theorem at1 {a b : D} {l : List D} : pAt (a :: b :: l) 1 = some b := pAt_nat (k := 1)
theorem modP {i j : Int} (h : 0 < j) : gMod (.int i) (.int j) = some (.int (i % j)) := by
  show (if decide (j ≠ 0) = true then some (PyData.int (i.fmod j)) else none) = _
  rw [if_pos (decide_eq_true (by omega)), Int.fmod_eq_emod_of_nonneg i (by omega)]
theorem small_lt {j : Int} (h : j.natAbs < 2 ^ 64) : j.natAbs < 2 ^ 9000 := Nat.lt_of_lt_of_le h (Nat.pow_le_pow_right (by decide) (by decide))
theorem divB {i j : Int} (h : 0 < j) (h2 : j.natAbs < 2 ^ 9000) : gDiv (.int i) (.int j) = some (.int (i / j)) := by
  show (if divG i j = true then some (PyData.int (i.fdiv j)) else none) = _
  have e : divG i j = true := by
    unfold divG
    rw [Bool.and_eq_true]
    exact ⟨decide_eq_true (by omega), decide_eq_true h2⟩
  rw [if_pos e, Int.fdiv_eq_ediv_of_nonneg i (by omega)]
theorem divP {i j : Int} (h : 0 < j) (h2 : j < 18446744073709551616) : gDiv (.int i) (.int j) = some (.int (i / j)) := divB h (small_lt (by omega))
theorem mulL {i j : Int} (h1 : -18446744073709551616 < i) (h2 : i < 18446744073709551616) : gMul (.int i) (.int j) = some (.int (i * j)) := by
  show (if mulG i j = true then some (PyData.int (i * j)) else none) = _
  have e : mulG i j = true := by
    unfold mulG
    rw [decide_eq_true (show i.natAbs < 2 ^ 64 by omega)]
    rfl
  rw [if_pos e]
theorem mulR {i j : Int} (h1 : -18446744073709551616 < j) (h2 : j < 18446744073709551616) : gMul (.int i) (.int j) = some (.int (i * j)) := by
  show (if mulG i j = true then some (PyData.int (i * j)) else none) = _
  have e : mulG i j = true := by
    unfold mulG
    rw [decide_eq_true (show j.natAbs < 2 ^ 64 by omega), Bool.or_true]
    rfl
  rw [if_pos e]
theorem pow40 : gPow (.int 10) (.int 40) = some (.int (10 ^ 40)) := rfl
theorem sz {n : Nat} (h : n ≤ 1000000) : n ≤ sizeLine := Nat.le_trans h (by decide)
theorem shaped_ints (ns : List Int) : SeqAt.shaped (.list (ns.map PyData.int)) = true := by
  have h1 : ∀ ns : List Int, PyData.canLayAll0 (ns.map PyData.int) = true := fun ns => by
    induction ns with
    | nil => rfl
    | cons a r ih => simp [PyData.canLayAll0, PyData.canLay0, ih]
  have h2 : ∀ ns : List Int, PyData.depthAll (ns.map PyData.int) ≤ 1 := fun ns => by
    induction ns with
    | nil => simp [PyData.depthAll]
    | cons a r ih => simp [PyData.depthAll, PyData.depth]; omega
  unfold SeqAt.shaped
  rw [Bool.and_eq_true]
  refine ⟨by simp [PyData.canLay0, h1], decide_eq_true ?_⟩
  have := h2 ns
  simp only [PyData.depth]
  omega
theorem eq_empty (ns : List Int) : gEq (.list (ns.map PyData.int)) (.list []) = some (.bool (decide (ns = []))) := by
  unfold gEq
  rw [shaped_ints ns]
  cases ns with
  | nil => rfl
  | cons a r => rfl
theorem cell_spec {ns : List Int} {i : Int} (h0 : 0 ≤ i) : F__law_cell [.list (ns.map .int), .int i] = some (.int (cellF ns i)) := by
  unfold F__law_cell cellF
  by_cases h : i < (ns.length : Int)
  · rw [if_pos h]
    simp only [EV, reduceIte, Nat.reduceAdd, Nat.reduceLT, Nat.reduceLeDiff, Nat.reduceEqDiff, Int.reduceEq, Int.reduceLT, Int.reduceLE, List.length_map, decide_eq_true h, pAt_ints h0 h, modP (show (0 : Int) < 1000000007 by decide)]
  · rw [if_neg h]
    by_cases hn : ns = []
    · rw [if_pos hn]
      simp only [EV, reduceIte, Nat.reduceAdd, Nat.reduceLT, Nat.reduceLeDiff, Nat.reduceEqDiff, Int.reduceEq, Int.reduceLT, Int.reduceLE, List.length_map, decide_eq_false h, eq_empty, decide_eq_true hn, Nat.zero_le, mulL (show (-18446744073709551616 : Int) < 7919 by decide) (show (7919 : Int) < 18446744073709551616 by decide)]
    · rw [if_neg hn]
      have hl : 0 < ns.length := by
        cases ns with
        | nil => exact absurd rfl hn
        | cons _ _ => simp
      have h7 : 0 ≤ i * 7 % (ns.length : Int) := Int.emod_nonneg _ (by omega)
      have h8 : i * 7 % (ns.length : Int) < (ns.length : Int) := Int.emod_lt_of_pos _ (by omega)
      simp only [EV, reduceIte, Nat.reduceAdd, Nat.reduceLT, Nat.reduceLeDiff, Nat.reduceEqDiff, Int.reduceEq, Int.reduceLT, Int.reduceLE, List.length_map, decide_eq_false h, eq_empty, decide_eq_false hn, Nat.zero_le, mulL (show (-18446744073709551616 : Int) < 7919 by decide) (show (7919 : Int) < 18446744073709551616 by decide), mulR (show (-18446744073709551616 : Int) < 7 by decide) (show (7 : Int) < 18446744073709551616 by decide), modP (show (0 : Int) < 1000000007 by decide), modP (show (0 : Int) < ns.length by omega), pAt_ints h7 h8]
theorem divs_loop {l : D} {i k m : D} (n : Int) : ∀ (js : List D) (c : Nat) (y : Option U), (∀ j ∈ js, ∃ x, j = .int x) → ∃ y', forD (gNl 5) (sSetl 4 (dOp gDiv (dVar 4) (dC (.int 1000003)))) js [some (.d l), some (.d i), some (.d k), some (.d m), some (.d (.int (divs n c))), y] =
    some (.nx [some (.d l), some (.d i), some (.d k), some (.d m), some (.d (.int (divs n (c + js.length)))), y'])
  | [], c, y, _ => ⟨y, rfl⟩
  | j :: js, c, y, h => by
    obtain ⟨y', e⟩ := divs_loop (l := l) (i := i) (k := k) (m := m) n js (c + 1) (some (.d j)) fun j' hj => h j' (List.mem_cons_of_mem _ hj)
    refine ⟨y', ?_⟩
    rw [forD]
    simp only [EV, reduceIte, Nat.reduceAdd, Nat.reduceLT, Nat.reduceLeDiff, Nat.reduceEqDiff, Int.reduceEq, Int.reduceLT, Int.reduceLE, divP (show (0 : Int) < 1000003 by decide) (show (1000003 : Int) < 18446744073709551616 by decide), Option.bind_some]
    rw [show c + (js.length + 1) = c + 1 + js.length by omega, ← e]
    rfl
theorem rngD_ints (lo hi : Int) : ∀ j ∈ rngD lo hi, ∃ x, j = .int x := by
  intro j hj
  unfold rngD at hj
  obtain ⟨k, _, rfl⟩ := List.mem_map.mp hj
  exact ⟨_, rfl⟩
theorem part_spec {ns : List Int} {i k m : Int} (h0 : 0 ≤ i) (hk0 : 0 ≤ k) (hk : k ≤ 1000) (hm : 0 < m) : F__law_part [.list (ns.map .int), .int i, .int k, .int m] = some (.int (partF ns i k m)) := by
  have rest : ∀ x y : Option U, qFn ((sSeq (sSetl 4 (dOp gMod (dOp gMul (dOp gAdd (dOp gAdd (dCall F__law_cell (dCons (dVar 0) (dCons (dVar 1) (dNil)))) (dOp gMul (dC (.int 65537)) (dVar 1))) (dC (.int 3))) (dOp gAdd (dC (.int 1299709)) (dOp gMul (dC (.int 15485863)) (dVar 2)))) (dC (.int 2147483629))))
    (sSeq (sSetl 4 (dOp gAdd (dOp gMod (dOp gMul (dVar 4) (dVar 4)) (dC (.int 1500450271))) (dC (.int 104729))))
    (sRet (dOp gMod (dOp gDiv (dOp gMod (dOp gMul (dVar 4) (dVar 4)) (dC (.int 715827883))) (dC (.int 64))) (dVar 3))))) [some (.d (.list (ns.map .int))), some (.d (.int i)), some (.d (.int k)), some (.d (.int m)), x, y]) = some (.int (drawF (cellF ns i) i k m)) := by
    intro x y
    have b1 : 0 ≤ (cellF ns i + 65537 * i + 3) * (1299709 + 15485863 * k) % 2147483629 := Int.emod_nonneg _ (by decide)
    have b2 : (cellF ns i + 65537 * i + 3) * (1299709 + 15485863 * k) % 2147483629 < 2147483629 := Int.emod_lt_of_pos _ (by decide)
    have b3 : 0 ≤ (cellF ns i + 65537 * i + 3) * (1299709 + 15485863 * k) % 2147483629 * ((cellF ns i + 65537 * i + 3) * (1299709 + 15485863 * k) % 2147483629) % 1500450271 := Int.emod_nonneg _ (by decide)
    have b4 : (cellF ns i + 65537 * i + 3) * (1299709 + 15485863 * k) % 2147483629 * ((cellF ns i + 65537 * i + 3) * (1299709 + 15485863 * k) % 2147483629) % 1500450271 < 1500450271 := Int.emod_lt_of_pos _ (by decide)
    simp only [EV, reduceIte, Nat.reduceAdd, Nat.reduceLT, Nat.reduceLeDiff, Nat.reduceEqDiff, Int.reduceEq, Int.reduceLT, Int.reduceLE, cell_spec h0, mulL (show (-18446744073709551616 : Int) < 65537 by decide) (show (65537 : Int) < 18446744073709551616 by decide), mulL (show (-18446744073709551616 : Int) < 15485863 by decide) (show (15485863 : Int) < 18446744073709551616 by decide),
      mulR (i := cellF ns i + 65537 * i + 3) (show (-18446744073709551616 : Int) < 1299709 + 15485863 * k by omega) (show 1299709 + 15485863 * k < (18446744073709551616 : Int) by omega), modP (show (0 : Int) < 2147483629 by decide)]
    simp only [mulL (show (-18446744073709551616 : Int) < (cellF ns i + 65537 * i + 3) * (1299709 + 15485863 * k) % 2147483629 by omega) (show (cellF ns i + 65537 * i + 3) * (1299709 + 15485863 * k) % 2147483629 < (18446744073709551616 : Int) by omega)]
    simp only [EV, reduceIte, Nat.reduceAdd, Nat.reduceLT, Nat.reduceLeDiff, Nat.reduceEqDiff, Int.reduceEq, Int.reduceLT, Int.reduceLE, modP (show (0 : Int) < 1500450271 by decide)]
    rw [mulL (by omega) (by omega)]
    simp only [EV, reduceIte, Nat.reduceAdd, Nat.reduceLT, Nat.reduceLeDiff, Nat.reduceEqDiff, Int.reduceEq, Int.reduceLT, Int.reduceLE, modP (show (0 : Int) < 715827883 by decide), divP (show (0 : Int) < 64 by decide) (show (64 : Int) < 18446744073709551616 by decide), modP hm]
    rfl
  unfold F__law_part
  rw [v_fn]
  simp only [EV, reduceIte, Nat.reduceAdd, Nat.reduceLT, Nat.reduceLeDiff, Nat.reduceEqDiff, Int.reduceEq, Int.reduceLT, Int.reduceLE]
  by_cases h : i < (ns.length : Int)
  · by_cases h2 : 10 ^ 40 ≤ ns.getD i.toNat 0
    · simp only [EV, reduceIte, Nat.reduceAdd, Nat.reduceLT, Nat.reduceLeDiff, Nat.reduceEqDiff, Int.reduceEq, Int.reduceLT, Int.reduceLE, List.length_map, decide_eq_true h, pAt_ints h0 h, pow40, decide_eq_true h2]
      obtain ⟨y', e⟩ := divs_loop (l := .list (ns.map .int)) (i := .int i) (k := .int k) (m := .int m) (ns.getD i.toNat 0) (rngD 0 k) 0 none (rngD_ints 0 k)
      have el : 0 + (rngD 0 k).length = k.toNat := by simp [rngD]
      rw [el] at e
      have e' : forD (gNl 5) (sSetl 4 (dOp gDiv (dVar 4) (dC (.int 1000003)))) (rngD 0 k) [some (.d (.list (ns.map .int))), some (.d (.int i)), some (.d (.int k)), some (.d (.int m)), some (.d (.int (ns.getD i.toNat 0))), none] =
        some (.nx [some (.d (.list (ns.map .int))), some (.d (.int i)), some (.d (.int k)), some (.d (.int m)), some (.d (.int (divs (ns.getD i.toNat 0) k.toNat))), y']) := e
      rw [rng1 (by omega) (by omega)]
      simp only [EV, reduceIte, Nat.reduceAdd, Nat.reduceLT, Nat.reduceLeDiff, Nat.reduceEqDiff, Int.reduceEq, Int.reduceLT, Int.reduceLE, e']
      by_cases h3 : 0 < divs (ns.getD i.toNat 0) k.toNat
      · simp only [EV, reduceIte, Nat.reduceAdd, Nat.reduceLT, Nat.reduceLeDiff, Nat.reduceEqDiff, Int.reduceEq, Int.reduceLT, Int.reduceLE, decide_eq_true h3, modP (show (0 : Int) < 1000003 by decide), modP hm]
        rw [partF_hit h h2 h3]
      · simp only [EV, reduceIte, Nat.reduceAdd, Nat.reduceLT, Nat.reduceLeDiff, Nat.reduceEqDiff, Int.reduceEq, Int.reduceLT, Int.reduceLE, decide_eq_false h3]
        rw [partF_miss (fun z => h3 z.2.2)]
        have := rest (some (.d (.int (divs (ns.getD i.toNat 0) k.toNat)))) y'
        simp only [EV, reduceIte, Nat.reduceAdd, Nat.reduceLT, Nat.reduceLeDiff, Nat.reduceEqDiff, Int.reduceEq, Int.reduceLT, Int.reduceLE] at this
        exact this
    · simp only [EV, reduceIte, Nat.reduceAdd, Nat.reduceLT, Nat.reduceLeDiff, Nat.reduceEqDiff, Int.reduceEq, Int.reduceLT, Int.reduceLE, List.length_map, decide_eq_true h, pAt_ints h0 h, pow40, decide_eq_false h2]
      rw [partF_miss (fun z => h2 z.2.1)]
      have := rest none none
      simp only [EV, reduceIte, Nat.reduceAdd, Nat.reduceLT, Nat.reduceLeDiff, Nat.reduceEqDiff, Int.reduceEq, Int.reduceLT, Int.reduceLE] at this
      exact this
  · simp only [EV, reduceIte, Nat.reduceAdd, Nat.reduceLT, Nat.reduceLeDiff, Nat.reduceEqDiff, Int.reduceEq, Int.reduceLT, Int.reduceLE, List.length_map, decide_eq_false h]
    rw [partF_miss (fun z => h z.1)]
    have := rest none none
    simp only [EV, reduceIte, Nat.reduceAdd, Nat.reduceLT, Nat.reduceLeDiff, Nat.reduceEqDiff, Int.reduceEq, Int.reduceLT, Int.reduceLE] at this
    exact this
end Com
namespace Com
open PySem D3 My
theorem cFil {α : Type} {g : FG} {c : FT} {e : FE} {δ : DS} (f : α → D) (p : α → Bool) (h : α → D) : ∀ l : List α, (∀ s ∈ l, ∃ δ1, g (f s) δ = some δ1 ∧ c δ1 = some (p s) ∧ (p s = true → e δ1 = some (h s))) → compD g c e δ (l.map f) = some ((l.filter p).map h)
  | [], _ => rfl
  | s :: r, hs => by
    obtain ⟨δ1, e1, e2, e3⟩ := hs s List.mem_cons_self
    have ih := cFil f p h r fun x hx => hs x (List.mem_cons_of_mem _ hx)
    rw [List.map_cons, compD, e1, Option.bind_some, e2, Option.bind_some]
    by_cases c : p s = true
    · rw [if_pos c, e3 c, Option.bind_some, ih, List.filter_cons, if_pos c]
      rfl
    · rw [if_neg c, ih, List.filter_cons, if_neg c]
theorem cMap {α : Type} {g : FG} {c : FT} {e : FE} {δ : DS} (f : α → D) (h : α → D) : ∀ l : List α, (∀ s ∈ l, ∃ δ1, g (f s) δ = some δ1 ∧ c δ1 = some true ∧ e δ1 = some (h s)) → compD g c e δ (l.map f) = some (l.map h)
  | [], _ => rfl
  | s :: r, hs => by
    obtain ⟨δ1, e1, e2, e3⟩ := hs s List.mem_cons_self
    rw [List.map_cons, compD, e1, Option.bind_some, e2, Option.bind_some, if_pos rfl, e3, Option.bind_some, cMap f h r fun x hx => hs x (List.mem_cons_of_mem _ hx)]
    rfl
theorem flats_all {α : Type} (f : α → D) (h : ∀ a, flat (f a) = true) : ∀ l : List α, flats (l.map f) = true
  | [] => rfl
  | a :: r => by rw [List.map_cons, flats, h, flats_all f h r]; rfl
theorem at2 {a b c : D} {l : List D} : pAt (a :: b :: c :: l) 2 = some c := pAt_nat (k := 2)
theorem at3 {a b c d : D} {l : List D} : pAt (a :: b :: c :: d :: l) 3 = some d := pAt_nat (k := 3)
theorem pAt_map {α : Type} (f : α → D) {l : List α} {i : Int} (h0 : 0 ≤ i) (h1 : i < l.length) : ∃ a ∈ l, pAt (l.map f) i = some (f a) := by
  have hk : i.toNat < l.length := by omega
  refine ⟨l[i.toNat], List.getElem_mem hk, ?_⟩
  obtain ⟨k, rfl⟩ : ∃ k : Nat, i = (k : Int) := ⟨i.toNat, by omega⟩
  rw [pAt_nat, List.getElem?_map]
  simp only [Int.toNat_natCast] at hk ⊢
  rw [List.getElem?_eq_getElem hk]
  rfl
theorem rng_len {m : Int} : (rngD 0 m).length = m.toNat := by unfold rngD; rw [List.length_map, List.length_range, Int.sub_zero]
theorem rng_map (m : Int) : rngD 0 m = (List.range m.toNat).map fun k : Nat => PyData.int (k : Int) := by
  unfold rngD
  rw [Int.sub_zero]
  apply List.map_congr_left
  intro k _
  rw [Int.zero_add]
theorem rng_at {m : Int} {i : Nat} {d : D} (h : (rngD 0 m)[i]? = some d) : (i : Int) < m ∧ d = .int (i : Int) := by
  rw [rng_map, List.getElem?_map] at h
  by_cases hi : i < m.toNat
  · rw [List.getElem?_range hi] at h
    cases h
    exact ⟨by omega, rfl⟩
  · rw [List.getElem?_eq_none (by simpa using hi)] at h
    cases h
theorem isList : D3.isT "list" "list" = true := rfl
mutual
theorem eqv_refl : ∀ d : D, d.canLay0 = true → PyData.eqv d d = true
  | .none, _ => by simp [PyData.eqv]
  | .bool b, _ => by simp [PyData.eqv]
  | .int i, _ => by simp [PyData.eqv]
  | .str x, _ => by simp [PyData.eqv]
  | .list l, h => by
    have := eqvAll_refl l (by simpa [PyData.canLay0] using h)
    simpa [PyData.eqv] using this
  | .tuple l, h => by
    have := eqvAll_refl l (by simpa [PyData.canLay0] using h)
    simpa [PyData.eqv] using this
  | .dict l, h => by simp [PyData.canLay0] at h
theorem eqvAll_refl : ∀ l : List D, PyData.canLayAll0 l = true → PyData.eqvAll l l = true
  | [], _ => by simp [PyData.eqvAll]
  | d :: r, h => by
    rw [PyData.canLayAll0, Bool.and_eq_true] at h
    rw [PyData.eqvAll, eqv_refl d h.1, eqvAll_refl r h.2]
    rfl
end
def ly (n : Nat) (d : D) : Prop := d.canLay0 = true ∧ d.depth ≤ n
def lys (n : Nat) (l : List D) : Prop := PyData.canLayAll0 l = true ∧ PyData.depthAll l ≤ n
theorem ly_le {n m : Nat} {d : D} (h : ly n d) (l : n ≤ m) : ly m d := ⟨h.1, Nat.le_trans h.2 l⟩
theorem lys_nil {n : Nat} : lys n [] := ⟨by simp [PyData.canLayAll0], by simp [PyData.depthAll]⟩
theorem lys_cons {n : Nat} {d : D} {l : List D} (h : ly n d) (q : lys n l) : lys n (d :: l) :=
  ⟨by rw [PyData.canLayAll0, h.1, q.1]; rfl, by have := h.2; have := q.2; simp only [PyData.depthAll]; omega⟩
theorem lys_map {α : Type} {n : Nat} (f : α → D) (h : ∀ a, ly n (f a)) : ∀ l : List α, lys n (l.map f)
  | [] => lys_nil
  | a :: r => lys_cons (h a) (lys_map f h r)
theorem ly_list {n : Nat} {l : List D} (h : lys n l) : ly (n + 1) (.list l) := ⟨by simp [PyData.canLay0, h.1], by have := h.2; simp only [PyData.depth]; omega⟩
theorem ly_tup {n : Nat} {l : List D} (h : lys n l) : ly (n + 1) (.tuple l) := ⟨by simp [PyData.canLay0, h.1], by have := h.2; simp only [PyData.depth]; omega⟩
theorem ly_int {n : Nat} {i : Int} : ly (n + 1) (.int i) := ⟨rfl, by simp [PyData.depth]⟩
theorem ly_shaped {d : D} (h : ly 60 d) : SeqAt.shaped d = true := by
  unfold SeqAt.shaped
  rw [Bool.and_eq_true]
  exact ⟨h.1, decide_eq_true (by have := h.2; omega)⟩
theorem eq_self {d : D} (h : ly 60 d) : gEq d d = some (.bool true) := by
  unfold gEq
  rw [ly_shaped h, eqv_refl d h.1]
  rfl
theorem ne_self {d : D} (h : ly 60 d) : gNe d d = some (.bool false) := by
  unfold gNe
  rw [ly_shaped h, eqv_refl d h.1]
  rfl
end Com
namespace Com
open PySem D3 My
def q (t b : Int) : Rat := mkRat t b.toNat
end Com
namespace Com
open PySem D3 My
def sm (k : Nat) (x : Int) : Prop := x.natAbs < 2 ^ k
theorem sm_le {k l : Nat} {x : Int} (h : sm k x) (hl : k ≤ l) : sm l x := Nat.lt_of_lt_of_le h (Nat.pow_le_pow_right (by decide) hl)
end Com
namespace Com
open PySem D3 My
structure Tb where
  N : Nat
  w : Nat → Int
  B : Int
def sumTo (f : Nat → Int) : Nat → Int
  | 0 => 0
  | n + 1 => sumTo f n + f n
structure TbOk (t : Tb) (k : Nat) : Prop where
  B0 : 0 < t.B
  Bs : sm (7 * k + 1) t.B
  w0 : ∀ j, 0 ≤ t.w j
  wB : ∀ j, t.w j ≤ t.B
  wz : ∀ j, t.N ≤ j → t.w j = 0
  N1 : 1 ≤ t.N
  N4 : t.N ≤ 1 + 4 * k
  sum : sumTo t.w t.N = t.B
end Com
namespace Com
open PySem D3 My
end Com
namespace Com
open PySem D3 My
theorem sm1 (k : Nat) {x : Int} (h : x.natAbs ≤ 1) : sm (k + 1) x := by
  unfold sm
  rw [Nat.pow_succ]
  have := Nat.one_le_two_pow (n := k)
  omega
structure bd (k : Nat) (a : Rat) : Prop where
  n : sm k a.num
  d : sm k (a.den : Int)
theorem bd.le {k l : Nat} {a : Rat} (h : bd k a) (hl : k ≤ l) : bd l a := ⟨sm_le h.n hl, sm_le h.d hl⟩
def sumR (l : List Rat) : Rat := l.foldl (· + ·) 0
end Com
namespace Com
open PySem D3 My
def over (ts : List Rat) (ρ : Rat) (n : Nat) : Bool := decide (ρ.num * (sumR (ts.drop (n + 1))).den < (sumR (ts.drop (n + 1))).num * ρ.den)
end Com
namespace Com
open PySem D3 My
theorem zl0 : 0 ≤ sizeLine := Nat.zero_le _
theorem zl1 : 1 ≤ sizeLine := sz (by decide)
theorem zl2 : 2 ≤ sizeLine := sz (by decide)
theorem zl3 : 3 ≤ sizeLine := sz (by decide)
theorem zl4 : 4 ≤ sizeLine := sz (by decide)
theorem zl5 : 5 ≤ sizeLine := sz (by decide)
abbrev Ty := Int × Int × Option Nat
def hD : Option Nat → D
  | none => .none
  | some r => .int (r : Int)
def yD (s : Ty) : D := .tuple [.int s.1, .int s.2.1, hD s.2.2]
theorem fli (i : Int) : flat (.int i) = true := rfl
theorem flat_yD (s : Ty) : flat (yD s) = true := by
  unfold yD hD
  obtain ⟨a, b, c⟩ := s
  cases c <;> rfl
theorem ly_hD {n : Nat} (o : Option Nat) : ly (n + 1) (hD o) := by
  cases o with
  | none => exact ⟨rfl, by simp [hD, PyData.depth]⟩
  | some r => exact ly_int
theorem ly_yD {n : Nat} (s : Ty) : ly (n + 2) (yD s) := ly_tup (lys_cons ly_int (lys_cons ly_int (lys_cons (ly_hD _) lys_nil)))
def hol (x : Int) (s : Ty) : Bool := decide (s.1 ≤ x) && decide (x < s.2.1)
def cntT (L : List Ty) (x : Int) : Nat := (L.filter (hol x)).length
theorem cntT_perm {L L' : List Ty} (p : L.Perm L') (x : Int) : cntT L x = cntT L' x := (p.filter _).length_eq
theorem cntT_le (L : List Ty) (x : Int) : cntT L x ≤ L.length := List.length_filter_le _ _
theorem tstay_spec (ns : List Int) {a m now : Int} (h0 : 0 ≤ a) (m0 : 0 ≤ m) (m1 : m < 4) (n1 : now ≤ 399) :
    ∃ s : Ty, now ≤ s.1 ∧ s.1 < s.2.1 ∧ s.2.2 = none ∧ F__law_stay [.list (ns.map .int), .int a, .int 0, .int m, .int now] = some (yD s) := by
  have go : ∀ A : Int, pAt [.int 3, .int 9, .int 24, .int 60] m = some (.int A) → 0 < A → ∃ s : Ty, now ≤ s.1 ∧ s.1 < s.2.1 ∧ s.2.2 = none ∧ F__law_stay [.list (ns.map .int), .int a, .int 0, .int m, .int now] = some (yD s) := by
    intro A eA A0
    have p1 := part_spec (ns := ns) (i := a) (k := 0) (m := A) h0 (by decide) (by decide) A0
    have p2 := part_spec (ns := ns) (i := a) (k := 2) (m := 4) h0 (by decide) (by decide) (by decide)
    have r1 := partF_range ns a 0 A0
    have r2 := partF_range ns a 2 (m := 4) (by decide)
    generalize partF ns a 0 A = x1 at *
    generalize partF ns a 2 4 = x2 at *
    have inner : ∀ B : Int, pAt [.int 2, .int 6, .int 24, .int 60] x2 = some (.int B) → 0 < B → ∃ s : Ty, now ≤ s.1 ∧ s.1 < s.2.1 ∧ s.2.2 = none ∧ F__law_stay [.list (ns.map .int), .int a, .int 0, .int m, .int now] = some (yD s) := by
      intro B eB B0
      have p3 := part_spec (ns := ns) (i := a) (k := 1) (m := B) h0 (by decide) (by decide) B0
      have r3 := partF_range ns a 1 B0
      generalize partF ns a 1 B = x3 at *
      refine ⟨(if now + x1 < 399 then now + x1 else 399, if (if now + x1 < 399 then now + x1 else 399) + (1 + x3) < 400 then (if now + x1 < 399 then now + x1 else 399) + (1 + x3) else 400, none), ?_, ?_, rfl, ?_⟩
      · dsimp only; split <;> omega
      · dsimp only; split <;> split <;> omega
      · have z1 : (0 : Int) + 1 = 1 := rfl
        have z2 : (0 : Int) + 2 = 2 := rfl
        unfold F__law_stay
        simp only [EV, reduceIte, Nat.reduceAdd, Nat.reduceLT, Nat.reduceLeDiff, Nat.reduceEqDiff, Int.reduceEq, Int.reduceLT, Int.reduceLE, zl4, zl3, fli, eA, p1, z1, z2, p2, eB, p3, n_min]
        rfl
    have : x2 = 0 ∨ x2 = 1 ∨ x2 = 2 ∨ x2 = 3 := by omega
    rcases this with rfl | rfl | rfl | rfl
    · exact inner 2 rfl (by decide)
    · exact inner 6 rfl (by decide)
    · exact inner 24 rfl (by decide)
    · exact inner 60 rfl (by decide)
  have : m = 0 ∨ m = 1 ∨ m = 2 ∨ m = 3 := by omega
  rcases this with rfl | rfl | rfl | rfl
  · exact go 3 rfl (by decide)
  · exact go 9 rfl (by decide)
  · exact go 24 rfl (by decide)
  · exact go 60 rfl (by decide)
theorem guest_spec (ns : List Int) {now : Int} {r : Nat} (hr : r ≤ 12) (n0 : 0 ≤ now) (n1 : now ≤ 399) :
    ∃ b e : Int, b ≤ now ∧ now < e ∧ F__law_guest [.list (ns.map .int), .int 2, .int (3 * (r : Int)), .int now, .int (r : Int)] = some (yD (b, e, some r)) := by
  have p1 := part_spec (ns := ns) (i := 2) (k := 3 * (r : Int)) (m := 6) (by decide) (by omega) (by omega) (by decide)
  have p2 := part_spec (ns := ns) (i := 2) (k := 3 * (r : Int) + 2) (m := 3) (by decide) (by omega) (by omega) (by decide)
  have r1 := partF_range ns 2 (3 * (r : Int)) (m := 6) (by decide)
  have r2 := partF_range ns 2 (3 * (r : Int) + 2) (m := 3) (by decide)
  generalize partF ns 2 (3 * (r : Int)) 6 = x1 at *
  generalize partF ns 2 (3 * (r : Int) + 2) 3 = x2 at *
  have inner : ∀ B : Int, pAt [.int 2, .int 9, .int 30] x2 = some (.int B) → 0 < B → ∃ b e : Int, b ≤ now ∧ now < e ∧ F__law_guest [.list (ns.map .int), .int 2, .int (3 * (r : Int)), .int now, .int (r : Int)] = some (yD (b, e, some r)) := by
    intro B eB B0
    have p3 := part_spec (ns := ns) (i := 2) (k := 3 * (r : Int) + 1) (m := B) (by decide) (by omega) (by omega) B0
    have r3 := partF_range ns 2 (3 * (r : Int) + 1) B0
    generalize partF ns 2 (3 * (r : Int) + 1) B = x3 at *
    refine ⟨if now - x1 > 0 then now - x1 else 0, if now + 1 + x3 < 400 then now + 1 + x3 else 400, ?_, ?_, ?_⟩
    · split <;> omega
    · split <;> omega
    · unfold F__law_guest
      simp only [EV, reduceIte, Nat.reduceAdd, Nat.reduceLT, Nat.reduceLeDiff, Nat.reduceEqDiff, Int.reduceEq, Int.reduceLT, Int.reduceLE, zl3, fli, p1, p2, eB, p3, n_min, n_max]
      rfl
  have : x2 = 0 ∨ x2 = 1 ∨ x2 = 2 := by omega
  rcases this with rfl | rfl | rfl
  · exact inner 2 rfl (by decide)
  · exact inner 9 rfl (by decide)
  · exact inner 30 rfl (by decide)
theorem now_spec (ns : List Int) : ∃ now : Int, 0 ≤ now ∧ now ≤ 399 ∧ F__law_now [.list (ns.map .int)] = some (.int now) := by
  have p1 := part_spec (ns := ns) (i := 0) (k := 1) (m := 40) (by decide) (by decide) (by decide) (by decide)
  have p2 := part_spec (ns := ns) (i := 0) (k := 1) (m := 400) (by decide) (by decide) (by decide) (by decide)
  have p3 := part_spec (ns := ns) (i := 0) (k := 2) (m := 4) (by decide) (by decide) (by decide) (by decide)
  have r1 := partF_range ns 0 1 (m := 40) (by decide)
  have r2 := partF_range ns 0 1 (m := 400) (by decide)
  have r3 := partF_range ns 0 2 (m := 4) (by decide)
  generalize partF ns 0 1 40 = x1 at *
  generalize partF ns 0 1 400 = x2 at *
  generalize partF ns 0 2 4 = x3 at *
  have : x3 = 0 ∨ x3 = 1 ∨ x3 = 2 ∨ x3 = 3 := by omega
  have fl : ∀ i, flat (.int i) = true := fun _ => rfl
  unfold F__law_now
  rcases this with rfl | rfl | rfl | rfl
  · exact ⟨0, by omega, by omega, by simp only [EV, reduceIte, Nat.reduceAdd, Nat.reduceLT, Nat.reduceLeDiff, Nat.reduceEqDiff, Int.reduceEq, Int.reduceLT, Int.reduceLE, zl4, p1, p2, p3, at0, fl]⟩
  · exact ⟨x1, by omega, by omega, by simp only [EV, reduceIte, Nat.reduceAdd, Nat.reduceLT, Nat.reduceLeDiff, Nat.reduceEqDiff, Int.reduceEq, Int.reduceLT, Int.reduceLE, zl4, p1, p2, p3, at1, fl]⟩
  · exact ⟨x2, by omega, by omega, by simp only [EV, reduceIte, Nat.reduceAdd, Nat.reduceLT, Nat.reduceLeDiff, Nat.reduceEqDiff, Int.reduceEq, Int.reduceLT, Int.reduceLE, zl4, p1, p2, p3, at2, fl]⟩
  · exact ⟨390, by omega, by omega, by simp only [EV, reduceIte, Nat.reduceAdd, Nat.reduceLT, Nat.reduceLeDiff, Nat.reduceEqDiff, Int.reduceEq, Int.reduceLT, Int.reduceLE, zl4, p1, p2, p3, at3, fl]⟩
theorem for_or {g : FG} {b : FS} (Inv : DS → Prop) (P V : D → Prop) : ∀ (l : List D) (δ : DS), Inv δ → (∀ d ∈ l, ∀ δ, Inv δ → ∃ δ1, g d δ = some δ1 ∧ ((∃ δ', b δ1 = some (.nx δ') ∧ Inv δ' ∧ P d) ∨ ∃ v, b δ1 = some (.rt v) ∧ V v)) →
    (∃ δ', forD g b l δ = some (.nx δ') ∧ Inv δ' ∧ ∀ d ∈ l, P d) ∨ ∃ v, forD g b l δ = some (.rt v) ∧ V v
  | [], δ, h, _ => .inl ⟨δ, rfl, h, fun _ z => by cases z⟩
  | d :: l, δ, h, s => by
    obtain ⟨δ1, e1, z⟩ := s d List.mem_cons_self δ h
    rcases z with ⟨δ', e2, h2, hp⟩ | ⟨v, e2, hv⟩
    · have e : forD g b (d :: l) δ = forD g b l δ' := by rw [forD, e1, Option.bind_some, e2, Option.bind_some]
      rw [e]
      rcases for_or Inv P V l δ' h2 (fun d hd => s d (List.mem_cons_of_mem _ hd)) with ⟨δ2, a1, a2, a3⟩ | z
      · exact .inl ⟨δ2, a1, a2, fun x hx => by
          rcases List.mem_cons.mp hx with rfl | y
          · exact hp
          · exact a3 x y⟩
      · exact .inr z
    · exact .inr ⟨v, by rw [forD, e1, Option.bind_some, e2, Option.bind_some], hv⟩
theorem full_spec {L : List Ty} {M : Nat} {now : Int} (hl : L.length ≤ 62) :
    (F__law_full [.list (L.map yD), .int (M : Int), .int now] = some .none ∧ ∀ s ∈ L, cntT L (if s.1 > now then s.1 else now) ≤ M) ∨ ∃ x, F__law_full [.list (L.map yD), .int (M : Int), .int now] = some (.int x) := by
  have C : compD (gNl 0) (D3.tYes) (dCall gMax2 (dCons (dVar 1) (dCons (dOp gIx (dVar 0) (dC (.int 0))) (dNil)))) (capD 1 [2] [some (.d (.list (L.map yD))), some (.d (.int (M : Int))), some (.d (.int now)), none]) (L.map yD) = some ((L.map fun s => if s.1 > now then s.1 else now).map PyData.int) := by
    rw [List.map_map]
    exact cMap yD _ L fun s _ => ⟨[some (.d (yD s)), some (.d (.int now))], rfl, rfl, by unfold yD; simp only [EV, reduceIte, Nat.reduceAdd, Nat.reduceLT, Nat.reduceLeDiff, Nat.reduceEqDiff, Int.reduceEq, Int.reduceLT, Int.reduceLE, at0, n_max]; rfl⟩
  have len : (L.map yD).length ≤ 100000 := by rw [List.length_map]; omega
  have C2 : ∀ x : Int, ∀ u : Option U, compD (gNl 0) (D3.tAnd (tBool (dOp gLe (dOp gIx (dVar 0) (dC (.int 0))) (dVar 1))) (tBool (dOp gLt (dVar 1) (dOp gIx (dVar 0) (dC (.int 1)))))) (dFlat (dVar 0)) (capD 1 [3] [some (.d (.list (L.map yD))), some (.d (.int (M : Int))), some (.d (.int now)), some (.d (.int x))]) (L.map yD) = some ((L.filter (hol x)).map yD) := fun x u =>
    cFil yD (hol x) yD L fun s _ => ⟨[some (.d (yD s)), some (.d (.int x))], rfl, by
      obtain ⟨a, b, c⟩ := s
      unfold yD hol
      simp only [EV, reduceIte, Nat.reduceAdd, Nat.reduceLT, Nat.reduceLeDiff, Nat.reduceEqDiff, Int.reduceEq, Int.reduceLT, Int.reduceLE, at0, at1]
      cases decide (a ≤ x) <;> simp only [D3.qTA, Bool.true_and, Bool.false_and] <;> simp only [EV, reduceIte, Nat.reduceAdd, Nat.reduceLT, Nat.reduceLeDiff, Nat.reduceEqDiff, Int.reduceEq, Int.reduceLT, Int.reduceLE, at0, at1], fun _ => by simp only [EV, reduceIte, Nat.reduceAdd, Nat.reduceLT, Nat.reduceLeDiff, Nat.reduceEqDiff, Int.reduceEq, Int.reduceLT, Int.reduceLE, flat_yD]⟩
  let S := now :: (L.map fun s => if s.1 > now then s.1 else now)
  have gs : gSort [.list (S.map PyData.int)] = some (.list ((srtI S).map .int)) := by
    unfold gSort
    have : S.length < 64 := by show (L.map _).length + 1 < 64; rw [List.length_map]; omega
    simp only [intsD_map, Option.bind_some, if_pos this]
  have cat : gCat (.list [.int now]) (.list ((L.map fun s => if s.1 > now then s.1 else now).map PyData.int)) = some (.list (S.map PyData.int)) := by
    rw [n_cat, if_pos (by rw [List.length_map, List.length_map]; show 1 + L.length ≤ _; omega)]
    rfl
  have F := for_or (g := (gNl 3)) (b := (sIf (tBool (dOp gGt (dCall gLen (dCons (dComp (fLst (dVar 0)) (gNl 0) (D3.tAnd (tBool (dOp gLe (dOp gIx (dVar 0) (dC (.int 0))) (dVar 1))) (tBool (dOp gLt (dVar 1) (dOp gIx (dVar 0) (dC (.int 1)))))) (dFlat (dVar 0)) 1 [3]) (dNil))) (dVar 1))) (sRet (dFlat (dVar 3))) (sNil))) (fun δ => ∃ u, δ = [some (.d (.list (L.map yD))), some (.d (.int (M : Int))), some (.d (.int now)), u]) (fun d => ∀ x, d = .int x → cntT L x ≤ M) (fun v => ∃ x, v = .int x) ((srtI S).map .int)
    [some (.d (.list (L.map yD))), some (.d (.int (M : Int))), some (.d (.int now)), none] ⟨none, rfl⟩ (by
      rintro d hd δ ⟨u, rfl⟩
      obtain ⟨x, hx, rfl⟩ := List.mem_map.mp hd
      refine ⟨[some (.d (.list (L.map yD))), some (.d (.int (M : Int))), some (.d (.int now)), some (.d (.int x))], rfl, ?_⟩
      have c2 := C2 x none
      have lf : ((L.filter (hol x)).map yD).length = cntT L x := by rw [List.length_map]; rfl
      by_cases z : cntT L x ≤ M
      · left
        refine ⟨[some (.d (.list (L.map yD))), some (.d (.int (M : Int))), some (.d (.int now)), some (.d (.int x))], ?_, ⟨_, rfl⟩, fun y hy => by cases hy; exact z⟩
        have : decide ((cntT L x : Int) > (M : Int)) = false := decide_eq_false (by omega)
        simp only [EV, reduceIte, Nat.reduceAdd, Nat.reduceLT, Nat.reduceLeDiff, Nat.reduceEqDiff, Int.reduceEq, Int.reduceLT, Int.reduceLE, len, c2, lf, this]
      · right
        refine ⟨.int x, ?_, x, rfl⟩
        have : decide ((cntT L x : Int) > (M : Int)) = true := decide_eq_true (by omega)
        have fl : flat (.int x) = true := rfl
        simp only [EV, reduceIte, Nat.reduceAdd, Nat.reduceLT, Nat.reduceLeDiff, Nat.reduceEqDiff, Int.reduceEq, Int.reduceLT, Int.reduceLE, len, c2, lf, this, fl])
  rcases F with ⟨δ', e, ⟨u, rfl⟩, hP⟩ | ⟨v, e, x, rfl⟩
  · left
    refine ⟨?_, fun s hs => hP (.int (if s.1 > now then s.1 else now)) (List.mem_map_of_mem ((srtI_perm S).mem_iff.mpr (List.mem_cons_of_mem _ (List.mem_map.mpr ⟨s, hs, rfl⟩)))) _ rfl⟩
    unfold F__law_full
    simp only [EV, reduceIte, Nat.reduceAdd, Nat.reduceLT, Nat.reduceLeDiff, Nat.reduceEqDiff, Int.reduceEq, Int.reduceLT, Int.reduceLE, zl1, len, C, cat, gs]
    rw [e]
    simp only [EV, reduceIte, Nat.reduceAdd, Nat.reduceLT, Nat.reduceLeDiff, Nat.reduceEqDiff, Int.reduceEq, Int.reduceLT, Int.reduceLE]
  · right
    refine ⟨x, ?_⟩
    unfold F__law_full
    simp only [EV, reduceIte, Nat.reduceAdd, Nat.reduceLT, Nat.reduceLeDiff, Nat.reduceEqDiff, Int.reduceEq, Int.reduceLT, Int.reduceLE, zl1, len, C, cat, gs]
    rw [e]
    simp only [EV, reduceIte, Nat.reduceAdd, Nat.reduceLT, Nat.reduceLeDiff, Nat.reduceEqDiff, Int.reduceEq, Int.reduceLT, Int.reduceLE]
end Com
namespace Com
open PySem D3 My
structure TOk (L : List Ty) (M : Nat) (now : Int) : Prop where
  len : L.length ≤ 24
  ok : ∀ s ∈ L, s.1 < s.2.1 ∧ (∀ r, s.2.2 = some r → r < M ∧ s.1 ≤ now ∧ now < s.2.1) ∧ (s.2.2 = none → now ≤ s.1)
  nd : (L.filterMap (·.2.2)).Nodup
  full : ∀ s ∈ L, cntT L (if s.1 > now then s.1 else now) ≤ M
def insT (k : Nat) (s : Ty) (L : List Ty) : List Ty := L.take k ++ s :: L.drop k
theorem insT_perm (k : Nat) (s : Ty) (L : List Ty) : (insT k s L).Perm (s :: L) := by
  unfold insT
  refine List.perm_middle.trans ?_
  rw [List.take_append_drop]
theorem insT_map {s : Ty} {L : List Ty} {j : Int} (hl : L.length ≤ 1000) (h0 : 0 ≤ j) (h1 : j ≤ 1000) : ∃ k, insD j (yD s) (L.map yD) = some ((insT k s L).map yD) := by
  refine ⟨insK (L.map yD).length j, ?_⟩
  unfold insD
  rw [if_pos ⟨by rw [List.length_map]; omega, by omega, by omega⟩]
  unfold insT
  rw [List.map_append, List.map_cons, List.map_take, List.map_drop]
theorem len_held {L : List Ty} (h : ∀ s ∈ L, ∃ r, s.2.2 = some r) : (L.filterMap (·.2.2)).length = L.length := by
  induction L with
  | nil => rfl
  | cons s L ih =>
    obtain ⟨r, e⟩ := h s List.mem_cons_self
    rw [List.filterMap_cons, e]
    show _ + 1 = _ + 1
    rw [ih fun s hs => h s (List.mem_cons_of_mem _ hs)]
theorem bool_eq (x : Int) : decide (x = 1) = true ∨ decide (x = 1) = false := by cases decide (x = 1) <;> simp
theorem stays_spec (ns : List Int) {M : Nat} {now : Int} (hM : M ≤ 12) (n0 : 0 ≤ now) (n1 : now ≤ 399) :
    ∃ L : List Ty, TOk L M now ∧ F__law_stays [.list (ns.map .int), .int (M : Int), .int now, .int 24] = some (.list (L.map yD)) := by
  have p0 := part_spec (ns := ns) (i := 0) (k := 0) (m := 4) (by decide) (by decide) (by decide) (by decide)
  have r0 := partF_range ns 0 0 (m := 4) (by decide)
  have p6 := part_spec (ns := ns) (i := 0) (k := 6) (m := 6) (by decide) (by decide) (by decide) (by decide)
  generalize partF ns 0 0 4 = mo at *
  generalize partF ns 0 6 6 = wi at *
  have rg : qRng1 (some [.int (M : Int)]) = some (rngD 0 (M : Int)) := rng1 (by omega) (by omega)
  obtain ⟨bw, hb⟩ : ∃ bw, decide (wi = 1) = bw := ⟨_, rfl⟩
  obtain ⟨δ1, e1, L1, u6, u7, l1, g1, d1, rfl⟩ := for_inv (g := (gNl 6)) (b := (sIf (D3.tAnd (tBool (dOp gEq (dCall F__law_part (dCons (dVar 0) (dCons (dC (.int 1)) (dCons (dVar 6) (dCons (dC (.int 3)) (dNil)))))) (dC (.int 1)))) (tBool (dOp gLt (dCall gLen (dCons (dVar 5) (dNil))) (dVar 3)))) (sSeq (sSetl 7 (dCall F__law_part (dCons (dVar 0) (dCons (dC (.int 1)) (dCons (dOp gAdd (dC (.int 12)) (dVar 6)) (dCons (dOp gAdd (dCall gLen (dCons (dVar 5) (dNil))) (dC (.int 1))) (dNil))))))) (sIns 5 (dVar 7) (dCall F__law_guest (dCons (dVar 0) (dCons (dC (.int 2)) (dCons (dOp gMul (dC (.int 3)) (dVar 6)) (dCons (dVar 2) (dCons (dVar 6) (dNil))))))))) (sNil)))
    (fun i δ => ∃ (L : List Ty) (u6 u7 : Option U), L.length ≤ 24 ∧ (∀ s ∈ L, ∃ r, s.2.2 = some r ∧ r < i ∧ s.1 ≤ now ∧ now < s.2.1) ∧ (L.filterMap (·.2.2)).Nodup ∧
      δ = [some (.d (.list (ns.map .int))), some (.d (.int (M : Int))), some (.d (.int now)), some (.d (.int 24)), some (.d (.int mo)), some (.d (.list (L.map yD))), u6, u7, none, none, none]) (rngD 0 (M : Int))
    [some (.d (.list (ns.map .int))), some (.d (.int (M : Int))), some (.d (.int now)), some (.d (.int 24)), some (.d (.int mo)), some (.d (.list [])), none, none, none, none, none]
    ⟨[], none, none, by decide, fun _ h => (by cases h), List.nodup_nil, rfl⟩ (by
      rintro i d δ hd ⟨L, u6, u7, l1, g1, d1, rfl⟩
      obtain ⟨hi, rfl⟩ := rng_at hd
      have g1' : ∀ s ∈ L, ∃ r, s.2.2 = some r ∧ r < i + 1 ∧ s.1 ≤ now ∧ now < s.2.1 := fun s hs => by
        obtain ⟨r, a, b, c⟩ := g1 s hs
        exact ⟨r, a, by omega, c⟩
      have q1 := part_spec (ns := ns) (i := 1) (k := (i : Int)) (m := 3) (by decide) (by omega) (by omega) (by decide)
      have q2 := part_spec (ns := ns) (i := 1) (k := 12 + (i : Int)) (m := (L.length : Int) + 1) (by decide) (by omega) (by omega) (by omega)
      have q2r := partF_range ns 1 (12 + (i : Int)) (m := (L.length : Int) + 1) (by omega)
      obtain ⟨b, e, gb, ge, gs⟩ := guest_spec ns (r := i) (by omega) n0 n1
      generalize partF ns 1 (i : Int) 3 = y1 at *
      generalize partF ns 1 (12 + (i : Int)) ((L.length : Int) + 1) = y2 at *
      obtain ⟨k, ek⟩ := insT_map (s := (b, e, some i)) (L := L) (j := y2) (by omega) q2r.1 (by omega)
      have ll : ((L.map yD).length : Int) = (L.length : Int) := by rw [List.length_map]
      have m3 : gMul (.int 3) (.int (i : Int)) = some (.int (3 * (i : Int))) := mulL (by decide) (by decide)
      rcases bool_eq y1 with z | z
      · by_cases hlt : L.length < 24
        · have z2 : decide ((L.length : Int) < 24) = true := decide_eq_true (by omega)
          refine ⟨_, [some (.d (.list (ns.map .int))), some (.d (.int (M : Int))), some (.d (.int now)), some (.d (.int 24)), some (.d (.int mo)), some (.d (.list ((insT k (b, e, some i) L).map yD))), some (.d (.int (i : Int))), some (.d (.int y2)), none, none, none], rfl, .inl ?_, ?_⟩
          · simp only [EV, reduceIte, Nat.reduceAdd, Nat.reduceLT, Nat.reduceLeDiff, Nat.reduceEqDiff, Int.reduceEq, Int.reduceLT, Int.reduceLE, q1, z, ll, z2, q2, m3, gs, v_ins, v_ins_s, qM_s ek]
          · have pm := insT_perm k (b, e, some i) L
            refine ⟨insT k (b, e, some i) L, _, _, ?_, fun s hs => ?_, ?_, rfl⟩
            · rw [pm.length_eq, List.length_cons]; omega
            · rcases List.mem_cons.mp (pm.mem_iff.mp hs) with rfl | y
              · exact ⟨i, rfl, by omega, gb, ge⟩
              · exact g1' s y
            · rw [(pm.filterMap _).nodup_iff]
              show (i :: L.filterMap _).Nodup
              refine List.nodup_cons.mpr ⟨fun y => ?_, d1⟩
              obtain ⟨s, hs, es⟩ := List.mem_filterMap.mp y
              obtain ⟨r, a, c, _⟩ := g1 s hs
              rw [a] at es
              cases es
              omega
        · have z2 : decide ((L.length : Int) < 24) = false := decide_eq_false (by omega)
          refine ⟨_, [some (.d (.list (ns.map .int))), some (.d (.int (M : Int))), some (.d (.int now)), some (.d (.int 24)), some (.d (.int mo)), some (.d (.list (L.map yD))), some (.d (.int (i : Int))), u7, none, none, none], rfl, .inl ?_, L, _, _, l1, g1', d1, rfl⟩
          simp only [EV, reduceIte, Nat.reduceAdd, Nat.reduceLT, Nat.reduceLeDiff, Nat.reduceEqDiff, Int.reduceEq, Int.reduceLT, Int.reduceLE, q1, z, ll, z2]
      · refine ⟨_, [some (.d (.list (ns.map .int))), some (.d (.int (M : Int))), some (.d (.int now)), some (.d (.int 24)), some (.d (.int mo)), some (.d (.list (L.map yD))), some (.d (.int (i : Int))), u7, none, none, none], rfl, .inl ?_, L, _, _, l1, g1', d1, rfl⟩
        simp only [EV, reduceIte, Nat.reduceAdd, Nat.reduceLT, Nat.reduceLeDiff, Nat.reduceEqDiff, Int.reduceEq, Int.reduceLT, Int.reduceLE, q1, z])
  rw [rng_len] at g1
  have ok1 : TOk L1 M now := by
    have hs : ∀ s ∈ L1, ∃ r, s.2.2 = some r := fun s hs => let ⟨r, a, _⟩ := g1 s hs; ⟨r, a⟩
    have lM : L1.length ≤ M := by
      rw [← len_held hs]
      have := List.Nodup.length_le_of_subset (l₂ := List.range M) d1 fun r hr => by
        obtain ⟨s, h1, h2⟩ := List.mem_filterMap.mp hr
        obtain ⟨r', a, b, _⟩ := g1 s h1
        rw [a] at h2
        cases h2
        exact List.mem_range.mpr (by omega)
      rwa [List.length_range] at this
    refine ⟨l1, fun s h => ?_, d1, fun s h => Nat.le_trans (cntT_le _ _) lM⟩
    obtain ⟨r, a, b, c, d⟩ := g1 s h
    refine ⟨by omega, fun r' e => ?_, fun e => (by rw [a] at e; cases e)⟩
    rw [a] at e
    cases e
    exact ⟨by omega, c, d⟩
  clear g1 d1 l1
  have loop : ∀ N : Int, 0 ≤ N → N ≤ 30 → ∃ δ', forD (gNl 9) (sSeq (sSetl 10 (dCall F__law_stay (dCons (dVar 0) (dCons (dOp gAdd (dC (.int 10)) (dVar 9)) (dCons (dC (.int 0)) (dCons (dVar 4) (dCons (dVar 2) (dNil)))))))) (sSeq (sSetl 7 (dCall F__law_part (dCons (dVar 0) (dCons (dC (.int 4)) (dCons (dVar 9) (dCons (dOp gAdd (dCall gLen (dCons (dVar 5) (dNil))) (dC (.int 1))) (dNil))))))) (sIf (D3.tAnd (tBool (dOp gLt (dCall gLen (dCons (dVar 5) (dNil))) (dVar 3))) (tBool (dUn gIsN (dCall F__law_full (dCons (dOp gCat (dVar 5) (dLst (dCons (dVar 10) (dNil)))) (dCons (dVar 1) (dCons (dVar 2) (dNil)))))))) (sIns 5 (dVar 7) (dVar 10)) (sNil)))) (rngD 0 N) [some (.d (.list (ns.map .int))), some (.d (.int (M : Int))), some (.d (.int now)), some (.d (.int 24)), some (.d (.int mo)), some (.d (.list (L1.map yD))), u6, u7, some (.d (.bool (bw))), none, none] = some (.nx δ') ∧
      ∃ (L : List Ty) (u7 u9 u10 : Option U), TOk L M now ∧ δ' = [some (.d (.list (ns.map .int))), some (.d (.int (M : Int))), some (.d (.int now)), some (.d (.int 24)), some (.d (.int mo)), some (.d (.list (L.map yD))), u6, u7, some (.d (.bool (bw))), u9, u10] := by
    intro N N0 N1
    refine for_inv (fun i δ => ∃ (L : List Ty) (u7 u9 u10 : Option U), TOk L M now ∧ δ = [some (.d (.list (ns.map .int))), some (.d (.int (M : Int))), some (.d (.int now)), some (.d (.int 24)), some (.d (.int mo)), some (.d (.list (L.map yD))), u6, u7, some (.d (.bool (bw))), u9, u10]) (rngD 0 N) _ ⟨L1, u7, none, none, ok1, rfl⟩ ?_
    rintro i d δ hd ⟨L, u7, u9, u10, ok, rfl⟩
    obtain ⟨hi, rfl⟩ := rng_at hd
    have l24 := ok.len
    obtain ⟨s, s1, s2, s3, es⟩ := tstay_spec ns (a := 10 + (i : Int)) (m := mo) (now := now) (by omega) r0.1 r0.2 n1
    have q2 := part_spec (ns := ns) (i := 4) (k := (i : Int)) (m := (L.length : Int) + 1) (by decide) (by omega) (by omega) (by omega)
    have q2r := partF_range ns 4 (i : Int) (m := (L.length : Int) + 1) (by omega)
    generalize partF ns 4 (i : Int) ((L.length : Int) + 1) = y2 at *
    obtain ⟨k, ek⟩ := insT_map (s := s) (L := L) (j := y2) (by omega) q2r.1 (by omega)
    have ll : ((L.map yD).length : Int) = (L.length : Int) := by rw [List.length_map]
    by_cases hlt : L.length < 24
    · have z2 : decide ((L.length : Int) < 24) = true := decide_eq_true (by omega)
      have cat : gCat (.list (L.map yD)) (.list [yD s]) = some (.list ((L ++ [s]).map yD)) := by
        rw [n_cat, if_pos (by rw [List.length_map]; show L.length + 1 ≤ _; omega), List.map_append]
        rfl
      rcases full_spec (L := L ++ [s]) (M := M) (now := now) (by rw [List.length_append]; show L.length + 1 ≤ 62; omega) with ⟨f1, f2⟩ | ⟨x, f1⟩
      · have nN : isNone .none = true := rfl
        refine ⟨_, [some (.d (.list (ns.map .int))), some (.d (.int (M : Int))), some (.d (.int now)), some (.d (.int 24)), some (.d (.int mo)), some (.d (.list ((insT k s L).map yD))), u6, some (.d (.int y2)), some (.d (.bool (bw))), some (.d (.int (i : Int))), some (.d (yD s))], rfl, .inl ?_, ?_⟩
        · simp only [EV, reduceIte, Nat.reduceAdd, Nat.reduceLT, Nat.reduceLeDiff, Nat.reduceEqDiff, Int.reduceEq, Int.reduceLT, Int.reduceLE, es, ll, q2, z2, zl1, cat, f1, nN, v_ins, v_ins_s, qM_s ek]
        · have pm := insT_perm k s L
          have pm2 : (insT k s L).Perm (L ++ [s]) := pm.trans (List.perm_append_singleton s L).symm
          refine ⟨insT k s L, _, _, _, ⟨?_, fun t ht => ?_, ?_, fun t ht => ?_⟩, rfl⟩
          · rw [pm.length_eq, List.length_cons]; omega
          · rcases List.mem_cons.mp (pm.mem_iff.mp ht) with rfl | y
            · exact ⟨s2, fun r e => (by rw [s3] at e; cases e), fun _ => s1⟩
            · exact ok.ok t y
          · rw [(pm.filterMap _).nodup_iff, List.filterMap_cons, s3]
            exact ok.nd
          · rw [cntT_perm pm2]
            exact f2 t (pm2.mem_iff.mp ht)
      · have nN : isNone (.int x) = false := rfl
        refine ⟨_, [some (.d (.list (ns.map .int))), some (.d (.int (M : Int))), some (.d (.int now)), some (.d (.int 24)), some (.d (.int mo)), some (.d (.list (L.map yD))), u6, some (.d (.int y2)), some (.d (.bool (bw))), some (.d (.int (i : Int))), some (.d (yD s))], rfl, .inl ?_, L, _, _, _, ok, rfl⟩
        simp only [EV, reduceIte, Nat.reduceAdd, Nat.reduceLT, Nat.reduceLeDiff, Nat.reduceEqDiff, Int.reduceEq, Int.reduceLT, Int.reduceLE, es, ll, q2, z2, zl1, cat, f1, nN]
    · have z2 : decide ((L.length : Int) < 24) = false := decide_eq_false (by omega)
      refine ⟨_, [some (.d (.list (ns.map .int))), some (.d (.int (M : Int))), some (.d (.int now)), some (.d (.int 24)), some (.d (.int mo)), some (.d (.list (L.map yD))), u6, some (.d (.int y2)), some (.d (.bool (bw))), some (.d (.int (i : Int))), some (.d (yD s))], rfl, .inl ?_, L, _, _, _, ok, rfl⟩
      simp only [EV, reduceIte, Nat.reduceAdd, Nat.reduceLT, Nat.reduceLeDiff, Nat.reduceEqDiff, Int.reduceEq, Int.reduceLT, Int.reduceLE, es, ll, q2, z2]
  have w10 : pAt [.int 10, .int 30] (if bw = true then 1 else 0) = some (.int (if bw = true then 30 else 10)) := by
    cases bw <;> rfl
  have iN : gInt [.bool (bw)] = some (.int (if bw = true then 1 else 0)) := rfl
  obtain ⟨δ2, e2, L, v7, v9, v10, ok, rfl⟩ := loop (if bw = true then 30 else 10) (by split <;> decide) (by split <;> decide)
  refine ⟨L, ok, ?_⟩
  have rg2 : qRng1 (some [.int (if bw = true then 30 else 10)]) = some (rngD 0 (if bw = true then 30 else 10)) := rng1 (by split <;> decide) (by split <;> decide)
  have fl : flats (L.map yD) = true := flats_all _ flat_yD L
  unfold F__law_stays
  simp only [EV, reduceIte, Nat.reduceAdd, Nat.reduceLT, Nat.reduceLeDiff, Nat.reduceEqDiff, Int.reduceEq, Int.reduceLT, Int.reduceLE, p0, zl0, rg]
  rw [e1]
  generalize (if bw = true then (30 : Int) else 10) = NN at *
  simp only [EV, reduceIte, Nat.reduceAdd, Nat.reduceLT, Nat.reduceLeDiff, Nat.reduceEqDiff, Int.reduceEq, Int.reduceLT, Int.reduceLE, p6, hb, zl2, iN, w10, rg2]
  rw [e2]
  simp only [EV, reduceIte, Nat.reduceAdd, Nat.reduceLT, Nat.reduceLeDiff, Nat.reduceEqDiff, Int.reduceEq, Int.reduceLT, Int.reduceLE, f1_lst, fl]
end Com
namespace Xg
structure Ss where
  n : Nat
  fst : Nat → Int
  bhd : Nat → Int
  hld : Nat → Bool
  now : Int
structure Ss.Ok (S : Ss) : Prop where
  lt : ∀ k, k < S.n → S.fst k < S.bhd k
  h1 : ∀ k, k < S.n → S.hld k = true → S.fst k ≤ S.now ∧ S.now < S.bhd k
  h2 : ∀ k, k < S.n → S.hld k = false → S.now ≤ S.fst k
def Valid (S : Ss) (h : Nat → Int) : Prop := ∀ k l, k < S.n → l < S.n → k ≠ l → S.fst k < S.bhd l → S.fst l < S.bhd k → h k ≠ h l
def hind (S : Ss) (t : Int) (k : Nat) : Prop := (S.hld k = true ∨ S.fst k < t) ∧ t < S.bhd k
def swp (S : Ss) (h : Nat → Int) (t a b : Int) (k : Nat) : Int := if S.fst k < t then h k else if h k = a then b else if h k = b then a else h k
structure Agr (S : Ss) (h o : Nat → Int) (done : Nat → Prop) : Prop where
  held : ∀ k, k < S.n → S.hld k = true → h k = o k
  don : ∀ k, k < S.n → done k → h k = o k
section
variable {S : Ss} {h o : Nat → Int} {done : Nat → Prop} {p : Nat}
theorem nohind (K : S.Ok) (Vh : Valid S h) (Vo : Valid S o) (A : Agr S h o done) (hp : p < S.n) (hf : S.hld p = false) (hl : ∀ k, k < S.n → S.hld k = false → S.fst k < S.fst p → done k) :
    ∀ k, k < S.n → (h k = h p ∨ h k = o p) → ¬ hind S (S.fst p) k := by
  intro k hk e ⟨c1, c2⟩
  have ne : k ≠ p := fun z => by
    subst z
    rcases c1 with c1 | c1
    · rw [hf] at c1; cases c1
    · omega
  have le : S.fst k ≤ S.fst p := by
    rcases c1 with c1 | c1
    · have := (K.h1 k hk c1).1
      have := K.h2 p hp hf
      omega
    · omega
  have ag : h k = o k := by
    cases z : S.hld k with
    | true => exact A.held k hk z
    | false =>
      rcases c1 with c1 | c1
      · rw [z] at c1; cases c1
      · exact A.don k hk (hl k hk z c1)
  have lp := K.lt p hp
  rcases e with e | e
  · exact Vh k p hk hp ne (by omega) c2 e
  · exact Vo k p hk hp ne (by omega) c2 (ag.symm.trans e)
theorem swp_valid (K : S.Ok) (Vh : Valid S h) (hp : p < S.n) (nh : ∀ k, k < S.n → (h k = h p ∨ h k = o p) → ¬ hind S (S.fst p) k) : Valid S (swp S h (S.fst p) (h p) (o p)) := by
  have one : ∀ k l, k < S.n → l < S.n → S.fst k < S.fst p → ¬ S.fst l < S.fst p → S.fst l < S.bhd k → h k ≠ h l → swp S h (S.fst p) (h p) (o p) k ≠ swp S h (S.fst p) (h p) (o p) l := by
    intro k l hk hl a b c d
    have e1 : h k ≠ h p := fun z => nh k hk (.inl z) ⟨.inr a, by omega⟩
    have e2 : h k ≠ o p := fun z => nh k hk (.inr z) ⟨.inr a, by omega⟩
    unfold swp
    rw [if_pos a, if_neg b]
    by_cases z : h l = h p
    · rw [if_pos z]; exact e2
    · rw [if_neg z]
      by_cases z2 : h l = o p
      · rw [if_pos z2]; exact e1
      · rw [if_neg z2]; exact d
  intro k l hk hl ne a b
  have d := Vh k l hk hl ne a b
  by_cases c1 : S.fst k < S.fst p
  · by_cases c2 : S.fst l < S.fst p
    · unfold swp; rw [if_pos c1, if_pos c2]; exact d
    · exact one k l hk hl c1 c2 b d
  · by_cases c2 : S.fst l < S.fst p
    · exact (one l k hl hk c2 c1 a d.symm).symm
    · unfold swp
      rw [if_neg c1, if_neg c2]
      by_cases z1 : h k = h p
      · rw [if_pos z1]
        by_cases z2 : h l = h p
        · exact absurd (z1.trans z2.symm) d
        · rw [if_neg z2]
          by_cases z3 : h l = o p
          · rw [if_pos z3]
            intro z
            exact d (by rw [z1, z3, z])
          · rw [if_neg z3]; exact fun z => z3 z.symm
      · rw [if_neg z1]
        by_cases z4 : h k = o p
        · rw [if_pos z4]
          by_cases z2 : h l = h p
          · rw [if_pos z2]
            intro z
            exact d (by rw [z4, z2, z])
          · rw [if_neg z2]
            by_cases z3 : h l = o p
            · exact absurd (z4.trans z3.symm) d
            · rw [if_neg z3]; exact fun z => z2 z.symm
        · rw [if_neg z4]
          by_cases z2 : h l = h p
          · rw [if_pos z2]; exact z4
          · rw [if_neg z2]
            by_cases z3 : h l = o p
            · rw [if_pos z3]; exact z1
            · rw [if_neg z3]; exact d
theorem swp_agr (K : S.Ok) (Vh : Valid S h) (Vo : Valid S o) (A : Agr S h o done) (hp : p < S.n) (hf : S.hld p = false) (nh : ∀ k, k < S.n → (h k = h p ∨ h k = o p) → ¬ hind S (S.fst p) k)
    (hd : ∀ k, k < S.n → done k → S.fst k ≤ S.fst p) (np : ¬ done p) : Agr S (swp S h (S.fst p) (h p) (o p)) o (fun k => done k ∨ k = p) := by
  refine ⟨fun k hk z => ?_, fun k hk z => ?_⟩
  · have e := A.held k hk z
    by_cases c : S.fst k < S.fst p
    · unfold swp; rw [if_pos c]; exact e
    · have := K.h1 k hk z
      have := K.h2 p hp hf
      have nn := fun y => nh k hk y ⟨.inl z, by omega⟩
      unfold swp
      rw [if_neg c, if_neg fun y => nn (.inl y), if_neg fun y => nn (.inr y)]
      exact e
  · by_cases y : k = p
    · subst y
      unfold swp
      rw [if_neg (by omega), if_pos rfl]
    · rcases z with z | z
      · have e := A.don k hk z
        by_cases c : S.fst k < S.fst p
        · unfold swp; rw [if_pos c]; exact e
        · have := hd k hk z
          have eq : S.fst k = S.fst p := by omega
          have l1 := K.lt k hk
          have l2 := K.lt p hp
          have n1 := Vh k p hk hp y (by omega) (by omega)
          have n2 := Vo k p hk hp y (by omega) (by omega)
          unfold swp
          rw [if_neg c, if_neg n1, if_neg fun z => n2 (e.symm.trans z)]
          exact e
      · exact absurd z y
end
end Xg
namespace Xg
abbrev Sp3 := Int × Int × Int
def runS (S : Ss) (h : Nat → Int) (st : List Sp3) : Nat → Int := st.foldl (fun g s => swp S g s.1 s.2.1 s.2.2) h
structure stOk (S : Ss) (M : Int) (g : Nat → Int) (s : Sp3) : Prop where
  now : S.now ≤ s.1
  ne : s.2.1 ≠ s.2.2
  a0 : 0 ≤ s.2.1
  a1 : s.2.1 < M
  b0 : 0 ≤ s.2.2
  b1 : s.2.2 < M
  nh : ∀ k, k < S.n → (g k = s.2.1 ∨ g k = s.2.2) → ¬ hind S s.1 k
def Good (S : Ss) (M : Int) (h : Nat → Int) (st : List Sp3) : Prop := ∀ i s, st[i]? = some s → stOk S M (runS S h (st.take i)) s
variable {S : Ss} {M : Int} {h o : Nat → Int} {st : List Sp3} {s : Sp3} {done : List Nat} {p : Nat}
theorem runS_snoc : runS S h (st ++ [s]) = swp S (runS S h st) s.1 s.2.1 s.2.2 := by
  unfold runS
  rw [List.foldl_append]
  rfl
theorem Good.snoc (G : Good S M h st) (k : stOk S M (runS S h st) s) : Good S M h (st ++ [s]) := by
  intro i x e
  rcases Nat.lt_or_ge i st.length with z | z
  · rw [List.getElem?_append_left z] at e
    rw [List.take_append_of_le_length (Nat.le_of_lt z)]
    exact G i x e
  · have : i = st.length := by
      rcases Nat.lt_or_ge i (st ++ [s]).length with y | y
      · simp at y; omega
      · rw [List.getElem?_eq_none y] at e; cases e
    subst this
    rw [List.getElem?_append_right (Nat.le_refl _), Nat.sub_self] at e
    cases e
    rw [List.take_left]
    exact k
structure LInv (S : Ss) (M : Int) (h o : Nat → Int) (done : List Nat) (st : List Sp3) : Prop where
  good : Good S M h st
  val : Valid S (runS S h st)
  agr : Agr S (runS S h st) o (· ∈ done)
  bd : ∀ k, k < S.n → 0 ≤ runS S h st k ∧ runS S h st k < M
  len : st.length ≤ done.length
theorem LInv.start (Vh : Valid S h) (A : ∀ k, k < S.n → S.hld k = true → h k = o k) (bd : ∀ k, k < S.n → 0 ≤ h k ∧ h k < M) : LInv S M h o [] [] :=
  ⟨fun i s e => (by simp at e), Vh, ⟨A, fun k _ z => (by cases z)⟩, bd, Nat.le_refl _⟩
theorem LInv.same (I : LInv S M h o done st) (e : runS S h st p = o p) : LInv S M h o (done ++ [p]) st :=
  ⟨I.good, I.val, ⟨I.agr.held, fun k hk z => by
    rcases List.mem_append.mp z with z | z
    · exact I.agr.don k hk z
    · rw [List.mem_singleton.mp z]; exact e⟩, I.bd, by rw [List.length_append]; exact Nat.le_trans I.len (Nat.le_add_right _ _)⟩
theorem LInv.step (I : LInv S M h o done st) (K : S.Ok) (Vo : Valid S o) (bo : ∀ k, k < S.n → 0 ≤ o k ∧ o k < M) (hp : p < S.n) (hf : S.hld p = false) (hl : ∀ k, k < S.n → S.hld k = false → S.fst k < S.fst p → k ∈ done)
    (hd : ∀ k ∈ done, S.fst k ≤ S.fst p) (np : p ∉ done) (e : runS S h st p ≠ o p) : stOk S M (runS S h st) (S.fst p, runS S h st p, o p) ∧ LInv S M h o (done ++ [p]) (st ++ [(S.fst p, runS S h st p, o p)]) := by
  have nh := nohind K I.val Vo I.agr hp hf hl
  have ok : stOk S M (runS S h st) (S.fst p, runS S h st p, o p) := ⟨K.h2 p hp hf, e, (I.bd p hp).1, (I.bd p hp).2, (bo p hp).1, (bo p hp).2, nh⟩
  refine ⟨ok, ⟨I.good.snoc ok, ?_, ?_, fun k hk => ?_, ?_⟩⟩
  · rw [runS_snoc]; exact swp_valid K I.val hp nh
  · rw [runS_snoc]
    have A := swp_agr K I.val Vo I.agr hp hf nh (fun k _ z => hd k z) np
    exact ⟨A.held, fun k hk z => A.don k hk (by
      rcases List.mem_append.mp z with z | z
      · exact .inl z
      · exact .inr (List.mem_singleton.mp z))⟩
  · rw [runS_snoc]
    have z := I.bd k hk
    have y := I.bd p hp
    have x := bo p hp
    show 0 ≤ swp S (runS S h st) (S.fst p) (runS S h st p) (o p) k ∧ swp S (runS S h st) (S.fst p) (runS S h st p) (o p) k < M
    unfold swp
    split
    · exact z
    · split
      · exact x
      · split
        · exact y
        · exact z
  · rw [List.length_append, List.length_append]
    exact Nat.add_le_add I.len (Nat.le_refl _)
theorem LInv.fin (I : LInv S M h o done st) (all : ∀ k, k < S.n → S.hld k = false → k ∈ done) : ∀ k, k < S.n → runS S h st k = o k := fun k hk => by
  cases z : S.hld k with
  | true => exact I.agr.held k hk z
  | false => exact I.agr.don k hk (all k hk z)
end Xg
namespace Com
open PySem D3 My
theorem ix_n {n c : Nat} {l : List D} (hl : l.length = n) (h : c < n) : pIx l.length (c : Int) = some c := by
  unfold pIx
  rw [hl, if_pos (by omega), if_pos (by omega)]
  rfl
theorem at_n {n c : Nat} (f : Nat → D) (h : c < n) : pAt ((List.range n).map f) (c : Int) = some (f c) := by
  rw [pAt_nat, List.getElem?_map, List.getElem?_range h]
  rfl
theorem set_n {n c : Nat} {d : D} (f : Nat → D) : ((List.range n).map f).set c d = (List.range n).map fun p => if p = c then d else f p := by
  apply List.ext_getElem?
  intro i
  rw [List.getElem?_set, List.getElem?_map, List.getElem?_map]
  by_cases hi : i < n
  · rw [List.getElem?_range hi, Option.map_some, Option.map_some]
    by_cases z : c = i
    · subst z
      rw [if_pos rfl, if_pos (by simpa using hi), if_pos rfl]
    · rw [if_neg z, if_neg (fun w => z w.symm)]
  · rw [List.getElem?_eq_none (l := List.range n) (by simpa using hi)]
    by_cases z : c = i
    · subst z
      rw [if_pos rfl, if_neg (by simpa using hi)]
      rfl
    · rw [if_neg z]
      rfl
theorem map_n {n : Nat} {f g : Nat → D} (h : ∀ k, k < n → f k = g k) : (List.range n).map f = (List.range n).map g := List.map_congr_left fun k hk => h k (List.mem_range.mp hk)
def tAt (L : List Ty) (k : Nat) : Ty := L.getD k (0, 0, none)
theorem tAt_mem {L : List Ty} {k : Nat} (h : k < L.length) : tAt L k ∈ L := by
  unfold tAt
  rw [List.getD_eq_getElem?_getD, List.getElem?_eq_getElem h]
  exact List.getElem_mem h
theorem map_tAt (L : List Ty) : L.map yD = (List.range L.length).map fun k => yD (tAt L k) := by
  apply List.ext_getElem?
  intro i
  rw [List.getElem?_map, List.getElem?_map]
  by_cases h : i < L.length
  · rw [List.getElem?_range h, List.getElem?_eq_getElem h]
    unfold tAt
    rw [Option.map_some, Option.map_some, List.getD_eq_getElem?_getD, List.getElem?_eq_getElem h]
    rfl
  · rw [List.getElem?_eq_none (by omega), List.getElem?_eq_none (by simpa using h)]
    rfl
theorem zip_n {n : Nat} (f g : Nat → D) : zipD ((List.range n).map f) ((List.range n).map g) = (List.range n).map fun k => PyData.tuple [f k, g k] := by
  have : ∀ l : List Nat, zipD (l.map f) (l.map g) = l.map fun k => PyData.tuple [f k, g k] := fun l => by
    induction l with
    | nil => rfl
    | cons a l ih => rw [List.map_cons, List.map_cons, List.map_cons, zipD, ih]
  exact this _
def plD (n : Nat) (h : Nat → Int) : List D := (List.range n).map fun k => PyData.int (h k)
def ssT (L : List Ty) (now : Int) : Xg.Ss := ⟨L.length, fun k => (tAt L k).1, fun k => (tAt L k).2.1, fun k => (tAt L k).2.2.isSome, now⟩
def hB (s : Ty) (t : Int) : Bool := (s.2.2.isSome || decide (s.1 < t)) && decide (t < s.2.1)
theorem hB_hind {L : List Ty} {now t : Int} {k : Nat} : hB (tAt L k) t = true ↔ Xg.hind (ssT L now) t k := by
  unfold hB Xg.hind ssT
  simp
theorem isN_hD (o : Option Nat) : isNone (hD o) = !o.isSome := by cases o <;> rfl
theorem hinders_spec (s : Ty) (t : Int) : F_hinders [yD s, .int t] = some (.bool (hB s t)) := by
  obtain ⟨a, b, c⟩ := s
  have := isN_hD c
  unfold F_hinders yD hB
  simp only [EV, reduceIte, Nat.reduceAdd, Nat.reduceLT, Nat.reduceLeDiff, Nat.reduceEqDiff, Int.reduceEq, Int.reduceLT, Int.reduceLE, at0, at1, at2, this, Bool.not_not]
  cases c.isSome <;> simp only [Bool.true_or, Bool.false_or]
  · simp only [EV, reduceIte, Nat.reduceAdd, Nat.reduceLT, Nat.reduceLeDiff, Nat.reduceEqDiff, Int.reduceEq, Int.reduceLT, Int.reduceLE, at0, at1]
    cases decide (a < t) <;> simp only [Bool.true_and, Bool.false_and] <;> simp only [EV, reduceIte, Nat.reduceAdd, Nat.reduceLT, Nat.reduceLeDiff, Nat.reduceEqDiff, Int.reduceEq, Int.reduceLT, Int.reduceLE, at1]
  · simp only [EV, reduceIte, Nat.reduceAdd, Nat.reduceLT, Nat.reduceLeDiff, Nat.reduceEqDiff, Int.reduceEq, Int.reduceLT, Int.reduceLE, at1]
    rfl
theorem behind_spec (s : Ty) (r t a b : Int) : F_room_behind [yD s, .int r, .int t, .int a, .int b] = some (.int (if s.1 < t then r else if r = a then b else if r = b then a else r)) := by
  obtain ⟨x, y, c⟩ := s
  unfold F_room_behind yD
  by_cases h1 : x < t
  · have e1 : decide (x < t) = true := decide_eq_true h1
    rw [if_pos h1]
    simp only [EV, reduceIte, Nat.reduceAdd, Nat.reduceLT, Nat.reduceLeDiff, Nat.reduceEqDiff, Int.reduceEq, Int.reduceLT, Int.reduceLE, at0, e1, fli]
  · have e1 : decide (x < t) = false := decide_eq_false h1
    rw [if_neg h1]
    by_cases h2 : r = a
    · have e2 : decide (r = a) = true := decide_eq_true h2
      rw [if_pos h2]
      simp only [EV, reduceIte, Nat.reduceAdd, Nat.reduceLT, Nat.reduceLeDiff, Nat.reduceEqDiff, Int.reduceEq, Int.reduceLT, Int.reduceLE, at0, e1, e2, fli]
    · have e2 : decide (r = a) = false := decide_eq_false h2
      rw [if_neg h2]
      by_cases h3 : r = b
      · have e3 : decide (r = b) = true := decide_eq_true h3
        rw [if_pos h3]
        simp only [EV, reduceIte, Nat.reduceAdd, Nat.reduceLT, Nat.reduceLeDiff, Nat.reduceEqDiff, Int.reduceEq, Int.reduceLT, Int.reduceLE, at0, e1, e2, e3, fli]
      · have e3 : decide (r = b) = false := decide_eq_false h3
        rw [if_neg h3]
        simp only [EV, reduceIte, Nat.reduceAdd, Nat.reduceLT, Nat.reduceLeDiff, Nat.reduceEqDiff, Int.reduceEq, Int.reduceLT, Int.reduceLE, at0, e1, e2, e3, fli]
section
variable {L : List Ty} {now t a b : Int} {h : Nat → Int}
end
end Com
namespace Gr
structure GInv (M : Nat) (b e : Nat → Int) (done : List Nat) (seat : Nat → Option Nat) (fs : Nat → Int) : Prop where
  out : ∀ p, p ∉ done → seat p = none
  inn : ∀ p ∈ done, ∃ r, seat p = some r ∧ r < M ∧ e p ≤ fs r
  bk : ∀ r, r < M → fs r ≤ 0 ∨ ∃ p ∈ done, seat p = some r ∧ e p = fs r
  dj : ∀ p ∈ done, ∀ q ∈ done, p ≠ q → seat p = seat q → e p ≤ b q ∨ e q ≤ b p
theorem start (M : Nat) (b e : Nat → Int) : GInv M b e [] (fun _ => none) (fun _ => 0) :=
  ⟨fun _ _ => rfl, fun _ h => (by cases h), fun _ _ => .inl (Int.le_refl _), fun _ h => (by cases h)⟩
def holds (b e : Nat → Int) (x : Int) (p : Nat) : Bool := decide (b p ≤ x) && decide (x < e p)
theorem pick {α : Type} (P : Nat → α → Prop) : ∀ M, (∀ r, r < M → ∃ a, P r a) → (∀ r r' a, P r a → P r' a → r = r') → ∃ l : List α, l.length = M ∧ l.Nodup ∧ ∀ a ∈ l, ∃ r, r < M ∧ P r a
  | 0, _, _ => ⟨[], rfl, List.nodup_nil, fun _ h => by cases h⟩
  | M + 1, h, u => by
    obtain ⟨l, h1, h2, h3⟩ := pick P M (fun r hr => h r (by omega)) u
    obtain ⟨a, ha⟩ := h M (by omega)
    refine ⟨a :: l, by rw [List.length_cons, h1], List.nodup_cons.mpr ⟨fun z => ?_, h2⟩, fun x hx => ?_⟩
    · obtain ⟨r, hr, hp⟩ := h3 a z
      have := u r M a hp ha
      omega
    · rcases List.mem_cons.mp hx with rfl | z
      · exact ⟨M, by omega, ha⟩
      · obtain ⟨r, hr, hp⟩ := h3 x z
        exact ⟨r, by omega, hp⟩
theorem free_room {M n : Nat} {b e : Nat → Int} {done : List Nat} {seat : Nat → Option Nat} {fs : Nat → Int} {c : Nat} (I : GInv M b e done seat fs) (hc : c ∉ done) (hcn : c < n) (hd : ∀ p ∈ done, p < n)
    (hb : ∀ p ∈ done, b p ≤ b c) (h0 : 0 ≤ b c) (h1 : b c < e c) (hm : ((List.range n).filter (holds b e (b c))).length ≤ M) : ∃ r, r < M ∧ fs r ≤ b c := by
  apply Classical.byContradiction
  intro no
  have all : ∀ r, r < M → ∃ p, (p ∈ done ∧ seat p = some r ∧ b c < e p) := fun r hr => by
    have hn : ¬ fs r ≤ b c := fun z => no ⟨r, hr, z⟩
    rcases I.bk r hr with z | ⟨p, hp, h2, h3⟩
    · omega
    · exact ⟨p, hp, h2, by omega⟩
  obtain ⟨l, l1, l2, l3⟩ := pick (fun r p => p ∈ done ∧ seat p = some r ∧ b c < e p) M all (fun r r' p z z' => by
    have := z.2.1.symm.trans z'.2.1
    injection this)
  have nd : (c :: l).Nodup := List.nodup_cons.mpr ⟨fun z => by obtain ⟨r, _, hp, _⟩ := l3 c z; exact hc hp, l2⟩
  have sub : (c :: l) ⊆ (List.range n).filter (holds b e (b c)) := fun p hp => by
    rcases List.mem_cons.mp hp with rfl | z
    · exact List.mem_filter.mpr ⟨List.mem_range.mpr hcn, by unfold holds; rw [decide_eq_true (Int.le_refl _), decide_eq_true h1]; rfl⟩
    · obtain ⟨r, _, hp, _, h3⟩ := l3 p z
      exact List.mem_filter.mpr ⟨List.mem_range.mpr (hd p hp), by unfold holds; rw [decide_eq_true (hb p hp), decide_eq_true h3]; rfl⟩
  have := List.Nodup.length_le_of_subset nd sub
  rw [List.length_cons, l1] at this
  omega
theorem GInv.step {M : Nat} {b e : Nat → Int} {done : List Nat} {seat : Nat → Option Nat} {fs : Nat → Int} {c r : Nat} (I : GInv M b e done seat fs) (hc : c ∉ done) (hr : r < M) (hf : fs r ≤ b c) (h1 : b c < e c) :
    GInv M b e (done ++ [c]) (fun p => if p = c then some r else seat p) (fun x => if x = r then e c else fs x) := by
  have ne : ∀ p ∈ done, p ≠ c := fun p hp z => hc (z ▸ hp)
  refine ⟨fun p hp => ?_, fun p hp => ?_, fun x hx => ?_, fun p hp q hq hpq hs => ?_⟩
  · have h2 : p ≠ c := fun z => hp (List.mem_append_right _ (by rw [z]; exact List.mem_singleton.mpr rfl))
    rw [if_neg h2]
    exact I.out p fun z => hp (List.mem_append_left _ z)
  · rcases List.mem_append.mp hp with z | z
    · obtain ⟨x, s1, s2, s3⟩ := I.inn p z
      refine ⟨x, by rw [if_neg (ne p z)]; exact s1, s2, ?_⟩
      by_cases hx : x = r
      · rw [if_pos hx]; rw [hx] at s3; omega
      · rw [if_neg hx]; exact s3
    · have z := List.mem_singleton.mp z
      exact ⟨r, by rw [if_pos z], hr, by rw [if_pos rfl, z]; exact Int.le_refl _⟩
  · by_cases z : x = r
    · exact .inr ⟨c, List.mem_append_right _ (List.mem_singleton.mpr rfl), by rw [if_pos rfl, z], by rw [if_pos z]⟩
    · rw [if_neg z]
      rcases I.bk x hx with w | ⟨p, hp, w1, w2⟩
      · exact .inl w
      · exact .inr ⟨p, List.mem_append_left _ hp, by rw [if_neg (ne p hp)]; exact w1, w2⟩
  · rcases List.mem_append.mp hp with z | z
    · rcases List.mem_append.mp hq with w | w
      · rw [if_neg (ne p z), if_neg (ne q w)] at hs
        exact I.dj p z q w hpq hs
      · have w := List.mem_singleton.mp w
        rw [if_neg (ne p z), if_pos w] at hs
        obtain ⟨x, s1, _, s3⟩ := I.inn p z
        rw [s1] at hs
        injection hs with hs
        rw [hs] at s3
        left
        rw [w]
        omega
    · have z := List.mem_singleton.mp z
      rcases List.mem_append.mp hq with w | w
      · rw [if_pos z, if_neg (ne q w)] at hs
        obtain ⟨x, s1, _, s3⟩ := I.inn q w
        rw [s1] at hs
        injection hs with hs
        rw [← hs] at s3
        right
        rw [z]
        omega
      · exact absurd (z.trans (List.mem_singleton.mp w).symm) hpq
end Gr
namespace Pl
open Gr
structure PInv (n M : Nat) (b e : Nat → Int) (held : Nat → Option Nat) (done : List Nat) (seat : Nat → Option Nat) : Prop where
  hl : ∀ k r, k < n → held k = some r → seat k = some r
  out : ∀ k, k < n → held k = none → k ∉ done → seat k = none
  inn : ∀ k, k ∈ done → k < n → seat k ≠ none
  lt : ∀ k r, k < n → seat k = some r → r < M
  dj : ∀ k l r, k < n → l < n → k ≠ l → seat k = some r → seat l = some r → e k ≤ b l ∨ e l ≤ b k
variable {n M : Nat} {b e : Nat → Int} {held seat : Nat → Option Nat} {done : List Nat} {now : Int} {c r : Nat}
theorem start (h1 : ∀ k r, k < n → held k = some r → r < M) (h2 : ∀ k l r, k < n → l < n → held k = some r → held l = some r → k = l) : PInv n M b e held [] held :=
  ⟨fun _ _ _ h => h, fun _ _ h _ => h, fun _ h => (by cases h), h1, fun k l r hk hl ne a b => absurd (h2 k l r hk hl a b) ne⟩
theorem free_room (I : PInv n M b e held done seat) (hc : c < n) (hs : seat c = none) (h1 : b c < e c) (hm : ((List.range n).filter (holds b e (b c))).length ≤ M) :
    ∃ r, r < M ∧ ∀ k, k < n → holds b e (b c) k = true → seat k ≠ some r := by
  apply Classical.byContradiction
  intro no
  have all : ∀ r, r < M → ∃ k, (k < n ∧ holds b e (b c) k = true ∧ seat k = some r) := fun r hr => by
    apply Classical.byContradiction
    intro z
    exact no ⟨r, hr, fun k hk hh hs => z ⟨k, hk, hh, hs⟩⟩
  obtain ⟨l, l1, l2, l3⟩ := pick (fun r k => k < n ∧ holds b e (b c) k = true ∧ seat k = some r) M all (fun r r' p z z' => by
    have := z.2.2.symm.trans z'.2.2
    injection this)
  have nd : (c :: l).Nodup := List.nodup_cons.mpr ⟨fun z => (by obtain ⟨r, _, _, _, h⟩ := l3 c z; rw [hs] at h; cases h), l2⟩
  have sub : (c :: l) ⊆ (List.range n).filter (holds b e (b c)) := fun p hp => by
    rcases List.mem_cons.mp hp with rfl | z
    · exact List.mem_filter.mpr ⟨List.mem_range.mpr hc, by unfold holds; rw [decide_eq_true (Int.le_refl _), decide_eq_true h1]; rfl⟩
    · obtain ⟨r, _, hp, h3, _⟩ := l3 p z
      exact List.mem_filter.mpr ⟨List.mem_range.mpr hp, h3⟩
  have := List.Nodup.length_le_of_subset nd sub
  rw [List.length_cons, l1] at this
  omega
theorem step (I : PInv n M b e held done seat) (hc : c < n) (hs : seat c = none) (hcd : c ∉ done) (hd : ∀ p ∈ done, b p ≤ b c) (g1 : ∀ k r, k < n → held k = some r → b k ≤ now) (g2 : ∀ k, k < n → held k = none → now ≤ b k)
    (hr : r < M) (hf : ∀ k, k < n → holds b e (b c) k = true → seat k ≠ some r) : PInv n M b e held (done ++ [c]) (fun k => if k = c then some r else seat k) := by
  have hcn : held c = none := by
    cases z : held c with
    | none => rfl
    | some r => rw [I.hl c r hc z] at hs; cases hs
  have key : ∀ k, k < n → k ≠ c → seat k = some r → e k ≤ b c := fun k hk ne z => by
    apply Classical.byContradiction
    intro w
    by_cases y : b k ≤ b c
    · exact hf k hk (by unfold holds; rw [decide_eq_true y, decide_eq_true (by omega : b c < e k)]; rfl) z
    · cases h : held k with
      | some x =>
        have := g1 k x hk h
        have := g2 c hc hcn
        omega
      | none =>
        by_cases hkd : k ∈ done
        · have := hd k hkd; omega
        · rw [I.out k hk h hkd] at z; cases z
  refine ⟨fun k x hk h => ?_, fun k hk h hn => ?_, fun k hk hn => ?_, fun k x hk h => ?_, fun k l x hk hl ne h1 h2 => ?_⟩
  · rw [if_neg (fun z => by rw [z, hcn] at h; cases h)]
    exact I.hl k x hk h
  · have h2 : k ≠ c := fun z => hn (List.mem_append_right _ (by rw [z]; exact List.mem_singleton.mpr rfl))
    rw [if_neg h2]
    exact I.out k hk h fun z => hn (List.mem_append_left _ z)
  · by_cases z : k = c
    · rw [if_pos z]; simp
    · rw [if_neg z]
      rcases List.mem_append.mp hk with w | w
      · exact I.inn k w hn
      · exact absurd (List.mem_singleton.mp w) z
  · by_cases z : k = c
    · rw [if_pos z] at h; cases h; exact hr
    · rw [if_neg z] at h; exact I.lt k x hk h
  · by_cases z : k = c
    · rw [if_pos z] at h1
      cases h1
      by_cases y : l = c
      · exact absurd (z.trans y.symm) ne
      · rw [if_neg y] at h2
        rw [z]
        exact .inr (key l hl y h2)
    · rw [if_neg z] at h1
      by_cases y : l = c
      · rw [if_pos y] at h2
        cases h2
        rw [y]
        exact .inl (key k hk z h1)
      · rw [if_neg y] at h2
        exact I.dj k l x hk hl ne h1 h2
theorem skip (I : PInv n M b e held done seat) (hs : seat c ≠ none) : PInv n M b e held (done ++ [c]) seat :=
  ⟨I.hl, fun k hk h hn => I.out k hk h fun z => hn (List.mem_append_left _ z), fun k hk hn => by
    rcases List.mem_append.mp hk with w | w
    · exact I.inn k w hn
    · rw [List.mem_singleton.mp w]; exact hs, I.lt, I.dj⟩
end Pl
namespace XS
open PySem PySem.W PyProof.Rows
structure Weak (lt : Nat → Nat → Bool) : Prop where
  irr : ∀ a, lt a a = false
  tr : ∀ a b c, lt a b = true → lt b c = true → lt a c = true
  nt : ∀ a b c, lt a c = true → lt a b = true ∨ lt b c = true
def Rk (lt : Nat → Nat → Bool) (a b : Nat) : Prop := lt a b = true ∨ (lt b a = false ∧ a < b)
section
variable {lt : Nat → Nat → Bool} {p : Array Nat} {n : Nat}
theorem Weak.not (W : Weak lt) {a b c : Nat} (h1 : lt a b = false) (h2 : lt b c = false) : lt a c = false := by
  cases q : lt a c with
  | false => rfl
  | true => rcases W.nt a b c q with z | z
            · rw [z] at h1; cases h1
            · rw [z] at h2; cases h2
theorem Rk.trans (W : Weak lt) {a b c : Nat} (h1 : Rk lt a b) (h2 : Rk lt b c) : Rk lt a c := by
  rcases h1 with h1 | ⟨h1, l1⟩
  · rcases h2 with h2 | ⟨h2, l2⟩
    · exact .inl (W.tr _ _ _ h1 h2)
    · rcases W.nt a c b h1 with z | z
      · exact .inl z
      · rw [z] at h2; cases h2
  · rcases h2 with h2 | ⟨h2, l2⟩
    · rcases W.nt b a c h2 with z | z
      · rw [z] at h1; cases h1
      · exact .inl z
    · exact .inr ⟨W.not h2 h1, by omega⟩
abbrev ga (p : Array Nat) (i : Nat) : Nat := p.getD i 0
def Asc (lt : Nat → Nat → Bool) (p : Array Nat) (m : Nat) : Prop := ∀ i j, i < j → j < m → Rk lt (ga p i) (ga p j)
structure Run (lt : Nat → Nat → Bool) (n : Nat) (p : Array Nat) (m : Nat) : Prop where
  asc : Asc lt p m
  rest : ∀ k, m ≤ k → k < n → ga p k = k
  low : ∀ k, k < m → ga p k < m
theorem Run.snoc (W : Weak lt) {a : Nat} (R : Run lt n p a) (h1 : 1 ≤ a) (ha : a < n) (h : lt (ga p a) (ga p (a - 1)) = false) : Run lt n p (a + 1) := by
  have ea := R.rest a (Nat.le_refl _) ha
  have la := R.low (a - 1) (by omega)
  have st : Rk lt (ga p (a - 1)) (ga p a) := .inr ⟨h, by omega⟩
  refine ⟨fun i j hij hj => ?_, fun k hk hn => R.rest k (by omega) hn, fun k hk => ?_⟩
  · by_cases z : j < a
    · exact R.asc i j hij z
    · have : j = a := by omega
      subst this
      by_cases y : i = j - 1
      · rw [y]; exact st
      · exact (R.asc i (j - 1) (by omega) (by omega)).trans W st
  · by_cases z : k < a
    · have := R.low k z; omega
    · have : k = a := by omega
      subst this
      omega
theorem asc_ok (W : Weak lt) : ∀ (f a : Nat), Run lt n p a → 1 ≤ a → a + f ≤ n → Run lt n p (runT lt (kas_asc p f a)) ∧ a ≤ runT lt (kas_asc p f a) ∧ runT lt (kas_asc p f a) ≤ a + f ∧ (runT lt (kas_asc p f a) < a + f → lt (ga p (runT lt (kas_asc p f a))) (ga p (runT lt (kas_asc p f a) - 1)) = true)
  | 0, a, R, h1, hf => ⟨R, Nat.le_refl _, Nat.le_refl _, fun z => by
    have z : a < a + 0 := z
    omega⟩
  | f + 1, a, R, h1, hf => by
    have e : runT lt (kas_asc p (f + 1) a) = runT lt (if lt (ga p a) (ga p (a - 1)) = true then .ret a else kas_asc p f (a + 1)) := rfl
    rw [e]
    by_cases c : lt (ga p a) (ga p (a - 1)) = true
    · rw [if_pos c]
      exact ⟨R, Nat.le_refl _, by show a ≤ a + (f + 1); omega, fun _ => c⟩
    · rw [if_neg c]
      obtain ⟨q1, q2, q3, q4⟩ := asc_ok W f (a + 1) (R.snoc W h1 (by omega) (by simpa using c)) (by omega) (by omega)
      exact ⟨q1, by omega, by omega, fun z => q4 (by omega)⟩
theorem place_ok (W : Weak lt) {k : Nat} (R : Run lt n p k) : ∀ (f l r : Nat), l ≤ r → r ≤ k → r - l ≤ f → (∀ i, i < l → lt (ga p k) (ga p i) = false) → (∀ i, r ≤ i → i < k → lt (ga p k) (ga p i) = true) →
    runT lt (kas_place p k f l r) ≤ k ∧ (∀ i, i < runT lt (kas_place p k f l r) → lt (ga p k) (ga p i) = false) ∧ (∀ i, runT lt (kas_place p k f l r) ≤ i → i < k → lt (ga p k) (ga p i) = true)
  | 0, l, r, h1, h2, h3, h4, h5 => by
    have : l = r := by omega
    subst this
    exact ⟨h2, h4, h5⟩
  | f + 1, l, r, h1, h2, h3, h4, h5 => by
    by_cases z : l ≥ r
    · have : l = r := by omega
      subst this
      have e : kas_place p k (f + 1) l l = .ret l := by unfold kas_place; rw [if_pos z]
      rw [e]
      exact ⟨h2, h4, h5⟩
    · have e : runT lt (kas_place p k (f + 1) l r) = runT lt (if lt (ga p k) (ga p ((l + r) / 2)) = true then kas_place p k f l ((l + r) / 2) else kas_place p k f ((l + r) / 2 + 1) r) := by
        conv => lhs; unfold kas_place
        rw [if_neg z]
        rfl
      rw [e]
      have m1 : l ≤ (l + r) / 2 := by omega
      have m2 : (l + r) / 2 < r := by omega
      by_cases c : lt (ga p k) (ga p ((l + r) / 2)) = true
      · rw [if_pos c]
        refine place_ok W R f l ((l + r) / 2) m1 (by omega) (by omega) h4 fun i hi hk => ?_
        by_cases y : i = (l + r) / 2
        · rw [y]; exact c
        · rcases R.asc ((l + r) / 2) i (by omega) hk with q | ⟨q, _⟩
          · exact W.tr _ _ _ c q
          · rcases W.nt _ (ga p i) _ c with w | w
            · exact w
            · rw [w] at q; cases q
      · rw [if_neg c]
        have c : lt (ga p k) (ga p ((l + r) / 2)) = false := by simpa using c
        refine place_ok W R f ((l + r) / 2 + 1) r (by omega) h2 (by omega) (fun i hi => ?_) h5
        by_cases y : i = (l + r) / 2
        · rw [y]; exact c
        · cases q : lt (ga p k) (ga p i) with
          | false => rfl
          | true =>
            rcases R.asc i ((l + r) / 2) (by omega) (by omega) with w | ⟨w, _⟩
            · rw [W.tr _ _ _ q w] at c; cases c
            · rcases W.nt _ (ga p ((l + r) / 2)) _ q with w2 | w2
              · rw [w2] at c; cases c
              · rw [w2] at w; cases w
theorem ga_bub {k l : Nat} (hk : k < p.size) (hl : l ≤ k) (i : Nat) : ga (bubble p k (k - l)) i = if i = l then ga p k else if l < i ∧ i ≤ k then ga p (i - 1) else ga p i := by
  have e := getElem?_bubble hk (k - l) (by omega) i
  rw [show k - (k - l) = l by omega] at e
  have g : ∀ (q : Array Nat) (i : Nat), ga q i = (q[i]?).getD 0 := fun q i => by simp [ga, Array.getD_eq_getD_getElem?]
  rw [g, e, g p k, g p (i - 1), g p i]
  by_cases c1 : i = l
  · rw [if_pos c1, if_pos c1]
  · rw [if_neg c1, if_neg c1]
    by_cases c2 : l < i ∧ i ≤ k
    · rw [if_pos c2, if_pos c2]
    · rw [if_neg c2, if_neg c2]
theorem bin_step (W : Weak lt) (hs : p.size = n) {k l : Nat} (R : Run lt n p k) (hk : k < n) (hl : l ≤ k) (h1 : ∀ i, i < l → lt (ga p k) (ga p i) = false) (h2 : ∀ i, l ≤ i → i < k → lt (ga p k) (ga p i) = true) : Run lt n (bubble p k (k - l)) (k + 1) := by
  have ek := R.rest k (Nat.le_refl _) hk
  have B := ga_bub (p := p) (k := k) (by omega) hl
  refine ⟨fun i j hij hj => ?_, fun m hm hn => ?_, fun m hm => ?_⟩
  · rw [B, B]
    by_cases c1 : i = l
    · rw [if_pos c1, if_neg (by omega), if_pos (by omega)]
      exact .inl (h2 (j - 1) (by omega) (by omega))
    · rw [if_neg c1]
      by_cases c2 : j = l
      · rw [if_pos c2, if_neg (by omega)]
        exact .inr ⟨h1 i (by omega), by rw [ek]; exact R.low i (by omega)⟩
      · rw [if_neg c2]
        by_cases c3 : l < i ∧ i ≤ k
        · rw [if_pos c3, if_pos (by omega)]
          exact R.asc _ _ (by omega) (by omega)
        · rw [if_neg c3]
          by_cases c4 : l < j ∧ j ≤ k
          · rw [if_pos c4]
            exact R.asc _ _ (by omega) (by omega)
          · rw [if_neg c4]
            exact R.asc _ _ hij (by omega)
  · rw [B, if_neg (by omega), if_neg (by omega)]
    exact R.rest m (by omega) hn
  · rw [B]
    split
    · omega
    · split
      · have := R.low (m - 1) (by omega); omega
      · have := R.low m (by omega); omega
theorem bin_ok (W : Weak lt) : ∀ (f : Nat) (p : Array Nat) (k : Nat), p.size = n → Run lt n p k → k + f = n → Run lt n (runT lt (kas_bin f p k)) n
  | 0, p, k, hs, R, h => by
    have : k = n := by omega
    subst this
    exact R
  | f + 1, p, k, hs, R, h => by
    have e : runT lt (kas_bin (f + 1) p k) = runT lt (kas_bin f (bubble p k (k - runT lt (kas_place p k k 0 k))) (k + 1)) := runT_bind _ _
    rw [e]
    obtain ⟨q1, q2, q3⟩ := place_ok W R k 0 k (Nat.zero_le _) (Nat.le_refl _) (by omega) (fun i hi => by omega) (fun i h1 h2 => by omega)
    exact bin_ok W f _ (k + 1) (by rw [bubble_size]; exact hs) (bin_step W hs R (by omega) q1 q2 q3) (by omega)
end
end XS
namespace XS
open PySem PySem.W PyProof.Rows
section
variable {lt : Nat → Nat → Bool} {p p' : Array Nat} {n a q : Nat}
theorem Rk.nr (W : Weak lt) {a b : Nat} (h : Rk lt a b) : lt b a = false := by
  rcases h with h | ⟨h, _⟩
  · cases z : lt b a with
    | false => rfl
    | true => have := W.tr _ _ _ h z; rw [W.irr] at this; cases this
  · exact h
theorem ga_rev {i j : Nat} (hj : j ≤ p.size) (k : Nat) : ga (kas_rev p i j) k = if i ≤ k ∧ k < j then ga p (i + j - 1 - k) else ga p k := by
  have e := getElem?_mirror_all (i := i) hj k
  have g : ∀ (q : Array Nat) (i : Nat), ga q i = (q[i]?).getD 0 := fun q i => by simp [ga, Array.getD_eq_getD_getElem?]
  rw [g, g p (i + j - 1 - k), g p k]
  unfold kas_rev
  rw [e]
  by_cases c : i ≤ k ∧ k < j
  · rw [if_pos c, if_pos c]
  · rw [if_neg c, if_neg c]
theorem rev_size (i j : Nat) : (kas_rev p i j).size = p.size := mirror_size _ _ _ _
structure Dn (lt : Nat → Nat → Bool) (n : Nat) (p : Array Nat) (a q : Nat) : Prop where
  le : q + 1 ≤ a
  desc : ∀ i j, i < j → j < a - (q + 1) → Rk lt (ga p j) (ga p i)
  strict : ∀ i j, i < a - (q + 1) → a - (q + 1) ≤ j → j < a → lt (ga p j) (ga p i) = true
  run : ∀ i j, a - (q + 1) ≤ i → i < j → j < a → lt (ga p i) (ga p j) = false ∧ lt (ga p j) (ga p i) = false ∧ ga p i < ga p j
  rest : ∀ k, a ≤ k → k < n → ga p k = k
  low : ∀ k, k < a → ga p k < a
structure Desc (lt : Nat → Nat → Bool) (n : Nat) (p : Array Nat) (a : Nat) : Prop where
  desc : ∀ i j, i < j → j < a → Rk lt (ga p j) (ga p i)
  rest : ∀ k, a ≤ k → k < n → ga p k = k
  low : ∀ k, k < a → ga p k < a
theorem Dn.turn (D : Dn lt n p a q) (h : ∀ k, ga p' k = if a - (q + 1) ≤ k ∧ k < a then ga p (a - (q + 1) + a - 1 - k) else ga p k) : Desc lt n p' a := by
  have l := D.le
  refine ⟨fun i j hij hj => ?_, fun k hk hn => ?_, fun k hk => ?_⟩
  · by_cases c : j < a - (q + 1)
    · rw [h, h, if_neg (by omega), if_neg (by omega)]
      exact D.desc i j hij c
    · rw [h j, if_pos (by omega), h i]
      by_cases e : i < a - (q + 1)
      · rw [if_neg (by omega)]
        exact .inl (D.strict _ _ e (by omega) (by omega))
      · rw [if_pos (by omega)]
        obtain ⟨x, y, z⟩ := D.run (a - (q + 1) + a - 1 - j) (a - (q + 1) + a - 1 - i) (by omega) (by omega) (by omega)
        exact .inr ⟨y, z⟩
  · rw [h, if_neg (by omega)]; exact D.rest k hk hn
  · rw [h]
    split
    · exact D.low _ (by omega)
    · exact D.low _ hk
theorem Desc.up (D : Desc lt n p a) (ha : a < n) (h : ∀ i, i < a → lt (ga p a) (ga p i) = true) : Dn lt n p (a + 1) 0 := by
  refine ⟨by omega, fun i j hij hj => D.desc i j hij (by omega), fun i j hi h1 h2 => ?_, fun i j h1 h2 h3 => by omega, fun k hk hn => D.rest k (by omega) hn, fun k hk => ?_⟩
  · have : j = a := by omega
    subst this
    exact h i (by omega)
  · by_cases z : k < a
    · have := D.low k z; omega
    · have : k = a := by omega
      subst this
      rw [D.rest k (Nat.le_refl _) ha]; omega
def turned (p : Array Nat) (a q : Nat) : Array Nat := if q > 0 then kas_rev p (a - (q + 1)) a else p
theorem ga_turned (hs : p.size = n) (ha : a ≤ n) (l : q + 1 ≤ a) (k : Nat) : ga (turned p a q) k = if a - (q + 1) ≤ k ∧ k < a then ga p (a - (q + 1) + a - 1 - k) else ga p k := by
  unfold turned
  by_cases c : q > 0
  · rw [if_pos c]; exact ga_rev (by omega) k
  · rw [if_neg c]
    by_cases e : a - (q + 1) ≤ k ∧ k < a
    · rw [if_pos e, show a - (q + 1) + a - 1 - k = k by omega]
    · rw [if_neg e]
theorem turned_size : (turned p a q).size = p.size := by
  unfold turned
  split
  · exact rev_size _ _
  · rfl
theorem Dn.below (W : Weak lt) (D : Dn lt n p a q) (hs : p.size = n) (ha : a < n) (h : lt (ga p a) (ga p (a - 1)) = true) (i : Nat) (hi : i < a) : lt (ga (turned p a q) a) (ga (turned p a q) i) = true := by
  have l := D.le
  have all : ∀ i, i < a → lt (ga p a) (ga p i) = true := fun i hi => by
    by_cases c : i < a - (q + 1)
    · exact W.tr _ _ _ h (D.strict i (a - 1) c (by omega) (by omega))
    · by_cases e : i = a - 1
      · rw [e]; exact h
      · rcases W.nt _ (ga p i) _ h with w | w
        · exact w
        · rw [(D.run i (a - 1) (by omega) (by omega) (by omega)).1] at w; cases w
  rw [ga_turned hs (by omega) l, if_neg (by omega), ga_turned hs (by omega) l]
  split
  · exact all _ (by omega)
  · exact all _ hi
theorem Dn.same (W : Weak lt) (D : Dn lt n p a q) (ha : a < n) (h1 : lt (ga p a) (ga p (a - 1)) = false) (h2 : lt (ga p (a - 1)) (ga p a) = false) : Dn lt n p (a + 1) (q + 1) := by
  have l := D.le
  have ea := D.rest a (Nat.le_refl _) ha
  refine ⟨by omega, fun i j hij hj => D.desc i j hij (by omega), fun i j hi q1 q2 => ?_, fun i j q1 q2 q3 => ?_, fun k hk hn => D.rest k (by omega) hn, fun k hk => ?_⟩
  · by_cases z : j < a
    · exact D.strict i j (by omega) (by omega) z
    · have : j = a := by omega
      subst this
      rcases W.nt _ (ga p j) _ (D.strict i (j - 1) (by omega) (by omega) (by omega)) with w | w
      · rw [w] at h2; cases h2
      · exact w
  · by_cases z : j < a
    · exact D.run i j (by omega) q2 z
    · have : j = a := by omega
      subst this
      have lo := D.low i (by omega)
      by_cases e : i = j - 1
      · subst e
        exact ⟨h2, h1, by omega⟩
      · obtain ⟨x, y, _⟩ := D.run i (j - 1) (by omega) (by omega) (by omega)
        exact ⟨W.not x h2, W.not h1 y, by omega⟩
  · by_cases z : k < a
    · have := D.low k z; omega
    · have : k = a := by omega
      subst this
      omega
theorem desc_ok (W : Weak lt) : ∀ (f : Nat) (p : Array Nat) (a q : Nat), p.size = n → Dn lt n p a q → a + f ≤ n →
    (runT lt (kas_desc f p a q)).1.size = n ∧ Dn lt n (runT lt (kas_desc f p a q)).1 (runT lt (kas_desc f p a q)).2.1 (runT lt (kas_desc f p a q)).2.2 ∧ (runT lt (kas_desc f p a q)).2.1 ≤ n
  | 0, p, a, q, hs, D, h => ⟨hs, D, h⟩
  | f + 1, p, a, q, hs, D, h => by
    have e : runT lt (kas_desc (f + 1) p a q) = runT lt (if lt (ga p a) (ga p (a - 1)) = true then (if q > 0 then kas_desc f (kas_rev p (a - (q + 1)) a) (a + 1) 0 else kas_desc f p (a + 1) 0) else .ask (ga p (a - 1)) (ga p a) fun d => if d = true then .ret (p, a, q) else kas_desc f p (a + 1) (q + 1)) := rfl
    rw [e]
    by_cases c : lt (ga p a) (ga p (a - 1)) = true
    · rw [if_pos c]
      have e2 : (if q > 0 then kas_desc f (kas_rev p (a - (q + 1)) a) (a + 1) 0 else kas_desc f p (a + 1) 0) = kas_desc f (turned p a q) (a + 1) 0 := by
        unfold turned
        split <;> rfl
      rw [e2]
      exact desc_ok W f (turned p a q) (a + 1) 0 (by rw [turned_size]; exact hs) ((D.turn (ga_turned hs (by omega) D.le)).up (by omega) (D.below W hs (by omega) c)) (by omega)
    · rw [if_neg c]
      have e3 : runT lt (.ask (ga p (a - 1)) (ga p a) fun d => if d = true then .ret (p, a, q) else kas_desc f p (a + 1) (q + 1)) = runT lt (if lt (ga p (a - 1)) (ga p a) = true then .ret (p, a, q) else kas_desc f p (a + 1) (q + 1)) := rfl
      rw [e3]
      by_cases d : lt (ga p (a - 1)) (ga p a) = true
      · rw [if_pos d]
        exact ⟨hs, D, by show a ≤ n; omega⟩
      · rw [if_neg d]
        exact desc_ok W f p (a + 1) (q + 1) hs (D.same W (by omega) (by simpa using c) (by simpa using d)) (by omega)
theorem tail_ok (W : Weak lt) (hs : p.size = n) (D : Desc lt n p a) (h1 : 1 ≤ a) (ha : a ≤ n) :
    (runT lt (kas_tail3 a n p)).2.size = n ∧ Run lt n (runT lt (kas_tail3 a n p)).2 (runT lt (kas_tail3 a n p)).1 ∧ 1 ≤ (runT lt (kas_tail3 a n p)).1 ∧ (runT lt (kas_tail3 a n p)).1 ≤ n := by
  have e : runT lt (kas_tail3 a n p) = (runT lt (kas_asc (kas_rev p 0 a) (n - a) a), kas_rev p 0 a) := runT_bind _ _
  rw [e]
  have B := ga_rev (p := p) (i := 0) (j := a) (by omega)
  have R : Run lt n (kas_rev p 0 a) a := by
    refine ⟨fun i j hij hj => ?_, fun k hk hn => ?_, fun k hk => ?_⟩
    · rw [B, B, if_pos (by omega), if_pos (by omega)]
      exact D.desc _ _ (by omega) (by omega)
    · rw [B, if_neg (by omega)]; exact D.rest k hk hn
    · rw [B, if_pos (by omega)]; exact D.low _ (by omega)
  obtain ⟨q1, q2, q3, _⟩ := asc_ok W (n - a) a R h1 (by omega)
  exact ⟨by rw [rev_size]; exact hs, q1, by show 1 ≤ runT lt _; omega, by show runT lt _ ≤ n; omega⟩
theorem part_ok (W : Weak lt) (hs : p.size = n) (D : Dn lt n p (a + 1) 0) (ha : a < n) :
    (runT lt (kas_descPart a n p)).2.size = n ∧ Run lt n (runT lt (kas_descPart a n p)).2 (runT lt (kas_descPart a n p)).1 ∧ 1 ≤ (runT lt (kas_descPart a n p)).1 ∧ (runT lt (kas_descPart a n p)).1 ≤ n := by
  obtain ⟨q1, q2, q3⟩ := desc_ok W (n - (a + 1)) p (a + 1) 0 hs D (by omega)
  have e : runT lt (kas_descPart a n p) = runT lt (kas_tail3 (runT lt (kas_desc (n - (a + 1)) p (a + 1) 0)).2.1 n (turned (runT lt (kas_desc (n - (a + 1)) p (a + 1) 0)).1 (runT lt (kas_desc (n - (a + 1)) p (a + 1) 0)).2.1 (runT lt (kas_desc (n - (a + 1)) p (a + 1) 0)).2.2)) := by
    refine (runT_bind _ _).trans ?_
    unfold turned
    split <;> rfl
  rw [e]
  have l := q2.le
  exact tail_ok W (by rw [turned_size]; exact q1) (q2.turn (ga_turned q1 q3 l)) (by omega) q3
theorem count_ok (W : Weak lt) (hs : p.size = n) (hn : 1 ≤ n) (R : Run lt n p 1) :
    (runT lt (kas_count n p)).2.size = n ∧ Run lt n (runT lt (kas_count n p)).2 (runT lt (kas_count n p)).1 ∧ 1 ≤ (runT lt (kas_count n p)).1 ∧ (runT lt (kas_count n p)).1 ≤ n := by
  obtain ⟨q1, q2, q3, q4⟩ := asc_ok W (n - 1) 1 R (Nat.le_refl _) (by omega)
  have e : runT lt (kas_count n p) = _ := runT_bind _ _
  rw [e]
  clear e
  generalize runT lt (kas_asc p (n - 1) 1) = m at q1 q2 q3 q4 ⊢
  by_cases c : (m == n) = true
  · rw [if_pos c]; exact ⟨hs, q1, q2, by show m ≤ n; omega⟩
  · rw [if_neg c]
    have c : m < n := by
      have : ¬ m = n := by simpa using c
      omega
    have dn := q4 (by omega)
    have st : ∀ p', (∀ k, ga p' k = if 0 ≤ k ∧ k < m then ga p (0 + m - 1 - k) else ga p k) → lt (ga p 0) (ga p (m - 1)) = false → Dn lt n p' (m + 1) 0 := fun p' B z => by
      have D : Desc lt n p' m := by
        refine ⟨fun i j hij hj => ?_, fun k hk hn => ?_, fun k hk => ?_⟩
        · rw [B, B, if_pos (by omega), if_pos (by omega)]
          exact q1.asc _ _ (by omega) (by omega)
        · rw [B, if_neg (by omega)]; exact q1.rest k hk hn
        · rw [B, if_pos (by omega)]; exact q1.low _ (by omega)
      have all : ∀ i, i < m → lt (ga p m) (ga p i) = true := fun i hi => by
        rcases W.nt _ (ga p i) _ dn with w | w
        · exact w
        · by_cases y : i = 0
          · subst y; rw [z] at w; cases w
          · rcases W.nt _ (ga p 0) _ w with v | v
            · rw [(q1.asc 0 i (by omega) hi).nr W] at v; cases v
            · rw [z] at v; cases v
      refine D.up c fun i hi => ?_
      rw [B, if_neg (by omega), B, if_pos (by omega)]
      exact all _ (by omega)
    by_cases g : m > 1
    · rw [if_pos g]
      show _ ∧ Run lt n (runT lt (if lt (ga p 0) (ga p (m - 1)) = true then .ret (m, p) else kas_descPart m n (kas_rev p 0 m))).2 (runT lt (if lt (ga p 0) (ga p (m - 1)) = true then .ret (m, p) else kas_descPart m n (kas_rev p 0 m))).1 ∧ _
      by_cases z : lt (ga p 0) (ga p (m - 1)) = true
      · have e : runT lt (.ask (ga p 0) (ga p (m - 1)) fun c => if c = true then .ret (m, p) else kas_descPart m n (kas_rev p 0 m)) = (m, p) := by
          show runT lt (if lt (ga p 0) (ga p (m - 1)) = true then .ret (m, p) else kas_descPart m n (kas_rev p 0 m)) = _
          rw [if_pos z]; rfl
        rw [e, if_pos z]
        exact ⟨hs, q1, q2, by show m ≤ n; omega⟩
      · have e : runT lt (.ask (ga p 0) (ga p (m - 1)) fun c => if c = true then .ret (m, p) else kas_descPart m n (kas_rev p 0 m)) = runT lt (kas_descPart m n (kas_rev p 0 m)) := by
          show runT lt (if lt (ga p 0) (ga p (m - 1)) = true then .ret (m, p) else kas_descPart m n (kas_rev p 0 m)) = _
          rw [if_neg z]
        rw [e, if_neg z]
        exact part_ok W (by rw [rev_size]; exact hs) (st _ (ga_rev (by omega)) (by simpa using z)) c
    · rw [if_neg g]
      have : m = 1 := by omega
      subst this
      refine part_ok W hs (st p (fun k => ?_) (W.irr _)) c
      split
      · rw [show 0 + 1 - 1 - k = k by omega]
      · rfl
theorem sort_ok (W : Weak lt) (hn : 1 ≤ n) : Run lt n (runT lt (kas_sort n)) n := by
  have gr : ∀ k, k < n → ga (List.toArray (List.range n)) k = k := fun k hk => by
    simp [ga, Array.getD_eq_getD_getElem?, hk]
  obtain ⟨q1, q2, q3, q4⟩ := count_ok (p := List.toArray (List.range n)) W (by simp) hn ⟨fun i j h1 h2 => by omega, fun k hk h => gr k h, fun k hk => by rw [gr k (by omega)]; exact hk⟩
  have e : runT lt (kas_sort n) = _ := runT_bind _ _
  rw [e]
  clear e
  generalize runT lt (kas_count n (List.toArray (List.range n))) = r at q1 q2 q3 q4 ⊢
  by_cases c : r.1 < n
  · rw [if_pos c, show max r.1 1 = r.1 by omega]
    exact bin_ok W _ _ _ q1 q2 (by omega)
  · rw [if_neg c]
    have : r.1 = n := by omega
    rw [← this]
    rw [← this] at q2
    exact q2
theorem ord_sorted (W : Weak lt) (hn : 1 ≤ n) : (ordT n lt).Pairwise (Rk lt) := by
  have R := sort_ok W hn
  have z : (ordT n lt).length = n := by
    have := (ord_perm (n := n) (by omega) lt).length_eq
    simpa using this
  rw [List.pairwise_iff_getElem]
  intro i j hi hj hij
  have := R.asc i j hij (by omega)
  have g : ∀ k (h : k < (ordT n lt).length), ga (runT lt (kas_sort n)) k = (ordT n lt)[k] := fun k h => by
    unfold ordT at h ⊢
    have h' : k < (runT lt (kas_sort n)).size := by simpa using h
    simp [ga, Array.getD_eq_getD_getElem?, h']
  rw [g i hi, g j hj] at this
  exact this
end
end XS
namespace XS
theorem weak_lex {k : Nat → Int × Int} : Weak fun i j => lexB (k i) (k j) := by
  refine ⟨fun a => ?_, fun a b c h1 h2 => ?_, fun a b c h => ?_⟩
  · simp [lexB]
  · revert h1 h2
    simp only [lexB]
    generalize (k a).1 = a1
    generalize (k a).2 = a2
    generalize (k b).1 = b1
    generalize (k b).2 = b2
    generalize (k c).1 = c1
    generalize (k c).2 = c2
    split <;> split <;> split <;> simp only [decide_eq_true_eq] <;> omega
  · revert h
    simp only [lexB]
    generalize (k a).1 = a1
    generalize (k a).2 = a2
    generalize (k b).1 = b1
    generalize (k b).2 = b2
    generalize (k c).1 = c1
    generalize (k c).2 = c2
    split <;> split <;> split <;> simp only [decide_eq_true_eq] <;> omega
theorem weak_ltP (qs : List (Int × Int)) : Weak (ltP qs) := weak_lex (k := fun i => qs.getD i (0, 0))
end XS
namespace Com
open PySem D3 My XS
theorem prs_n (f g : Nat → Int) : ∀ l : List Nat, prsD (l.map fun k => PyData.tuple [.int (f k), .int (g k)]) = some (l.map fun k => (f k, g k))
  | [] => rfl
  | a :: l => by
    rw [List.map_cons, prsD, prs_n f g l]
    rfl
theorem sortP_spec (n : Nat) (f : Nat → Int) (hn : n < 64) : ∃ L' : List Nat, gSortP [.list ((List.range n).map fun k : Nat => PyData.tuple [.int (f k), .int (k : Int)])] = some (.list (L'.map fun k : Nat => PyData.tuple [.int (f k), .int (k : Int)])) ∧ L'.Perm (List.range n) ∧ L'.Pairwise fun a b => f a ≤ f b := by
  by_cases h0 : n = 0
  · subst h0
    exact ⟨[], rfl, List.Perm.refl _, .nil⟩
  have ei : intsD ((List.range n).map fun k : Nat => PyData.tuple [.int (f k), .int (k : Int)]) = none := by
    obtain ⟨m, rfl⟩ : ∃ m, n = m + 1 := ⟨n - 1, by omega⟩
    rw [List.range_succ_eq_map, List.map_cons]
    rfl
  have ep := prs_n f (fun k : Nat => (k : Int)) (List.range n)
  have len : ((List.range n).map fun k : Nat => PyData.tuple [.int (f k), .int (k : Int)]).length = n := by rw [List.length_map, List.length_range]
  unfold gSortP
  dsimp only
  rw [ei]
  dsimp only
  rw [ep, Option.bind_some, len, if_pos hn]
  by_cases h1 : n = 1
  · subst h1
    exact ⟨[0], rfl, List.Perm.refl _, by simp⟩
  · rw [if_neg h1]
    have gd : ∀ i, i < n → ((List.range n).map fun k : Nat => (f k, (k : Int))).getD i (0, 0) = (f i, (i : Int)) := fun i hi => by
      rw [List.getD_eq_getElem?_getD, List.getElem?_map, List.getElem?_range hi]
      rfl
    refine ⟨ordT n (ltP ((List.range n).map fun k : Nat => (f k, (k : Int)))), ?_, ord_perm (by omega) _, ?_⟩
    · congr 2
      apply List.map_congr_left
      intro i hi
      have hi' := List.mem_range.mp ((ord_perm (n := n) (by omega) _).mem_iff.mp hi)
      rw [List.getD_eq_getElem?_getD, List.getElem?_map, List.getElem?_range hi']
      rfl
    · refine List.Pairwise.imp_of_mem ?_ (ord_sorted (weak_ltP _) (by omega))
      intro i j hi hj hr
      have hi' := List.mem_range.mp ((ord_perm (n := n) (by omega) _).mem_iff.mp hi)
      have hj' := List.mem_range.mp ((ord_perm (n := n) (by omega) _).mem_iff.mp hj)
      have key : ∀ a b, a < n → b < n → ltP ((List.range n).map fun k : Nat => (f k, (k : Int))) a b = if f a = f b then decide ((a : Int) < b) else decide (f a < f b) := fun a b ha hb => by
        unfold ltP lexB
        rw [gd a ha, gd b hb]
      rcases hr with z | ⟨z, _⟩
      · rw [key i j hi' hj'] at z
        split at z
        · omega
        · have := of_decide_eq_true z; omega
      · rw [key j i hj' hi'] at z
        split at z
        · omega
        · have := of_decide_eq_false z; omega
theorem hol_n {L : List Ty} (x : Int) : cntT L x = ((List.range L.length).filter (Gr.holds (fun k => (tAt L k).1) (fun k => (tAt L k).2.1) x)).length := by
  have e : L = (List.range L.length).map (tAt L) := by
    apply List.ext_getElem?
    intro i
    rw [List.getElem?_map]
    by_cases h : i < L.length
    · rw [List.getElem?_range h, List.getElem?_eq_getElem h, Option.map_some]
      unfold tAt
      rw [List.getD_eq_getElem?_getD, List.getElem?_eq_getElem h]
      rfl
    · rw [List.getElem?_eq_none (by omega), List.getElem?_eq_none (by simpa using h)]
      rfl
  unfold cntT
  conv => lhs; rw [e]
  rw [List.filter_map, List.length_map]
  rfl
theorem held_one {L : List Ty} (nd : (L.filterMap (·.2.2)).Nodup) {k l r : Nat} (hk : k < L.length) (hl : l < L.length) (z1 : (tAt L k).2.2 = some r) (z2 : (tAt L l).2.2 = some r) : k = l := by
  induction L generalizing k l with
  | nil => cases hk
  | cons s L ih =>
    have nd' : (L.filterMap (·.2.2)).Nodup := by
      cases h : s.2.2 with
      | none => rw [List.filterMap_cons, h] at nd; exact nd
      | some x => rw [List.filterMap_cons, h] at nd; exact (List.nodup_cons.mp nd).2
    have no : ∀ m, m < L.length → s.2.2 = some r → (tAt L m).2.2 = some r → False := fun m hm a b => by
      rw [List.filterMap_cons, a] at nd
      exact (List.nodup_cons.mp nd).1 (List.mem_filterMap.mpr ⟨_, tAt_mem hm, b⟩)
    cases k with
    | zero =>
      cases l with
      | zero => rfl
      | succ l => exact (no l (by simpa using hl) z1 z2).elim
    | succ k =>
      cases l with
      | zero => exact (no k (by simpa using hk) z2 z1).elim
      | succ l => exact congrArg (· + 1) (ih nd' (k := k) (l := l) (by simpa using hk) (by simpa using hl) z1 z2)
end Com
namespace K45
open PySem D3
noncomputable abbrev F_hinders : List D → Option D := Com.F_hinders
noncomputable def X_check_exchange : List D → Option Or := fnX 6 2 (xSeq (xIf (D3.tOr (tBool (dOp gLt (dVar 3) (dVar 2))) (tBool (dOp gEq (dVar 4) (dVar 5)))) (xRaise "NoExchange" (dVar 3)) (xOf (sNil)))
    (xFor (fZip (dVar 0) (dVar 1)) (gTn 2 (gsCons (gNl 6) (gsCons (gNl 7) (gsNil)))) (xIf (D3.tAnd (D3.tOr (tBool (dOp gEq (dVar 7) (dVar 4))) (tBool (dOp gEq (dVar 7) (dVar 5)))) (tBool (dCall F_hinders (dCons (dVar 6) (dCons (dVar 3) (dNil)))))) (xRaise "NoExchange" (dVar 3)) (xOf (sNil)))))
noncomputable abbrev F_room_behind : List D → Option D := Com.F_room_behind
noncomputable def X_exchanged : List D → Option Or := fnX 6 0 (xSeq (xCall X_check_exchange [] (dCons (dVar 0) (dCons (dVar 1) (dCons (dVar 2) (dCons (dVar 3) (dCons (dVar 4) (dCons (dVar 5) (dNil))))))))
    (xOf (sRet (dComp (fZip (dVar 0) (dVar 1)) (gTn 2 (gsCons (gNl 0) (gsCons (gNl 1) (gsNil)))) (tYes) (dCall F_room_behind (dCons (dVar 0) (dCons (dVar 1) (dCons (dVar 2) (dCons (dVar 3) (dCons (dVar 4) (dNil))))))) 2 [3, 4, 5]))))
noncomputable abbrev F__law_cell : List D → Option D := Com.F__law_cell
noncomputable abbrev F__law_part : List D → Option D := Com.F__law_part
noncomputable abbrev F__law_whole : List D → Option D := Com.F__law_whole
noncomputable abbrev F__law_stay : List D → Option D := Com.F__law_stay
noncomputable abbrev F__law_guest : List D → Option D := Com.F__law_guest
noncomputable abbrev F__law_full : List D → Option D := Com.F__law_full
noncomputable abbrev F__law_now : List D → Option D := Com.F__law_now
noncomputable abbrev F__law_stays : List D → Option D := Com.F__law_stays
noncomputable def F__law_plan : List D → Option D := fnD 4 5 (sSeq (sSetl 4 (dComp (fLst (dVar 2)) (gNl 0) (tYes) (dFlat (dOp gIx (dVar 0) (dC (.int 2)))) 1 []))
    (sSeq (sFor (fLst (dCall XS.gSortP (dCons (dComp (fRng1 (dCons (dCall gLen (dCons (dVar 2) (dNil))) (dNil))) (gNl 0) (tYes) (dFlat (dTup (dCons (dOp gIx (dOp gIx (dVar 1) (dVar 0)) (dC (.int 0))) (dCons (dVar 0) (dNil))))) 1 [2]) (dNil)))) (gTn 2 (gsCons (gNl 5) (gsCons (gNl 6) (gsNil)))) (sSeq (sSetl 7 (dComp (fRng1 (dCons (dCall gLen (dCons (dVar 2) (dNil))) (dNil))) (gNl 0) (D3.tAnd (tBool (dOp gLe (dOp gIx (dOp gIx (dVar 3) (dVar 0)) (dC (.int 0))) (dVar 2))) (tBool (dOp gLt (dVar 2) (dOp gIx (dOp gIx (dVar 3) (dVar 0)) (dC (.int 1)))))) (dFlat (dOp gIx (dVar 1) (dVar 0))) 1 [4, 5, 2]))
    (sSeq (sSetl 8 (dComp (fRng1 (dCons (dVar 3) (dNil))) (gNl 0) (tBool (dOp gNotin (dVar 0) (dVar 1))) (dFlat (dVar 0)) 1 [7]))
    (sIf (tBool (dUn gIsN (dOp gIx (dVar 4) (dVar 6)))) (sPut 4 (dVar 6) (dOp gIx (dVar 8) (dCall F__law_part (dCons (dVar 0) (dCons (dVar 1) (dCons (dVar 6) (dCons (dCall gLen (dCons (dVar 8) (dNil))) (dNil)))))))) (sNil)))))
    (sRet (dFl1 (dVar 4)))))
noncomputable def F__law_right : List D → Option D := fnD 3 2 (sSeq (sIf (D3.tOr (D3.tNot (tBool (dUn (gIs "list") (dVar 0)))) (tBool (dOp gNe (dCall gLen (dCons (dVar 0) (dNil))) (dCall gLen (dCons (dVar 1) (dNil)))))) (sRet (dC (.bool false))) (sNil))
    (sSeq (sFor (fRng1 (dCons (dCall gLen (dCons (dVar 1) (dNil))) (dNil))) (gNl 3) (sSeq (sIf (D3.tOr (D3.tNot (tBool (dCall F__law_whole (dCons (dOp gIx (dVar 0) (dVar 3)) (dNil))))) (D3.tOr (tBool (dOp gLt (dOp gIx (dVar 0) (dVar 3)) (dC (.int 0)))) (tBool (dOp gGe (dOp gIx (dVar 0) (dVar 3)) (dVar 2))))) (sRet (dC (.bool false))) (sNil))
    (sSeq (sIf (D3.tAnd (tBool (dUn gNotN (dOp gIx (dOp gIx (dVar 1) (dVar 3)) (dC (.int 2))))) (tBool (dOp gNe (dOp gIx (dOp gIx (dVar 1) (dVar 3)) (dC (.int 2))) (dOp gIx (dVar 0) (dVar 3))))) (sRet (dC (.bool false))) (sNil))
    (sFor (fRng1 (dCons (dVar 3) (dNil))) (gNl 4) (sIf (D3.tAnd (tBool (dOp gEq (dOp gIx (dVar 0) (dVar 4)) (dOp gIx (dVar 0) (dVar 3)))) (D3.tAnd (tBool (dOp gLt (dOp gIx (dOp gIx (dVar 1) (dVar 4)) (dC (.int 0))) (dOp gIx (dOp gIx (dVar 1) (dVar 3)) (dC (.int 1))))) (tBool (dOp gLt (dOp gIx (dOp gIx (dVar 1) (dVar 3)) (dC (.int 0))) (dOp gIx (dOp gIx (dVar 1) (dVar 4)) (dC (.int 1))))))) (sRet (dC (.bool false))) (sNil))))))
    (sRet (dC (.bool true)))))
noncomputable def F__law_due : List D → Option D := fnD 4 8 (sSeq (sAsg (dVar 3) (gTn 3 (gsCons (gNl 4) (gsCons (gNl 5) (gsCons (gNl 6) (gsNil))))))
    (sSeq (sIf (D3.tOr (tBool (dOp gLt (dVar 4) (dVar 2))) (tBool (dOp gEq (dVar 5) (dVar 6)))) (sRet (dC (.none))) (sNil))
    (sSeq (sSetl 7 (dUn gList (dVar 1)))
    (sSeq (sFor (fRng1 (dCons (dCall gLen (dCons (dVar 0) (dNil))) (dNil))) (gNl 8) (sSeq (sAsg (dOp gIx (dVar 0) (dVar 8)) (gTn 3 (gsCons (gNl 9) (gsCons (gNl 10) (gsCons (gNl 11) (gsNil))))))
    (sIf (D3.tOr (tBool (dOp gEq (dOp gIx (dVar 1) (dVar 8)) (dVar 5))) (tBool (dOp gEq (dOp gIx (dVar 1) (dVar 8)) (dVar 6)))) (sSeq (sIf (D3.tAnd (tBool (dOp gGt (dVar 10) (dVar 4))) (D3.tOr (tBool (dUn gNotN (dVar 11))) (tBool (dOp gLt (dVar 9) (dVar 4))))) (sRet (dC (.none))) (sNil))
    (sIf (tBool (dOp gGe (dVar 9) (dVar 4))) (sPut 7 (dVar 8) (dOp gSub (dOp gAdd (dVar 5) (dVar 6)) (dOp gIx (dVar 1) (dVar 8)))) (sNil))) (sNil))))
    (sRet (dFl1 (dVar 7)))))))
noncomputable def F__law_asked : List D → Option D := fnD 4 3 (sSeq (sSetl 4 (dC (.none)))
    (sSeq (sTryA 4 X_exchanged ["NoExchange"] [] (dCons (dVar 0) (dCons (dVar 1) (dCons (dVar 2) (dCons (dOp gIx (dVar 3) (dC (.int 0))) (dCons (dOp gIx (dVar 3) (dC (.int 1))) (dCons (dOp gIx (dVar 3) (dC (.int 2))) (dNil))))))) (suR F__law_whole "odd" "refused" (dOp gIx (dVar 3) (dC (.int 0))) 5 6))
    (sRet (dFl1 (dVar 4)))))
noncomputable def F__law_told : List D → Option D := fnD 5 4 (sSeq (sSetl 5 (dCall F__law_due (dCons (dVar 0) (dCons (dVar 1) (dCons (dVar 3) (dCons (dVar 4) (dNil)))))))
    (sSeq (sSetl 6 (dLst (dCons (dUn gList (dVar 0)) (dCons (dUn gList (dVar 1)) (dNil)))))
    (sSeq (sSetl 7 (dFl1 (dCall F__law_asked (dCons (dOp gIx (dVar 6) (dC (.int 0))) (dCons (dOp gIx (dVar 6) (dC (.int 1))) (dCons (dVar 3) (dCons (dVar 4) (dNil))))))))
    (sSeq (sIf (tBool (dOp gNe (dVar 6) (dLst (dCons (dVar 0) (dCons (dVar 1) (dNil)))))) (sRet (dC (.bool false))) (sNil))
    (sSeq (sIf (tBool (dUn gIsN (dVar 5))) (sRet (dOp gEq (dVar 7) (dC (.str "refused")))) (sNil))
    (sSeq (sIf (D3.tOr (D3.tNot (tBool (dUn (gIs "list") (dVar 7)))) (D3.tOr (D3.tNot (tBool (dCall gAll (dCons (dComp (fLst (dVar 7)) (gNl 0) (tYes) (dCall F__law_whole (dCons (dVar 0) (dNil))) 1 []) (dNil))))) (tBool (dOp gNe (dVar 7) (dVar 5))))) (sRet (dC (.bool false))) (sNil))
    (sSeq (sIf (D3.tAnd (tBool (dOp gLt (dOp gIx (dVar 4) (dC (.int 1))) (dVar 2))) (D3.tAnd (tBool (dOp gLt (dOp gIx (dVar 4) (dC (.int 2))) (dVar 2))) (D3.tNot (tBool (dCall F__law_right (dCons (dVar 7) (dCons (dVar 0) (dCons (dVar 2) (dNil))))))))) (sRet (dC (.bool false))) (sNil))
    (sSeq (sSetl 8 (dCall F__law_asked (dCons (dVar 0) (dCons (dUn gList (dVar 7)) (dCons (dVar 3) (dCons (dVar 4) (dNil)))))))
    (sSeq (sClr 7)
    (sRet (dAnd (dOp gEq (dVar 8) (dVar 1)) (dOp gEq (dOp gIx (dVar 6) (dC (.int 1))) (dVar 1)))))))))))))
noncomputable def F__law_far : List D → Option D := fnD 2 0 (sRet (dFlat (dOp gIx (dLst (dCons (dVar 1) (dCons (dOp gAdd (dOp gPow (dC (.int 10)) (dC (.int 20))) (dOp gMul (dC (.int 7)) (dVar 1))) (dCons (dOp gAdd (dOp gMul (dC (.int 3)) (dVar 1)) (dC (.int 1))) (dNil))))) (dVar 0))))
noncomputable def F__law_beyond : List D → Option D := fnD 2 4 (sSeq (sSetl 2 (dLst (dNil)))
    (sSeq (sFor (fLst (dVar 0)) (gTn 3 (gsCons (gNl 3) (gsCons (gNl 4) (gsCons (gNl 5) (gsNil))))) (sSeq (sIf (tBool (dUn gNotN (dVar 5))) (sSetl 5 (dCall F__law_far (dCons (dVar 1) (dCons (dVar 5) (dNil))))) (sNil))
    (sApp 2 (dTup (dCons (dVar 3) (dCons (dVar 4) (dCons (dVar 5) (dNil))))))))
    (sRet (dFl1 (dVar 2)))))
noncomputable def F_law : List D → Option D := fnD 1 12 (sSeq (sSetl 1 (dOp gAdd (dC (.int 1)) (dCall F__law_part (dCons (dVar 0) (dCons (dC (.int 0)) (dCons (dC (.int 3)) (dCons (dOp gIx (dLst (dCons (dC (.int 3)) (dCons (dC (.int 12)) (dNil)))) (dCall gInt (dCons (dOp gEq (dCall F__law_part (dCons (dVar 0) (dCons (dC (.int 0)) (dCons (dC (.int 4)) (dCons (dC (.int 4)) (dNil)))))) (dC (.int 1))) (dNil)))) (dNil))))))))
    (sSeq (sSetl 2 (dCall F__law_now (dCons (dVar 0) (dNil))))
    (sSeq (sSetl 3 (dCall F__law_stays (dCons (dVar 0) (dCons (dVar 1) (dCons (dVar 2) (dCons (dC (.int 24)) (dNil)))))))
    (sSeq (sSetl 4 (dCall F__law_plan (dCons (dVar 0) (dCons (dC (.int 40)) (dCons (dVar 3) (dCons (dVar 1) (dNil)))))))
    (sSeq (sSetl 5 (dOp gCat (dOp gCat (dLst (dCons (dVar 2) (dCons (dOp gSub (dVar 2) (dC (.int 1))) (dCons (dOp gAdd (dVar 2) (dC (.int 1))) (dCons (dC (.int 399)) (dCons (dC (.int 400)) (dNil))))))) (dComp (fLst (dVar 3)) (gNl 0) (tYes) (dFlat (dOp gIx (dVar 0) (dC (.int 0)))) 1 [])) (dComp (fLst (dVar 3)) (gNl 0) (tYes) (dFlat (dOp gIx (dVar 0) (dC (.int 1)))) 1 [])))
    (sSeq (sSetl 6 (dCall F__law_part (dCons (dVar 0) (dCons (dC (.int 43)) (dCons (dC (.int 0)) (dCons (dC (.int 3)) (dNil)))))))
    (sSeq (sSetl 7 (dCall F__law_beyond (dCons (dVar 3) (dCons (dVar 6) (dNil)))))
    (sSeq (sSetl 8 (dComp (fLst (dVar 4)) (gNl 0) (tYes) (dCall F__law_far (dCons (dVar 1) (dCons (dVar 0) (dNil)))) 1 [6]))
    (sSeq (sFor (fRng1 (dCons (dC (.int 12)) (dNil))) (gNl 9) (sSeq (sSetl 10 (dOp gIx (dVar 5) (dCall F__law_part (dCons (dVar 0) (dCons (dC (.int 41)) (dCons (dOp gMul (dC (.int 4)) (dVar 9)) (dCons (dCall gLen (dCons (dVar 5) (dNil))) (dNil))))))))
    (sSeq (sIf (tBool (dOp gEq (dCall F__law_part (dCons (dVar 0) (dCons (dC (.int 41)) (dCons (dOp gAdd (dOp gMul (dC (.int 4)) (dVar 9)) (dC (.int 1))) (dCons (dC (.int 4)) (dNil)))))) (dC (.int 0)))) (sSetl 10 (dOp gSub (dCall F__law_part (dCons (dVar 0) (dCons (dC (.int 41)) (dCons (dOp gAdd (dOp gMul (dC (.int 4)) (dVar 9)) (dC (.int 1))) (dCons (dC (.int 500)) (dNil)))))) (dC (.int 50)))) (sNil))
    (sSeq (sSetl 11 (dCall F__law_part (dCons (dVar 0) (dCons (dC (.int 42)) (dCons (dOp gMul (dC (.int 2)) (dVar 9)) (dCons (dVar 1) (dNil)))))))
    (sSeq (sSetl 12 (dCall F__law_part (dCons (dVar 0) (dCons (dC (.int 42)) (dCons (dOp gAdd (dOp gMul (dC (.int 2)) (dVar 9)) (dC (.int 1))) (dCons (dOp gAdd (dVar 1) (dC (.int 1))) (dNil)))))))
    (sSeq (sIf (D3.tNot (tBool (dCall F__law_told (dCons (dVar 3) (dCons (dVar 4) (dCons (dVar 1) (dCons (dVar 2) (dCons (dTup (dCons (dVar 10) (dCons (dVar 11) (dCons (dVar 12) (dNil))))) (dNil))))))))) (sRet (dC (.bool false))) (sNil))
    (sIf (D3.tNot (tBool (dCall F__law_told (dCons (dVar 7) (dCons (dVar 8) (dCons (dC (.int 0)) (dCons (dVar 2) (dCons (dTup (dCons (dVar 10) (dCons (dCall F__law_far (dCons (dVar 6) (dCons (dVar 11) (dNil)))) (dCons (dCall F__law_far (dCons (dVar 6) (dCons (dVar 12) (dNil)))) (dNil))))) (dNil))))))))) (sRet (dC (.bool false))) (sNil))))))))
    (sSeq (sIf (D3.tNot (tBool (dCall F__law_told (dCons (dLst (dNil)) (dCons (dLst (dNil)) (dCons (dVar 1) (dCons (dVar 2) (dCons (dTup (dCons (dVar 2) (dCons (dC (.int 0)) (dCons (dC (.int 1)) (dNil))))) (dNil))))))))) (sRet (dC (.bool false))) (sNil))
    (sRet (dAnd (dCall F__law_told (dCons (dVar 3) (dCons (dVar 4) (dCons (dVar 1) (dCons (dVar 2) (dCons (dTup (dCons (dVar 2) (dCons (dC (.int 0)) (dCons (dC (.int 1)) (dNil))))) (dNil))))))) (dCall F__law_told (dCons (dVar 3) (dCons (dVar 4) (dCons (dVar 1) (dCons (dVar 2) (dCons (dTup (dCons (dC (.int 400)) (dCons (dVar 1) (dCons (dC (.int 0)) (dNil))))) (dNil)))))))))))))))))))
end K45
namespace K45
open PySem D3 My Com XS
def bk (L : List Ty) (k : Nat) : Int := (tAt L k).1
def ek (L : List Ty) (k : Nat) : Int := (tAt L k).2.1
def hk (L : List Ty) (k : Nat) : Option Nat := (tAt L k).2.2
theorem any_eqv (l : List (Option Nat)) (r : Nat) : ((l.map hD).any fun z => PyData.eqv z (.int (r : Int))) = decide (some r ∈ l) := by
  induction l with
  | nil => rfl
  | cons o l ih =>
    rw [List.map_cons, List.any_cons, ih]
    cases o with
    | none =>
      show (false || _) = _
      rw [Bool.false_or]
      simp
    | some x =>
      have : PyData.eqv (hD (some x)) (.int (r : Int)) = decide (x = r) := by
        show decide ((x : Int) = (r : Int)) = _
        exact decide_eq_decide.mpr (by omega)
      rw [this]
      by_cases h : x = r
      · subst h; simp
      · have h2 : ¬ r = x := fun z => h z.symm
        simp [h, h2]
theorem notin_spec (l : List (Option Nat)) (r : Nat) : gNotin (.int (r : Int)) (.list (l.map hD)) = some (.bool (!decide (some r ∈ l))) := by
  have s1 : SeqAt.shaped (.int (r : Int)) = true := ly_shaped (ly_int (n := 59))
  have s2 : SeqAt.shaped (.list (l.map hD)) = true := ly_shaped (ly_list (n := 59) (lys_map _ ly_hD _))
  show (if (SeqAt.shaped (.int (r : Int)) && SeqAt.shaped (.list (l.map hD))) = true then some (PyData.bool (!(l.map hD).any fun z => PyData.eqv z (.int (r : Int)))) else none) = _
  rw [s1, s2, any_eqv]
  rfl
theorem plan_spec (ns : List Int) {at' : Int} {L : List Ty} {M : Nat} {now : Int} (ok : TOk L M now) (hM : M ≤ 12) (ha : 0 ≤ at') :
    ∃ h : Nat → Int, F__law_plan [.list (ns.map .int), .int at', .list (L.map yD), .int (M : Int)] = some (.list (plD L.length h)) ∧ Xg.Valid (ssT L now) h ∧ (∀ k, k < L.length → 0 ≤ h k ∧ h k < (M : Int)) ∧ ∀ k r, k < L.length → hk L k = some r → h k = (r : Int) := by
  have l24 := ok.len
  have C0 : compD (gNl 0) (D3.tYes) (dFlat (dOp gIx (dVar 0) (dC (.int 2)))) (capD 1 [] [some (.d (.list (ns.map .int))), some (.d (.int at')), some (.d (.list (L.map yD))), some (.d (.int (M : Int))), none, none, none, none, none]) (L.map yD) = some ((List.range L.length).map fun k => hD (hk L k)) := by
    rw [map_tAt]
    exact cMap (fun k => yD (tAt L k)) (fun k => hD (hk L k)) (List.range L.length) fun k _ => ⟨[some (.d (yD (tAt L k)))], rfl, rfl, by
      have fl : flat (hD (tAt L k).2.2) = true := by cases (tAt L k).2.2 <;> rfl
      unfold yD hk
      simp only [EV, reduceIte, Nat.reduceAdd, Nat.reduceLT, Nat.reduceLeDiff, Nat.reduceEqDiff, Int.reduceEq, Int.reduceLT, Int.reduceLE, at2, fl]⟩
  have lL : (L.map yD).length = L.length := List.length_map _
  have lL' : L.length ≤ 100000 := by omega
  have rg : qRng1 (some [.int (L.length : Int)]) = some (rngD 0 (L.length : Int)) := rng1 (by omega) (by omega)
  have rgM : qRng1 (some [.int (M : Int)]) = some (rngD 0 (M : Int)) := rng1 (by omega) (by omega)
  have rn : rngD 0 (L.length : Int) = (List.range L.length).map fun k : Nat => PyData.int (k : Int) := by rw [rng_map]; rfl
  have rM : rngD 0 (M : Int) = (List.range M).map fun k : Nat => PyData.int (k : Int) := by rw [rng_map]; rfl
  have lr : (rngD 0 (L.length : Int)).length ≤ 100000 := by rw [rng_len]; omega
  have lrM : (rngD 0 (M : Int)).length ≤ 100000 := by rw [rng_len]; omega
  have ay : ∀ k : Nat, k < L.length → pAt (L.map yD) (k : Int) = some (.tuple [.int (bk L k), .int (ek L k), hD (hk L k)]) := fun k hk' => by rw [map_tAt, at_n _ hk']; rfl
  have C1 : ∀ u, compD (gNl 0) (D3.tYes) (dFlat (dTup (dCons (dOp gIx (dOp gIx (dVar 1) (dVar 0)) (dC (.int 0))) (dCons (dVar 0) (dNil))))) (capD 1 [2] [some (.d (.list (ns.map .int))), some (.d (.int at')), some (.d (.list (L.map yD))), some (.d (.int (M : Int))), u, none, none, none, none]) (rngD 0 (L.length : Int)) = some ((List.range L.length).map fun k : Nat => PyData.tuple [.int (bk L k), .int (k : Int)]) := fun u => by
    rw [rn]
    exact cMap (fun k : Nat => PyData.int (k : Int)) _ (List.range L.length) fun k hk' => ⟨[some (.d (.int (k : Int))), some (.d (.list (L.map yD)))], rfl, rfl, by
      have a := ay k (List.mem_range.mp hk')
      have fl : flat (.tuple [.int (bk L k), .int (k : Int)]) = true := rfl
      simp only [EV, reduceIte, Nat.reduceAdd, Nat.reduceLT, Nat.reduceLeDiff, Nat.reduceEqDiff, Int.reduceEq, Int.reduceLT, Int.reduceLE, a, at0, zl2, fl]⟩
  obtain ⟨O, eO, pO, sO⟩ := sortP_spec L.length (bk L) (by omega)
  have nO : O.Nodup := pO.nodup_iff.mpr List.nodup_range
  have okk : ∀ k, k < L.length → bk L k < ek L k := fun k h => (ok.ok _ (tAt_mem h)).1
  have g1 : ∀ k r, k < L.length → hk L k = some r → bk L k ≤ now := fun k r h z => ((ok.ok _ (tAt_mem h)).2.1 r z).2.1
  have g2 : ∀ k, k < L.length → hk L k = none → now ≤ bk L k := fun k h z => (ok.ok _ (tAt_mem h)).2.2 z
  have P0 : Pl.PInv L.length M (bk L) (ek L) (hk L) [] (hk L) := Pl.start (fun k r h z => ((ok.ok _ (tAt_mem h)).2.1 r z).1) (fun k l r h1 h2 z1 z2 => held_one ok.nd h1 h2 z1 z2)
  obtain ⟨δ', e, seat, u5, u6, u7, u8, I, rfl⟩ := for_inv (g := (gTn 2 (gsCons (gNl 5) (gsCons (gNl 6) (gsNil))))) (b := (sSeq (sSetl 7 (dComp (fRng1 (dCons (dCall gLen (dCons (dVar 2) (dNil))) (dNil))) (gNl 0) (D3.tAnd (tBool (dOp gLe (dOp gIx (dOp gIx (dVar 3) (dVar 0)) (dC (.int 0))) (dVar 2))) (tBool (dOp gLt (dVar 2) (dOp gIx (dOp gIx (dVar 3) (dVar 0)) (dC (.int 1)))))) (dFlat (dOp gIx (dVar 1) (dVar 0))) 1 [4, 5, 2])) (sSeq (sSetl 8 (dComp (fRng1 (dCons (dVar 3) (dNil))) (gNl 0) (tBool (dOp gNotin (dVar 0) (dVar 1))) (dFlat (dVar 0)) 1 [7])) (sIf (tBool (dUn gIsN (dOp gIx (dVar 4) (dVar 6)))) (sPut 4 (dVar 6) (dOp gIx (dVar 8) (dCall F__law_part (dCons (dVar 0) (dCons (dVar 1) (dCons (dVar 6) (dCons (dCall gLen (dCons (dVar 8) (dNil))) (dNil)))))))) (sNil)))))
    (fun i δ => ∃ (seat : Nat → Option Nat) (u5 u6 u7 u8 : Option U), Pl.PInv L.length M (bk L) (ek L) (hk L) (O.take i) seat ∧ δ = [some (.d (.list (ns.map .int))), some (.d (.int at')), some (.d (.list (L.map yD))), some (.d (.int (M : Int))), some (.d (.list ((List.range L.length).map fun k => hD (seat k)))), u5, u6, u7, u8]) (O.map fun k : Nat => PyData.tuple [.int (bk L k), .int (k : Int)])
    [some (.d (.list (ns.map .int))), some (.d (.int at')), some (.d (.list (L.map yD))), some (.d (.int (M : Int))), some (.d (.list ((List.range L.length).map fun k => hD (hk L k)))), none, none, none, none] ⟨hk L, none, none, none, none, P0, rfl⟩ (by
      rintro i d δ hd ⟨seat, u5, u6, u7, u8, I, rfl⟩
      rw [List.getElem?_map] at hd
      cases hi : O[i]? with
      | none => rw [hi] at hd; cases hd
      | some c =>
        rw [hi] at hd
        cases hd
        have hiL : i < O.length := (List.getElem?_eq_some_iff.mp hi).1
        have et : O.take (i + 1) = O.take i ++ [c] := by rw [List.take_add_one, hi]; rfl
        have sp : O = O.take i ++ c :: O.drop (i + 1) := by
          rw [List.getElem?_eq_getElem hiL] at hi
          cases hi
          rw [List.getElem_cons_drop, List.take_append_drop]
        have hc : c ∉ O.take i := fun z => by
          rw [sp] at nO
          exact (List.nodup_append.mp nO).2.2 c z c List.mem_cons_self rfl
        have mem : ∀ p ∈ O, p < L.length := fun p hp => List.mem_range.mp (pO.mem_iff.mp hp)
        have hcn : c < L.length := mem c (List.mem_of_getElem? hi)
        have hb : ∀ p ∈ O.take i, bk L p ≤ bk L c := fun p hp => by
          rw [sp] at sO
          exact (List.pairwise_append.mp sO).2.2 p hp c List.mem_cons_self
        have as : ∀ k : Nat, k < L.length → pAt ((List.range L.length).map fun k => hD (seat k)) (k : Int) = some (hD (seat k)) := fun k h => at_n _ h
        have C2 : compD (gNl 0) (D3.tAnd (tBool (dOp gLe (dOp gIx (dOp gIx (dVar 3) (dVar 0)) (dC (.int 0))) (dVar 2))) (tBool (dOp gLt (dVar 2) (dOp gIx (dOp gIx (dVar 3) (dVar 0)) (dC (.int 1)))))) (dFlat (dOp gIx (dVar 1) (dVar 0))) (capD 1 [4, 5, 2] [some (.d (.list (ns.map .int))), some (.d (.int at')), some (.d (.list (L.map yD))), some (.d (.int (M : Int))), some (.d (.list ((List.range L.length).map fun k => hD (seat k)))), some (.d (.int (bk L c))), some (.d (.int (c : Int))), u7, u8]) (rngD 0 (L.length : Int)) = some ((((List.range L.length).filter (Gr.holds (bk L) (ek L) (bk L c))).map seat).map hD) := by
          rw [rn, List.map_map]
          exact cFil (fun k : Nat => PyData.int (k : Int)) (Gr.holds (bk L) (ek L) (bk L c)) _ (List.range L.length) fun k hk' => ⟨[some (.d (.int (k : Int))), some (.d (.list ((List.range L.length).map fun k => hD (seat k)))), some (.d (.int (bk L c))), some (.d (.list (L.map yD)))], rfl, by
            have a := ay k (List.mem_range.mp hk')
            unfold Gr.holds
            simp only [EV, reduceIte, Nat.reduceAdd, Nat.reduceLT, Nat.reduceLeDiff, Nat.reduceEqDiff, Int.reduceEq, Int.reduceLT, Int.reduceLE, a, at0, at1]
            cases decide (bk L k ≤ bk L c) <;> simp only [D3.qTA, Bool.true_and, Bool.false_and] <;> simp only [EV, reduceIte, Nat.reduceAdd, Nat.reduceLT, Nat.reduceLeDiff, Nat.reduceEqDiff, Int.reduceEq, Int.reduceLT, Int.reduceLE, a, at0, at1], fun _ => by
            have a := as k (List.mem_range.mp hk')
            have fl : flat (hD (seat k)) = true := by cases seat k <;> rfl
            simp only [EV, reduceIte, Nat.reduceAdd, Nat.reduceLT, Nat.reduceLeDiff, Nat.reduceEqDiff, Int.reduceEq, Int.reduceLT, Int.reduceLE, a, fl]
            rfl⟩
        obtain ⟨B, hB⟩ : ∃ B, B = ((List.range L.length).filter (Gr.holds (bk L) (ek L) (bk L c))).map seat := ⟨_, rfl⟩
        rw [← hB] at C2
        have C3 : compD (gNl 0) (tBool (dOp gNotin (dVar 0) (dVar 1))) (dFlat (dVar 0)) (capD 1 [7] [some (.d (.list (ns.map .int))), some (.d (.int at')), some (.d (.list (L.map yD))), some (.d (.int (M : Int))), some (.d (.list ((List.range L.length).map fun k => hD (seat k)))), some (.d (.int (bk L c))), some (.d (.int (c : Int))), some (.d (.list (B.map hD))), u8]) (rngD 0 (M : Int)) = some (((List.range M).filter fun r => !decide (some r ∈ B)).map fun r : Nat => PyData.int (r : Int)) := by
          rw [rM]
          exact cFil (fun k : Nat => PyData.int (k : Int)) (fun r => !decide (some r ∈ B)) _ (List.range M) fun r _ => ⟨[some (.d (.int (r : Int))), some (.d (.list (B.map hD)))], rfl, by
            have := notin_spec B r
            simp only [EV, reduceIte, Nat.reduceAdd, Nat.reduceLT, Nat.reduceLeDiff, Nat.reduceEqDiff, Int.reduceEq, Int.reduceLT, Int.reduceLE, this], fun _ => by simp only [EV, reduceIte, Nat.reduceAdd, Nat.reduceLT, Nat.reduceLeDiff, Nat.reduceEqDiff, Int.reduceEq, Int.reduceLT, Int.reduceLE, fli]⟩
        have an := as c hcn
        cases hs : seat c with
        | some x =>
          rw [hs] at an
          refine ⟨_, [some (.d (.list (ns.map .int))), some (.d (.int at')), some (.d (.list (L.map yD))), some (.d (.int (M : Int))), some (.d (.list ((List.range L.length).map fun k => hD (seat k)))), some (.d (.int (bk L c))), some (.d (.int (c : Int))), some (.d (.list (B.map hD))), some (.d (.list (((List.range M).filter fun r => !decide (some r ∈ B)).map fun r : Nat => PyData.int (r : Int))))], rfl, .inl ?_, seat, _, _, _, _, ?_, rfl⟩
          · have nN : isNone (hD (some x)) = false := rfl
            simp only [EV, reduceIte, Nat.reduceAdd, Nat.reduceLT, Nat.reduceLeDiff, Nat.reduceEqDiff, Int.reduceEq, Int.reduceLT, Int.reduceLE, lL, rg, lr, C2, rgM, lrM, C3, an, nN]
          · rw [et]
            exact Pl.skip I (by rw [hs]; simp)
        | none =>
          rw [hs] at an
          have hcN : hk L c = none := by
            cases z : hk L c with
            | none => rfl
            | some r => rw [I.hl c r hcn z] at hs; cases hs
          have cnt : ((List.range L.length).filter (Gr.holds (bk L) (ek L) (bk L c))).length ≤ M := by
            have z := ok.full _ (tAt_mem hcn)
            have y := g2 c hcn hcN
            have e : (if (tAt L c).1 > now then (tAt L c).1 else now) = bk L c := by
              unfold bk at y ⊢
              split <;> omega
            rw [e, hol_n] at z
            exact z
          obtain ⟨r0, hr0, hf0⟩ := Pl.free_room I hcn hs (okk c hcn) cnt
          have inB : ∀ r, some r ∉ B → ∀ k, k < L.length → Gr.holds (bk L) (ek L) (bk L c) k = true → seat k ≠ some r := fun r h k h1 h2 h3 => h (by rw [hB]; exact List.mem_map.mpr ⟨k, List.mem_filter.mpr ⟨List.mem_range.mpr h1, h2⟩, h3⟩)
          have fm : r0 ∈ (List.range M).filter fun r => !decide (some r ∈ B) := List.mem_filter.mpr ⟨List.mem_range.mpr hr0, by
            have : ¬ some r0 ∈ B := fun z => by
              rw [hB] at z
              obtain ⟨k, h1, h2⟩ := List.mem_map.mp z
              obtain ⟨h3, h4⟩ := List.mem_filter.mp h1
              exact hf0 k (List.mem_range.mp h3) h4 h2
            simp [this]⟩
          obtain ⟨Fr, hFr⟩ : ∃ Fr, Fr = (List.range M).filter fun r => !decide (some r ∈ B) := ⟨_, rfl⟩
          rw [← hFr] at C3 fm
          have Fpos : 0 < Fr.length := List.length_pos_of_mem fm
          have q := part_spec (ns := ns) (i := at') (k := (c : Int)) (m := (Fr.length : Int)) ha (by omega) (by omega) (by omega)
          have qr := partF_range ns at' (c : Int) (m := (Fr.length : Int)) (by omega)
          generalize partF ns at' (c : Int) (Fr.length : Int) = ix at *
          obtain ⟨r, hr, er⟩ := pAt_map (fun r : Nat => PyData.int (r : Int)) (l := Fr) qr.1 qr.2
          rw [hFr] at hr
          obtain ⟨hr1, hr2⟩ := List.mem_filter.mp hr
          have hr3 : some r ∉ B := by simpa using hr2
          have lF : (Fr.map fun r : Nat => PyData.int (r : Int)).length = Fr.length := List.length_map _
          have p4 := ix_n (l := (List.range L.length).map fun k => hD (seat k)) (n := L.length) (by rw [List.length_map, List.length_range]) hcn
          refine ⟨_, [some (.d (.list (ns.map .int))), some (.d (.int at')), some (.d (.list (L.map yD))), some (.d (.int (M : Int))), some (.d (.list (((List.range L.length).map fun k => hD (seat k)).set c (.int (r : Int))))), some (.d (.int (bk L c))), some (.d (.int (c : Int))), some (.d (.list (B.map hD))), some (.d (.list (Fr.map fun r : Nat => PyData.int (r : Int))))], rfl, .inl ?_, ?_⟩
          · have nN : isNone (hD none) = true := rfl
            generalize (List.range L.length).map (fun k => hD (seat k)) = SS at *
            simp only [EV, reduceIte, Nat.reduceAdd, Nat.reduceLT, Nat.reduceLeDiff, Nat.reduceEqDiff, Int.reduceEq, Int.reduceLT, Int.reduceLE, lL, rg, lr, C2, rgM, lrM, C3, an, nN, lF, q, er, p4, Option.bind_some]
          · refine ⟨fun k => if k = c then some r else seat k, some (.d (.int (bk L c))), some (.d (.int (c : Int))), some (.d (.list (B.map hD))), some (.d (.list (Fr.map fun r : Nat => PyData.int (r : Int)))), ?_, ?_⟩
            · rw [et]
              exact Pl.step I hcn hs hc hb g1 g2 (List.mem_range.mp hr1) (inB r hr3)
            · rw [set_n]
              have : (fun p => if p = c then PyData.int (r : Int) else hD (seat p)) = fun p => hD (if p = c then some r else seat p) := by
                funext p
                by_cases z : p = c
                · rw [if_pos z, if_pos z]; rfl
                · rw [if_neg z, if_neg z]
              rw [this])
  rw [List.length_map, List.take_length] at I
  have all : ∀ k, k < L.length → ∃ r, seat k = some r ∧ r < M := fun k hk' => by
    cases z : seat k with
    | none => exact absurd z (I.inn k (pO.mem_iff.mpr (List.mem_range.mpr hk')) hk')
    | some r => exact ⟨r, rfl, I.lt k r hk' z⟩
  have pe : (List.range L.length).map (fun k => hD (seat k)) = plD L.length (fun k => (((seat k).getD 0 : Nat) : Int)) := map_n fun k hk' => by
    obtain ⟨r, z, _⟩ := all k hk'
    show hD (seat k) = PyData.int (((seat k).getD 0 : Nat) : Int)
    rw [z]; rfl
  refine ⟨fun k => (((seat k).getD 0 : Nat) : Int), ?_, fun k l h1 h2 ne a b z => ?_, fun k h => ?_, fun k r h z => ?_⟩
  · have fl : flats ((List.range L.length).map fun k => hD (seat k)) = true := flats_all _ (fun k => by cases seat k <;> rfl) _
    unfold F__law_plan
    simp only [EV, reduceIte, Nat.reduceAdd, Nat.reduceLT, Nat.reduceLeDiff, Nat.reduceEqDiff, Int.reduceEq, Int.reduceLT, Int.reduceLE, lL', C0, lL, rg, lr, C1, eO]
    rw [e]
    simp only [EV, reduceIte, Nat.reduceAdd, Nat.reduceLT, Nat.reduceLeDiff, Nat.reduceEqDiff, Int.reduceEq, Int.reduceLT, Int.reduceLE, f1_lst, fl]
    rw [pe]
  · obtain ⟨r, z1, _⟩ := all k h1
    obtain ⟨r', z2, _⟩ := all l h2
    have z : (((seat k).getD 0 : Nat) : Int) = (((seat l).getD 0 : Nat) : Int) := z
    rw [z1, z2] at z
    have : r = r' := by
      have z : (r : Int) = (r' : Int) := z
      omega
    subst this
    have := I.dj k l r h1 h2 ne z1 z2
    have a' : bk L k < ek L l := a
    have b' : bk L l < ek L k := b
    omega
  · obtain ⟨r, z1, z2⟩ := all k h
    show (0 : Int) ≤ (((seat k).getD 0 : Nat) : Int) ∧ (((seat k).getD 0 : Nat) : Int) < M
    rw [z1]
    show (0 : Int) ≤ (r : Int) ∧ (r : Int) < M
    omega
  · show (((seat k).getD 0 : Nat) : Int) = _
    rw [I.hl k r h z]; rfl
theorem for_idx {g : FG} {b : FS} {v : D} (Inv : Nat → DS → Prop) (P : Nat → Prop) (l : List D) (δ : DS) (h0 : Inv 0 δ) (hs : ∀ i d δ, l[i]? = some d → (∀ j, j < i → P j) → Inv i δ → ∃ δ1, g d δ = some δ1 ∧ ((P i ∧ ∃ δ', b δ1 = some (.nx δ') ∧ Inv (i + 1) δ') ∨ (¬ P i ∧ b δ1 = some (.rt v)))) :
    (∃ δ', forD g b l δ = some (.nx δ') ∧ Inv l.length δ' ∧ ∀ j, j < l.length → P j) ∨ (forD g b l δ = some (.rt v) ∧ ∃ j, j < l.length ∧ ¬ P j) := by
  have key : ∀ (l : List D) (k : Nat) (δ : DS), Inv k δ → (∀ j, j < k → P j) → (∀ i d δ, l[i]? = some d → (∀ j, j < k + i → P j) → Inv (k + i) δ → ∃ δ1, g d δ = some δ1 ∧ ((P (k + i) ∧ ∃ δ', b δ1 = some (.nx δ') ∧ Inv (k + i + 1) δ') ∨ (¬ P (k + i) ∧ b δ1 = some (.rt v)))) →
      (∃ δ', forD g b l δ = some (.nx δ') ∧ Inv (k + l.length) δ' ∧ ∀ j, j < k + l.length → P j) ∨ (forD g b l δ = some (.rt v) ∧ ∃ j, j < k + l.length ∧ ¬ P j) := by
    intro l
    induction l with
    | nil => exact fun k δ h hp _ => .inl ⟨δ, rfl, h, hp⟩
    | cons d r ih =>
      intro k δ h hp hs
      obtain ⟨δ1, e1, z⟩ := hs 0 d δ rfl hp h
      rcases z with ⟨p, δ', e2, e3⟩ | ⟨p, e2⟩
      · have hp' : ∀ j, j < k + 1 → P j := fun j hj => by
          by_cases w : j < k
          · exact hp j w
          · have : j = k + 0 := by omega
            rw [this]; exact p
        have := ih (k + 1) δ' e3 hp' fun i d' δ'' hd hq hi => by
          have := hs (i + 1) d' δ'' (by simpa using hd) (by rw [show k + (i + 1) = k + 1 + i by omega]; exact hq) (by rw [show k + (i + 1) = k + 1 + i by omega]; exact hi)
          rw [show k + (i + 1) = k + 1 + i by omega] at this
          exact this
        rw [List.length_cons, show k + (r.length + 1) = k + 1 + r.length by omega, forD, e1, Option.bind_some, e2]
        exact this
      · refine .inr ⟨?_, k + 0, by rw [List.length_cons]; omega, p⟩
        rw [forD, e1, Option.bind_some, e2]
        rfl
  have := key l 0 δ h0 (fun j hj => absurd hj (Nat.not_lt_zero _)) fun i d δ hd hp hi => by
    rw [Nat.zero_add] at hp hi ⊢
    exact hs i d δ hd hp hi
  rw [Nat.zero_add] at this
  exact this
def isI : D → Bool
  | .int _ => true
  | _ => false
theorem lwh (d : D) : F__law_whole [d] = some (.bool (isI d)) := by
  unfold F__law_whole Com.F__law_whole
  cases d <;> rfl
theorem isI_int {d : D} (h : isI d = true) : ∃ v, d = .int v := by
  cases d <;> first | exact ⟨_, rfl⟩ | cases h
def Pk (L : List Ty) (M : Nat) (ds : List D) (i : Nat) : Prop := ∃ v : Int, ds[i]? = some (.int v) ∧ 0 ≤ v ∧ v < (M : Int) ∧ (∀ r, hk L i = some r → (r : Int) = v) ∧ ∀ k, k < i → ¬ (ds[k]? = ds[i]? ∧ bk L k < ek L i ∧ bk L i < ek L k)
theorem ay {L : List Ty} {k : Nat} (h : k < L.length) : pAt (L.map yD) (k : Int) = some (.tuple [.int (bk L k), .int (ek L k), hD (hk L k)]) := by rw [map_tAt, at_n _ h]; rfl
theorem rngN (n : Nat) (h : n ≤ 1000) : qRng1 (some [.int (n : Int)]) = some (rngD 0 (n : Int)) := rng1 (by omega) (by omega)
theorem isList {ds : List D} : D3.isT "list" (tyD (.list ds)) = true := rfl
theorem lenInt {α : Type} (l : List α) (f : α → D) : ((l.map f).length : Int) = (l.length : Int) := by rw [List.length_map]
theorem right_list {L : List Ty} {M : Nat} {ds : List D} (hl : L.length ≤ 24) (hd : ds.length = L.length) :
    ∃ b, F__law_right [.list ds, .list (L.map yD), .int (M : Int)] = some (.bool b) ∧ (b = true ↔ ∀ i, i < L.length → Pk L M ds i) := by
  have F := for_idx (v := .bool false) (g := (gNl 3)) (b := (sSeq (sIf (D3.tOr (D3.tNot (tBool (dCall F__law_whole (dCons (dOp gIx (dVar 0) (dVar 3)) (dNil))))) (D3.tOr (tBool (dOp gLt (dOp gIx (dVar 0) (dVar 3)) (dC (.int 0)))) (tBool (dOp gGe (dOp gIx (dVar 0) (dVar 3)) (dVar 2))))) (sRet (dC (.bool false))) (sNil)) (sSeq (sIf (D3.tAnd (tBool (dUn gNotN (dOp gIx (dOp gIx (dVar 1) (dVar 3)) (dC (.int 2))))) (tBool (dOp gNe (dOp gIx (dOp gIx (dVar 1) (dVar 3)) (dC (.int 2))) (dOp gIx (dVar 0) (dVar 3))))) (sRet (dC (.bool false))) (sNil)) (sFor (fRng1 (dCons (dVar 3) (dNil))) (gNl 4) (sIf (D3.tAnd (tBool (dOp gEq (dOp gIx (dVar 0) (dVar 4)) (dOp gIx (dVar 0) (dVar 3)))) (D3.tAnd (tBool (dOp gLt (dOp gIx (dOp gIx (dVar 1) (dVar 4)) (dC (.int 0))) (dOp gIx (dOp gIx (dVar 1) (dVar 3)) (dC (.int 1))))) (tBool (dOp gLt (dOp gIx (dOp gIx (dVar 1) (dVar 3)) (dC (.int 0))) (dOp gIx (dOp gIx (dVar 1) (dVar 4)) (dC (.int 1))))))) (sRet (dC (.bool false))) (sNil))))))
    (fun _ δ => ∃ x y, δ = [some (.d (.list ds)), some (.d (.list (L.map yD))), some (.d (.int (M : Int))), x, y]) (Pk L M ds) (rngD 0 (L.length : Int))
    [some (.d (.list ds)), some (.d (.list (L.map yD))), some (.d (.int (M : Int))), none, none] ⟨none, none, rfl⟩ (by
      rintro i d δ hd' hp ⟨x, y, rfl⟩
      obtain ⟨hi, rfl⟩ := rng_at hd'
      have hi : i < L.length := by omega
      refine ⟨[some (.d (.list ds)), some (.d (.list (L.map yD))), some (.d (.int (M : Int))), some (.d (.int (i : Int))), y], rfl, ?_⟩
      cases hdi : ds[i]? with
      | none => rw [List.getElem?_eq_none_iff] at hdi; omega
      | some e =>
        have a0 : pAt ds (i : Int) = some e := by rw [pAt_nat]; exact hdi
        have a1 := ay hi
        cases hI : isI e with
        | false =>
          refine .inr ⟨fun ⟨v, z, _⟩ => ?_, ?_⟩
          · rw [hdi] at z; cases z; cases hI
          · simp only [EV, reduceIte, Nat.reduceAdd, Nat.reduceLT, Nat.reduceLeDiff, Nat.reduceEqDiff, Int.reduceEq, Int.reduceLT, Int.reduceLE, a0, lwh, hI]
        | true =>
          obtain ⟨v, rfl⟩ := isI_int hI
          by_cases c1 : v < 0
          · refine .inr ⟨fun ⟨w, z, z2, _⟩ => ?_, ?_⟩
            · rw [hdi] at z; cases z; omega
            · simp only [EV, reduceIte, Nat.reduceAdd, Nat.reduceLT, Nat.reduceLeDiff, Nat.reduceEqDiff, Int.reduceEq, Int.reduceLT, Int.reduceLE, a0, lwh, hI, decide_eq_true c1]
          · by_cases c2 : (M : Int) ≤ v
            · refine .inr ⟨fun ⟨w, z, _, z2, _⟩ => ?_, ?_⟩
              · rw [hdi] at z; cases z; omega
              · simp only [EV, reduceIte, Nat.reduceAdd, Nat.reduceLT, Nat.reduceLeDiff, Nat.reduceEqDiff, Int.reduceEq, Int.reduceLT, Int.reduceLE, a0, lwh, hI, decide_eq_false c1, decide_eq_true c2]
            · have inner := for_idx (v := .bool false) (g := (gNl 4)) (b := (sIf (D3.tAnd (tBool (dOp gEq (dOp gIx (dVar 0) (dVar 4)) (dOp gIx (dVar 0) (dVar 3)))) (D3.tAnd (tBool (dOp gLt (dOp gIx (dOp gIx (dVar 1) (dVar 4)) (dC (.int 0))) (dOp gIx (dOp gIx (dVar 1) (dVar 3)) (dC (.int 1))))) (tBool (dOp gLt (dOp gIx (dOp gIx (dVar 1) (dVar 3)) (dC (.int 0))) (dOp gIx (dOp gIx (dVar 1) (dVar 4)) (dC (.int 1))))))) (sRet (dC (.bool false))) (sNil)))
                (fun _ δ => ∃ y, δ = [some (.d (.list ds)), some (.d (.list (L.map yD))), some (.d (.int (M : Int))), some (.d (.int (i : Int))), y]) (fun k => ¬ (ds[k]? = ds[i]? ∧ bk L k < ek L i ∧ bk L i < ek L k)) (rngD 0 (i : Int))
                [some (.d (.list ds)), some (.d (.list (L.map yD))), some (.d (.int (M : Int))), some (.d (.int (i : Int))), y] ⟨y, rfl⟩ (by
                  rintro k d δ hd'' _ ⟨y, rfl⟩
                  obtain ⟨hk', rfl⟩ := rng_at hd''
                  have hk' : k < i := by omega
                  obtain ⟨w, hw, _⟩ := hp k hk'
                  have b0 : pAt ds (k : Int) = some (.int w) := by rw [pAt_nat]; exact hw
                  have b1 := ay (L := L) (k := k) (by omega)
                  refine ⟨[some (.d (.list ds)), some (.d (.list (L.map yD))), some (.d (.int (M : Int))), some (.d (.int (i : Int))), some (.d (.int (k : Int)))], rfl, ?_⟩
                  rw [hw, hdi]
                  by_cases d1 : w = v
                  · by_cases d2 : bk L k < ek L i
                    · by_cases d3 : bk L i < ek L k
                      · refine .inr ⟨fun z => z ⟨by rw [d1], d2, d3⟩, ?_⟩
                        simp only [EV, reduceIte, Nat.reduceAdd, Nat.reduceLT, Nat.reduceLeDiff, Nat.reduceEqDiff, Int.reduceEq, Int.reduceLT, Int.reduceLE, a0, b0, a1, b1, decide_eq_true d1, at0, at1, decide_eq_true d2, decide_eq_true d3]
                      · refine .inl ⟨fun z => d3 z.2.2, [some (.d (.list ds)), some (.d (.list (L.map yD))), some (.d (.int (M : Int))), some (.d (.int (i : Int))), some (.d (.int (k : Int)))], ?_, _, rfl⟩
                        simp only [EV, reduceIte, Nat.reduceAdd, Nat.reduceLT, Nat.reduceLeDiff, Nat.reduceEqDiff, Int.reduceEq, Int.reduceLT, Int.reduceLE, a0, b0, a1, b1, decide_eq_true d1, at0, at1, decide_eq_true d2, decide_eq_false d3]
                    · refine .inl ⟨fun z => d2 z.2.1, [some (.d (.list ds)), some (.d (.list (L.map yD))), some (.d (.int (M : Int))), some (.d (.int (i : Int))), some (.d (.int (k : Int)))], ?_, _, rfl⟩
                      simp only [EV, reduceIte, Nat.reduceAdd, Nat.reduceLT, Nat.reduceLeDiff, Nat.reduceEqDiff, Int.reduceEq, Int.reduceLT, Int.reduceLE, a0, b0, a1, b1, decide_eq_true d1, at0, at1, decide_eq_false d2]
                  · refine .inl ⟨fun z => d1 (by have := z.1; injection this with this; injection this), [some (.d (.list ds)), some (.d (.list (L.map yD))), some (.d (.int (M : Int))), some (.d (.int (i : Int))), some (.d (.int (k : Int)))], ?_, _, rfl⟩
                    simp only [EV, reduceIte, Nat.reduceAdd, Nat.reduceLT, Nat.reduceLeDiff, Nat.reduceEqDiff, Int.reduceEq, Int.reduceLT, Int.reduceLE, a0, b0, decide_eq_false d1])
              have ri := rngN i (by omega)
              rw [rng_len, Int.toNat_natCast] at inner
              have fin : (hk L i = none ∨ ∃ r : Nat, hk L i = some r ∧ (r : Int) = v) → (Pk L M ds i ∧ ∃ δ', (sSeq (sIf (D3.tOr (D3.tNot (tBool (dCall F__law_whole (dCons (dOp gIx (dVar 0) (dVar 3)) (dNil))))) (D3.tOr (tBool (dOp gLt (dOp gIx (dVar 0) (dVar 3)) (dC (.int 0)))) (tBool (dOp gGe (dOp gIx (dVar 0) (dVar 3)) (dVar 2))))) (sRet (dC (.bool false))) (sNil)) (sSeq (sIf (D3.tAnd (tBool (dUn gNotN (dOp gIx (dOp gIx (dVar 1) (dVar 3)) (dC (.int 2))))) (tBool (dOp gNe (dOp gIx (dOp gIx (dVar 1) (dVar 3)) (dC (.int 2))) (dOp gIx (dVar 0) (dVar 3))))) (sRet (dC (.bool false))) (sNil)) (sFor (fRng1 (dCons (dVar 3) (dNil))) (gNl 4) (sIf (D3.tAnd (tBool (dOp gEq (dOp gIx (dVar 0) (dVar 4)) (dOp gIx (dVar 0) (dVar 3)))) (D3.tAnd (tBool (dOp gLt (dOp gIx (dOp gIx (dVar 1) (dVar 4)) (dC (.int 0))) (dOp gIx (dOp gIx (dVar 1) (dVar 3)) (dC (.int 1))))) (tBool (dOp gLt (dOp gIx (dOp gIx (dVar 1) (dVar 3)) (dC (.int 0))) (dOp gIx (dOp gIx (dVar 1) (dVar 4)) (dC (.int 1))))))) (sRet (dC (.bool false))) (sNil))))) [some (.d (.list ds)), some (.d (.list (L.map yD))), some (.d (.int (M : Int))), some (.d (.int (i : Int))), y] = some (.nx δ') ∧ ∃ x y, δ' = [some (.d (.list ds)), some (.d (.list (L.map yD))), some (.d (.int (M : Int))), x, y]) ∨ (¬ Pk L M ds i ∧ (sSeq (sIf (D3.tOr (D3.tNot (tBool (dCall F__law_whole (dCons (dOp gIx (dVar 0) (dVar 3)) (dNil))))) (D3.tOr (tBool (dOp gLt (dOp gIx (dVar 0) (dVar 3)) (dC (.int 0)))) (tBool (dOp gGe (dOp gIx (dVar 0) (dVar 3)) (dVar 2))))) (sRet (dC (.bool false))) (sNil)) (sSeq (sIf (D3.tAnd (tBool (dUn gNotN (dOp gIx (dOp gIx (dVar 1) (dVar 3)) (dC (.int 2))))) (tBool (dOp gNe (dOp gIx (dOp gIx (dVar 1) (dVar 3)) (dC (.int 2))) (dOp gIx (dVar 0) (dVar 3))))) (sRet (dC (.bool false))) (sNil)) (sFor (fRng1 (dCons (dVar 3) (dNil))) (gNl 4) (sIf (D3.tAnd (tBool (dOp gEq (dOp gIx (dVar 0) (dVar 4)) (dOp gIx (dVar 0) (dVar 3)))) (D3.tAnd (tBool (dOp gLt (dOp gIx (dOp gIx (dVar 1) (dVar 4)) (dC (.int 0))) (dOp gIx (dOp gIx (dVar 1) (dVar 3)) (dC (.int 1))))) (tBool (dOp gLt (dOp gIx (dOp gIx (dVar 1) (dVar 3)) (dC (.int 0))) (dOp gIx (dOp gIx (dVar 1) (dVar 4)) (dC (.int 1))))))) (sRet (dC (.bool false))) (sNil))))) [some (.d (.list ds)), some (.d (.list (L.map yD))), some (.d (.int (M : Int))), some (.d (.int (i : Int))), y] = some (.rt (.bool false))) := fun hh => by
                rcases inner with ⟨δ', e1, ⟨y', rfl⟩, e3⟩ | ⟨e1, k, k1, k2⟩
                · refine .inl ⟨⟨v, hdi, by omega, by omega, fun r hr => ?_, e3⟩, [some (.d (.list ds)), some (.d (.list (L.map yD))), some (.d (.int (M : Int))), some (.d (.int (i : Int))), y'], ?_, _, _, rfl⟩
                  · rcases hh with z | ⟨r', z, z2⟩
                    · rw [z] at hr; cases hr
                    · rw [z] at hr; cases hr; exact z2
                  · rcases hh with z | ⟨r', z, z2⟩
                    · have nn : isNone (hD none) = true := rfl
                      rw [z] at a1
                      simp only [EV, reduceIte, Nat.reduceAdd, Nat.reduceLT, Nat.reduceLeDiff, Nat.reduceEqDiff, Int.reduceEq, Int.reduceLT, Int.reduceLE, a0, lwh, hI, decide_eq_false c1, decide_eq_false c2, a1, at2, nn, ri]
                      exact e1
                    · have nn : isNone (hD (some r')) = false := rfl
                      rw [z] at a1
                      have ne : gNe (hD (some r')) (.int v) = some (.bool false) := by
                        show gNe (.int (r' : Int)) (.int v) = _
                        rw [n_neI, decide_eq_true z2]; rfl
                      simp only [EV, reduceIte, Nat.reduceAdd, Nat.reduceLT, Nat.reduceLeDiff, Nat.reduceEqDiff, Int.reduceEq, Int.reduceLT, Int.reduceLE, a0, lwh, hI, decide_eq_false c1, decide_eq_false c2, a1, at2, nn, ne, ri]
                      exact e1
                · refine .inr ⟨fun ⟨_, _, _, _, _, z⟩ => k2 (z k k1), ?_⟩
                  rcases hh with z | ⟨r', z, z2⟩
                  · have nn : isNone (hD none) = true := rfl
                    rw [z] at a1
                    simp only [EV, reduceIte, Nat.reduceAdd, Nat.reduceLT, Nat.reduceLeDiff, Nat.reduceEqDiff, Int.reduceEq, Int.reduceLT, Int.reduceLE, a0, lwh, hI, decide_eq_false c1, decide_eq_false c2, a1, at2, nn, ri]
                    exact e1
                  · have nn : isNone (hD (some r')) = false := rfl
                    rw [z] at a1
                    have ne : gNe (hD (some r')) (.int v) = some (.bool false) := by
                      show gNe (.int (r' : Int)) (.int v) = _
                      rw [n_neI, decide_eq_true z2]; rfl
                    simp only [EV, reduceIte, Nat.reduceAdd, Nat.reduceLT, Nat.reduceLeDiff, Nat.reduceEqDiff, Int.reduceEq, Int.reduceLT, Int.reduceLE, a0, lwh, hI, decide_eq_false c1, decide_eq_false c2, a1, at2, nn, ne, ri]
                    exact e1
              cases hh : hk L i with
              | none => exact fin (.inl hh)
              | some r =>
                by_cases c3 : (r : Int) = v
                · exact fin (.inr ⟨r, hh, c3⟩)
                · refine .inr ⟨fun ⟨w, z, _, _, z2, _⟩ => ?_, ?_⟩
                  · rw [hdi] at z; cases z; exact c3 (z2 r hh)
                  · have nn : isNone (hD (some r)) = false := rfl
                    rw [hh] at a1
                    have ne : gNe (hD (some r)) (.int v) = some (.bool true) := by
                      show gNe (.int (r : Int)) (.int v) = _
                      rw [n_neI, decide_eq_false c3]; rfl
                    simp only [EV, reduceIte, Nat.reduceAdd, Nat.reduceLT, Nat.reduceLeDiff, Nat.reduceEqDiff, Int.reduceEq, Int.reduceLT, Int.reduceLE, a0, lwh, hI, decide_eq_false c1, decide_eq_false c2, a1, at2, nn, ne])
  have r0 := rngN L.length (by omega)
  rw [rng_len, Int.toNat_natCast] at F
  have eL : gNe (.int (ds.length : Int)) (.int (L.length : Int)) = some (.bool false) := by rw [n_neI, hd]; simp
  rcases F with ⟨δ', e, ⟨x, y, rfl⟩, al⟩ | ⟨e, j, j1, j2⟩
  · refine ⟨true, ?_, ⟨fun _ => al, fun _ => rfl⟩⟩
    unfold F__law_right
    simp only [EV, reduceIte, Nat.reduceAdd, Nat.reduceLT, Nat.reduceLeDiff, Nat.reduceEqDiff, Int.reduceEq, Int.reduceLT, Int.reduceLE, isList, lenInt, eL, r0]
    rw [e]
    simp only [EV, reduceIte, Nat.reduceAdd, Nat.reduceLT, Nat.reduceLeDiff, Nat.reduceEqDiff, Int.reduceEq, Int.reduceLT, Int.reduceLE]
  · refine ⟨false, ?_, ⟨fun z => (by cases z), fun z => absurd (z j j1) j2⟩⟩
    unfold F__law_right
    simp only [EV, reduceIte, Nat.reduceAdd, Nat.reduceLT, Nat.reduceLeDiff, Nat.reduceEqDiff, Int.reduceEq, Int.reduceLT, Int.reduceLE, isList, lenInt, eL, r0]
    rw [e]
    simp only [EV, reduceIte, Nat.reduceAdd, Nat.reduceLT, Nat.reduceLeDiff, Nat.reduceEqDiff, Int.reduceEq, Int.reduceLT, Int.reduceLE]
theorem allB {α : Type} (f : α → Bool) (l : List α) : gAll [.list (l.map fun a => PyData.bool (f a))] = some (.bool (l.all f)) := by
  have : boolsD (l.map fun a => PyData.bool (f a)) = some (l.map f) := by
    induction l with
    | nil => rfl
    | cons a r ih => rw [List.map_cons, boolsD, ih]; rfl
  show (boolsD (l.map fun a => PyData.bool (f a))).map _ = _
  rw [this, Option.map_some, List.all_map]
  rfl
section
variable {f g : FX} {c : FT} {δ δ' : DS} {cn : Str} {d r : D} {o : Oc} {p q j : Nat} {b : FX} {ds dd : List D} {F : List D → Option Or} {fa : FA} {cs : List Str} {fS : Str → D → DS → Option D}
theorem xs_nx (h : f δ = some (.o (.nx δ'))) : xSeq f g δ = g δ' := by unfold xSeq; rw [h]; rfl
theorem xs_ex (h : f δ = some (.ex cn d)) : xSeq f g δ = some (.ex cn d) := by unfold xSeq; rw [h]; rfl
theorem xi_t (h : c δ = some true) : xIf c f g δ = f δ := by unfold xIf; rw [h]; rfl
theorem xi_f (h : c δ = some false) : xIf c f g δ = g δ := by unfold xIf; rw [h]; rfl
theorem fx_ex (hl : ds.length = p) (e : b (ds.map (fun d => some (.d d)) ++ List.replicate q none) = some (.ex cn d)) : fnX p q b ds = some (.ex cn d) := by unfold fnX; rw [if_pos hl, e]
theorem fx_rt (hl : ds.length = p) (e : b (ds.map (fun d => some (.d d)) ++ List.replicate q none) = some (.o (.rt d))) : fnX p q b ds = some (.o (.rt d)) := by unfold fnX; rw [if_pos hl, e]
theorem fx_nx (hl : ds.length = p) (e : b (ds.map (fun d => some (.d d)) ++ List.replicate q none) = some (.o (.nx δ'))) : fnX p q b ds = some (.o (.rt .none)) := by unfold fnX; rw [if_pos hl, e]
theorem xc_ex (hf : fa δ = some ds) (e : F (ds ++ dd) = some (.ex cn d)) : xCall F dd fa δ = some (.ex cn d) := by unfold xCall; rw [hf, Option.bind_some, e]
theorem xc_nx (hf : fa δ = some ds) (e : F (ds ++ dd) = some (.o (.rt d))) : xCall F dd fa δ = some (.o (.nx δ)) := by unfold xCall; rw [hf, Option.bind_some, e]
theorem tA_ok (hf : fa δ = some ds) (e : F (ds ++ dd) = some (.o (.rt d))) (hd : fl1 d = true) (hj : j < δ.length) : sTryA j F cs dd fa fS δ = some (.nx (δ.set j (some (.d d)))) := by
  unfold sTryA
  rw [hf, Option.bind_some, e]
  exact if_pos ⟨hd, hj⟩
theorem tA_ex (hf : fa δ = some ds) (e : F (ds ++ dd) = some (.ex cn d)) (hc : cn ∈ cs) (hs : fS cn d δ = some r) : sTryA j F cs dd fa fS δ = some (.rt r) := by
  unfold sTryA
  rw [hf, Option.bind_some, e]
  show (if cn ∈ cs then _ else none) = _
  rw [if_pos hc, hs]
  rfl
end
theorem xfor_idx {g : FG} {b : FX} {cn : Str} {v : D} (Inv : DS → Prop) (P : Nat → Prop) : ∀ (l : List D) (k : Nat) (δ : DS), Inv δ → (∀ i d δ, l[i]? = some d → Inv δ → ∃ δ1, g d δ = some δ1 ∧ ((P (k + i) ∧ b δ1 = some (.ex cn v)) ∨ (¬ P (k + i) ∧ ∃ δ', b δ1 = some (.o (.nx δ')) ∧ Inv δ'))) →
    ((∃ i, i < l.length ∧ P (k + i)) ∧ xForD g b l δ = some (.ex cn v)) ∨ ((∀ i, i < l.length → ¬ P (k + i)) ∧ ∃ δ', xForD g b l δ = some (.o (.nx δ')) ∧ Inv δ')
  | [], k, δ, h, _ => .inr ⟨fun i hi => absurd hi (Nat.not_lt_zero _), δ, rfl, h⟩
  | d :: r, k, δ, h, hs => by
    obtain ⟨δ1, e1, z⟩ := hs 0 d δ rfl h
    rcases z with ⟨p, e2⟩ | ⟨p, δ', e2, h'⟩
    · refine .inl ⟨⟨0, by simp, p⟩, ?_⟩
      rw [xForD, e1, Option.bind_some, e2]; rfl
    · have e : xForD g b (d :: r) δ = xForD g b r δ' := by rw [xForD, e1, Option.bind_some, e2]; rfl
      rw [e]
      have ih := xfor_idx (cn := cn) (v := v) (b := b) Inv P r (k + 1) δ' h' fun i d' δ'' hd hi => by
        have := hs (i + 1) d' δ'' (by simpa using hd) hi
        rw [show k + (i + 1) = k + 1 + i by omega] at this
        exact this
      rcases ih with ⟨⟨i, hi, pi⟩, e3⟩ | ⟨np, δ'', e3, h3⟩
      · exact .inl ⟨⟨i + 1, by simpa using hi, by rw [show k + (i + 1) = k + 1 + i by omega]; exact pi⟩, e3⟩
      · refine .inr ⟨fun i hi => ?_, δ'', e3, h3⟩
        cases i with
        | zero => exact p
        | succ i => rw [show k + (i + 1) = k + 1 + i by omega]; exact np i (by simpa using hi)
def Bad (L : List Ty) (h : Nat → Int) (t a b : Int) (k : Nat) : Prop := (h k = a ∨ h k = b) ∧ hB (tAt L k) t = true
def Ref (L : List Ty) (h : Nat → Int) (now t a b : Int) : Prop := t < now ∨ a = b ∨ ∃ k, k < L.length ∧ Bad L h t a b k
section
variable {L : List Ty} {now t a b : Int} {h : Nat → Int}
theorem x_check : (Ref L h now t a b ∧ X_check_exchange [.list (L.map yD), .list (plD L.length h), .int now, .int t, .int a, .int b] = some (.ex "NoExchange" (.int t))) ∨
    (¬ Ref L h now t a b ∧ X_check_exchange [.list (L.map yD), .list (plD L.length h), .int now, .int t, .int a, .int b] = some (.o (.rt .none))) := by
  by_cases h1 : t < now ∨ a = b
  · refine .inl ⟨h1.imp (fun z => z) .inl, ?_⟩
    unfold X_check_exchange
    refine fx_ex rfl (xs_ex ((xi_t ?_).trans rfl))
    show D3.tOr _ _ [some (.d (.list (L.map yD))), some (.d (.list (plD L.length h))), some (.d (.int now)), some (.d (.int t)), some (.d (.int a)), some (.d (.int b)), none, none] = _
    by_cases c : t < now
    · simp only [EV, reduceIte, Nat.reduceAdd, Nat.reduceLT, Nat.reduceLeDiff, Nat.reduceEqDiff, Int.reduceEq, Int.reduceLT, Int.reduceLE, decide_eq_true c]
    · simp only [EV, reduceIte, Nat.reduceAdd, Nat.reduceLT, Nat.reduceLeDiff, Nat.reduceEqDiff, Int.reduceEq, Int.reduceLT, Int.reduceLE, decide_eq_false c, decide_eq_true (h1.resolve_left c)]
  · have c1 : decide (t < now) = false := decide_eq_false fun z => h1 (.inl z)
    have c2 : decide (a = b) = false := decide_eq_false fun z => h1 (.inr z)
    have zl : (zipD (L.map yD) (plD L.length h)).length = L.length := by
      rw [map_tAt, show plD L.length h = (List.range L.length).map fun k => PyData.int (h k) from rfl, zip_n, List.length_map, List.length_range]
    have F := xfor_idx (g := (gTn 2 (gsCons (gNl 6) (gsCons (gNl 7) (gsNil))))) (b := (xIf (D3.tAnd (D3.tOr (tBool (dOp gEq (dVar 7) (dVar 4))) (tBool (dOp gEq (dVar 7) (dVar 5)))) (tBool (dCall F_hinders (dCons (dVar 6) (dCons (dVar 3) (dNil)))))) (xRaise "NoExchange" (dVar 3)) (xOf (sNil)))) (cn := "NoExchange") (v := .int t)
      (fun δ => ∃ u v : Option U, δ = [some (.d (.list (L.map yD))), some (.d (.list (plD L.length h))), some (.d (.int now)), some (.d (.int t)), some (.d (.int a)), some (.d (.int b)), u, v]) (Bad L h t a b) (zipD (L.map yD) (plD L.length h)) 0
      [some (.d (.list (L.map yD))), some (.d (.list (plD L.length h))), some (.d (.int now)), some (.d (.int t)), some (.d (.int a)), some (.d (.int b)), none, none] ⟨none, none, rfl⟩ (by
        rintro i d δ hd ⟨u, v, rfl⟩
        have hi : i < L.length := by
          rw [← zl]
          exact (List.getElem?_eq_some_iff.mp hd).1
        rw [map_tAt, show plD L.length h = (List.range L.length).map fun k => PyData.int (h k) from rfl, zip_n, List.getElem?_map, List.getElem?_range hi] at hd
        cases hd
        rw [Nat.zero_add]
        have hs := hinders_spec (tAt L i) t
        refine ⟨[some (.d (.list (L.map yD))), some (.d (.list (plD L.length h))), some (.d (.int now)), some (.d (.int t)), some (.d (.int a)), some (.d (.int b)), some (.d (yD (tAt L i))), some (.d (.int (h i)))], rfl, ?_⟩
        by_cases c : h i = a ∨ h i = b
        · cases z : hB (tAt L i) t with
          | false =>
            rw [z] at hs
            refine .inr ⟨(fun w => by rw [w.2] at z; cases z), [some (.d (.list (L.map yD))), some (.d (.list (plD L.length h))), some (.d (.int now)), some (.d (.int t)), some (.d (.int a)), some (.d (.int b)), some (.d (yD (tAt L i))), some (.d (.int (h i)))], (xi_f ?_).trans rfl, _, _, rfl⟩
            by_cases c1 : h i = a
            · simp only [EV, reduceIte, Nat.reduceAdd, Nat.reduceLT, Nat.reduceLeDiff, Nat.reduceEqDiff, Int.reduceEq, Int.reduceLT, Int.reduceLE, decide_eq_true c1, hs]
            · simp only [EV, reduceIte, Nat.reduceAdd, Nat.reduceLT, Nat.reduceLeDiff, Nat.reduceEqDiff, Int.reduceEq, Int.reduceLT, Int.reduceLE, decide_eq_false c1, decide_eq_true (c.resolve_left c1), hs]
          | true =>
            rw [z] at hs
            refine .inl ⟨⟨c, z⟩, (xi_t ?_).trans rfl⟩
            by_cases c1 : h i = a
            · simp only [EV, reduceIte, Nat.reduceAdd, Nat.reduceLT, Nat.reduceLeDiff, Nat.reduceEqDiff, Int.reduceEq, Int.reduceLT, Int.reduceLE, decide_eq_true c1, hs]
            · simp only [EV, reduceIte, Nat.reduceAdd, Nat.reduceLT, Nat.reduceLeDiff, Nat.reduceEqDiff, Int.reduceEq, Int.reduceLT, Int.reduceLE, decide_eq_false c1, decide_eq_true (c.resolve_left c1), hs]
        · refine .inr ⟨fun w => c w.1, [some (.d (.list (L.map yD))), some (.d (.list (plD L.length h))), some (.d (.int now)), some (.d (.int t)), some (.d (.int a)), some (.d (.int b)), some (.d (yD (tAt L i))), some (.d (.int (h i)))], (xi_f ?_).trans rfl, _, _, rfl⟩
          simp only [EV, reduceIte, Nat.reduceAdd, Nat.reduceLT, Nat.reduceLeDiff, Nat.reduceEqDiff, Int.reduceEq, Int.reduceLT, Int.reduceLE, decide_eq_false fun z => c (.inl z), decide_eq_false fun z => c (.inr z)])
    rw [zl] at F
    have hz : fZip (dVar 0) (dVar 1) [some (.d (.list (L.map yD))), some (.d (.list (plD L.length h))), some (.d (.int now)), some (.d (.int t)), some (.d (.int a)), some (.d (.int b)), none, none] = some (zipD (L.map yD) (plD L.length h)) := by simp only [EV, reduceIte, Nat.reduceAdd, Nat.reduceLT, Nat.reduceLeDiff, Nat.reduceEqDiff, Int.reduceEq, Int.reduceLT, Int.reduceLE]
    have first : ∀ g, xSeq (xIf (D3.tOr (tBool (dOp gLt (dVar 3) (dVar 2))) (tBool (dOp gEq (dVar 4) (dVar 5)))) (xRaise "NoExchange" (dVar 3)) (xOf (sNil))) g [some (.d (.list (L.map yD))), some (.d (.list (plD L.length h))), some (.d (.int now)), some (.d (.int t)), some (.d (.int a)), some (.d (.int b)), none, none] = g [some (.d (.list (L.map yD))), some (.d (.list (plD L.length h))), some (.d (.int now)), some (.d (.int t)), some (.d (.int a)), some (.d (.int b)), none, none] := fun g => xs_nx ((xi_f (by simp only [EV, reduceIte, Nat.reduceAdd, Nat.reduceLT, Nat.reduceLeDiff, Nat.reduceEqDiff, Int.reduceEq, Int.reduceLT, Int.reduceLE, c1, c2])).trans rfl)
    rcases F with ⟨⟨i, hi, p⟩, e⟩ | ⟨np, δ', e, u, v, rfl⟩
    · rw [Nat.zero_add] at p
      refine .inl ⟨.inr (.inr ⟨i, hi, p⟩), ?_⟩
      unfold X_check_exchange
      refine fx_ex rfl ((first _).trans ?_)
      unfold xFor
      rw [hz, Option.bind_some]
      exact e
    · refine .inr ⟨fun z => ?_, ?_⟩
      · rcases z with z | z | ⟨k, hk, z⟩
        · exact h1 (.inl z)
        · exact h1 (.inr z)
        · exact np k hk (by rw [Nat.zero_add]; exact z)
      · unfold X_check_exchange
        refine fx_nx (δ' := [some (.d (.list (L.map yD))), some (.d (.list (plD L.length h))), some (.d (.int now)), some (.d (.int t)), some (.d (.int a)), some (.d (.int b)), u, v]) rfl ((first _).trans ?_)
        unfold xFor
        rw [hz, Option.bind_some]
        exact e
theorem x_exch (hl : L.length ≤ 1000) : (Ref L h now t a b ∧ X_exchanged [.list (L.map yD), .list (plD L.length h), .int now, .int t, .int a, .int b] = some (.ex "NoExchange" (.int t))) ∨
    (¬ Ref L h now t a b ∧ X_exchanged [.list (L.map yD), .list (plD L.length h), .int now, .int t, .int a, .int b] = some (.o (.rt (.list (plD L.length (Xg.swp (ssT L now) h t a b)))))) := by
  rcases x_check (L := L) (h := h) (now := now) (t := t) (a := a) (b := b) with ⟨r, e⟩ | ⟨r, e⟩
  · refine .inl ⟨r, ?_⟩
    unfold X_exchanged
    exact fx_ex rfl (xs_ex (xc_ex (ds := [.list (L.map yD), .list (plD L.length h), .int now, .int t, .int a, .int b]) rfl e))
  · refine .inr ⟨r, ?_⟩
    have C : compD (gTn 2 (gsCons (gNl 0) (gsCons (gNl 1) (gsNil)))) (D3.tYes) (dCall F_room_behind (dCons (dVar 0) (dCons (dVar 1) (dCons (dVar 2) (dCons (dVar 3) (dCons (dVar 4) (dNil))))))) (capD 2 [3, 4, 5] [some (.d (.list (L.map yD))), some (.d (.list (plD L.length h))), some (.d (.int now)), some (.d (.int t)), some (.d (.int a)), some (.d (.int b))]) (zipD (L.map yD) (plD L.length h)) = some (plD L.length (Xg.swp (ssT L now) h t a b)) := by
      rw [map_tAt, show plD L.length h = (List.range L.length).map fun k => PyData.int (h k) from rfl, zip_n]
      exact cMap (fun k => PyData.tuple [yD (tAt L k), .int (h k)]) _ (List.range L.length) fun k hk => ⟨[some (.d (yD (tAt L k))), some (.d (.int (h k))), some (.d (.int t)), some (.d (.int a)), some (.d (.int b))], rfl, rfl, by
        have := behind_spec (tAt L k) (h k) t a b
        simp only [EV, reduceIte, Nat.reduceAdd, Nat.reduceLT, Nat.reduceLeDiff, Nat.reduceEqDiff, Int.reduceEq, Int.reduceLT, Int.reduceLE, this]
        rfl⟩
    have len : (zipD (L.map yD) (plD L.length h)).length ≤ 100000 := by
      rw [map_tAt, show plD L.length h = (List.range L.length).map fun k => PyData.int (h k) from rfl, zip_n, List.length_map, List.length_range]
      omega
    unfold X_exchanged
    refine fx_rt rfl ((xs_nx (xc_nx (ds := [.list (L.map yD), .list (plD L.length h), .int now, .int t, .int a, .int b]) rfl e)).trans ?_)
    unfold xOf
    show (sRet _ [some (.d (.list (L.map yD))), some (.d (.list (plD L.length h))), some (.d (.int now)), some (.d (.int t)), some (.d (.int a)), some (.d (.int b))]).bind _ = _
    simp only [EV, reduceIte, Nat.reduceAdd, Nat.reduceLT, Nat.reduceLeDiff, Nat.reduceEqDiff, Int.reduceEq, Int.reduceLT, Int.reduceLE, len, C]
    rfl
theorem asked (hl : L.length ≤ 1000) : (Ref L h now t a b ∧ F__law_asked [.list (L.map yD), .list (plD L.length h), .int now, .tuple [.int t, .int a, .int b]] = some (.str "refused")) ∨
    (¬ Ref L h now t a b ∧ F__law_asked [.list (L.map yD), .list (plD L.length h), .int now, .tuple [.int t, .int a, .int b]] = some (.list (plD L.length (Xg.swp (ssT L now) h t a b)))) := by
  have fa : (dCons (dVar 0) (dCons (dVar 1) (dCons (dVar 2) (dCons (dOp gIx (dVar 3) (dC (.int 0))) (dCons (dOp gIx (dVar 3) (dC (.int 1))) (dCons (dOp gIx (dVar 3) (dC (.int 2))) (dNil))))))) [some (.d (.list (L.map yD))), some (.d (.list (plD L.length h))), some (.d (.int now)), some (.d (.tuple [.int t, .int a, .int b])), some (.d .none), none, none] = some [.list (L.map yD), .list (plD L.length h), .int now, .int t, .int a, .int b] := by simp only [EV, reduceIte, Nat.reduceAdd, Nat.reduceLT, Nat.reduceLeDiff, Nat.reduceEqDiff, Int.reduceEq, Int.reduceLT, Int.reduceLE, at0, at1, at2]
  rcases x_exch (L := L) (h := h) (now := now) (t := t) (a := a) (b := b) hl with ⟨r, e⟩ | ⟨r, e⟩
  · refine .inl ⟨r, ?_⟩
    have su : suR F__law_whole "odd" "refused" (dOp gIx (dVar 3) (dC (.int 0))) 5 6 "NoExchange" (.int t) [some (.d (.list (L.map yD))), some (.d (.list (plD L.length h))), some (.d (.int now)), some (.d (.tuple [.int t, .int a, .int b])), some (.d .none), none, none] = some (.str "refused") := by
      unfold suR
      rw [if_pos ⟨(show 5 < 7 by decide), (show 6 < 7 by decide)⟩]
      show ((F__law_whole [.int t]).bind _) = _
      rw [show F__law_whole [.int t] = some (.bool true) from lwh _, Option.bind_some]
      show ((dOp gIx (dVar 3) (dC (.int 0)) [some (.d (.list (L.map yD))), some (.d (.list (plD L.length h))), some (.d (.int now)), some (.d (.tuple [.int t, .int a, .int b])), some (.d .none), none, some (.d (.bool true))]).bind _) = _
      simp only [EV, reduceIte, Nat.reduceAdd, Nat.reduceLT, Nat.reduceLeDiff, Nat.reduceEqDiff, Int.reduceEq, Int.reduceLT, Int.reduceLE, at0]
      rw [Option.bind_some, n_eqI, decide_eq_true rfl]
      rfl
    have tr : (sTryA 4 X_exchanged ["NoExchange"] [] (dCons (dVar 0) (dCons (dVar 1) (dCons (dVar 2) (dCons (dOp gIx (dVar 3) (dC (.int 0))) (dCons (dOp gIx (dVar 3) (dC (.int 1))) (dCons (dOp gIx (dVar 3) (dC (.int 2))) (dNil))))))) (suR F__law_whole "odd" "refused" (dOp gIx (dVar 3) (dC (.int 0))) 5 6)) [some (.d (.list (L.map yD))), some (.d (.list (plD L.length h))), some (.d (.int now)), some (.d (.tuple [.int t, .int a, .int b])), some (.d .none), none, none] = some (.rt (.str "refused")) := tA_ex fa e (by decide) su
    unfold F__law_asked
    simp only [EV, reduceIte, Nat.reduceAdd, Nat.reduceLT, Nat.reduceLeDiff, Nat.reduceEqDiff, Int.reduceEq, Int.reduceLT, Int.reduceLE]
    rw [tr]
    simp only [EV, reduceIte, Nat.reduceAdd, Nat.reduceLT, Nat.reduceLeDiff, Nat.reduceEqDiff, Int.reduceEq, Int.reduceLT, Int.reduceLE]
  · refine .inr ⟨r, ?_⟩
    have fl : flats (plD L.length (Xg.swp (ssT L now) h t a b)) = true := flats_all _ (fun _ => rfl) _
    have tr : (sTryA 4 X_exchanged ["NoExchange"] [] (dCons (dVar 0) (dCons (dVar 1) (dCons (dVar 2) (dCons (dOp gIx (dVar 3) (dC (.int 0))) (dCons (dOp gIx (dVar 3) (dC (.int 1))) (dCons (dOp gIx (dVar 3) (dC (.int 2))) (dNil))))))) (suR F__law_whole "odd" "refused" (dOp gIx (dVar 3) (dC (.int 0))) 5 6)) [some (.d (.list (L.map yD))), some (.d (.list (plD L.length h))), some (.d (.int now)), some (.d (.tuple [.int t, .int a, .int b])), some (.d .none), none, none] = some (.nx [some (.d (.list (L.map yD))), some (.d (.list (plD L.length h))), some (.d (.int now)), some (.d (.tuple [.int t, .int a, .int b])), some (.d (.list (plD L.length (Xg.swp (ssT L now) h t a b)))), none, none]) := tA_ok fa e fl (show 4 < 7 by decide)
    unfold F__law_asked
    simp only [EV, reduceIte, Nat.reduceAdd, Nat.reduceLT, Nat.reduceLeDiff, Nat.reduceEqDiff, Int.reduceEq, Int.reduceLT, Int.reduceLE]
    rw [tr]
    simp only [EV, reduceIte, Nat.reduceAdd, Nat.reduceLT, Nat.reduceLeDiff, Nat.reduceEqDiff, Int.reduceEq, Int.reduceLT, Int.reduceLE, f1_lst, fl]
end
section
variable {L : List Ty} {now t a b : Int} {h : Nat → Int}
theorem due (hl : L.length ≤ 1000) : (Ref L h now t a b → F__law_due [.list (L.map yD), .list (plD L.length h), .int now, .tuple [.int t, .int a, .int b]] = some .none) ∧
    (¬ Ref L h now t a b → F__law_due [.list (L.map yD), .list (plD L.length h), .int now, .tuple [.int t, .int a, .int b]] = some (.list (plD L.length (Xg.swp (ssT L now) h t a b)))) := by
  by_cases h1 : t < now ∨ a = b
  · refine ⟨fun _ => ?_, fun z => absurd (h1.imp (fun z => z) .inl) z⟩
    unfold F__law_due
    by_cases c : t < now
    · simp only [EV, reduceIte, Nat.reduceAdd, Nat.reduceLT, Nat.reduceLeDiff, Nat.reduceEqDiff, Int.reduceEq, Int.reduceLT, Int.reduceLE, decide_eq_true c]
    · simp only [EV, reduceIte, Nat.reduceAdd, Nat.reduceLT, Nat.reduceLeDiff, Nat.reduceEqDiff, Int.reduceEq, Int.reduceLT, Int.reduceLE, decide_eq_false c, decide_eq_true (h1.resolve_left c)]
  have e1 : decide (t < now) = false := decide_eq_false fun z => h1 (.inl z)
  have e2 : decide (a = b) = false := decide_eq_false fun z => h1 (.inr z)
  have lL : (L.map yD).length = L.length := List.length_map _
  have lP : ∀ g, (plD L.length g).length = L.length := fun g => by unfold plD; rw [List.length_map, List.length_range]
  have rg : qRng1 (some [.int (L.length : Int)]) = some (rngD 0 (L.length : Int)) := rng1 (by omega) (by omega)
  have F := for_idx (v := .none) (g := (gNl 8)) (b := (sSeq (sAsg (dOp gIx (dVar 0) (dVar 8)) (gTn 3 (gsCons (gNl 9) (gsCons (gNl 10) (gsCons (gNl 11) (gsNil)))))) (sIf (D3.tOr (tBool (dOp gEq (dOp gIx (dVar 1) (dVar 8)) (dVar 5))) (tBool (dOp gEq (dOp gIx (dVar 1) (dVar 8)) (dVar 6)))) (sSeq (sIf (D3.tAnd (tBool (dOp gGt (dVar 10) (dVar 4))) (D3.tOr (tBool (dUn gNotN (dVar 11))) (tBool (dOp gLt (dVar 9) (dVar 4))))) (sRet (dC (.none))) (sNil)) (sIf (tBool (dOp gGe (dVar 9) (dVar 4))) (sPut 7 (dVar 8) (dOp gSub (dOp gAdd (dVar 5) (dVar 6)) (dOp gIx (dVar 1) (dVar 8)))) (sNil))) (sNil))))
    (fun i δ => ∃ (g : Nat → Int) (u8 u9 u10 u11 : Option U), (∀ k, k < i → g k = Xg.swp (ssT L now) h t a b k) ∧ (∀ k, i ≤ k → g k = h k) ∧ δ = [some (.d (.list (L.map yD))), some (.d (.list (plD L.length h))), some (.d (.int now)), some (.d (.tuple [.int t, .int a, .int b])), some (.d (.int t)), some (.d (.int a)), some (.d (.int b)), some (.d (.list (plD L.length g))), u8, u9, u10, u11]) (fun k => ¬ Bad L h t a b k) (rngD 0 (L.length : Int))
    [some (.d (.list (L.map yD))), some (.d (.list (plD L.length h))), some (.d (.int now)), some (.d (.tuple [.int t, .int a, .int b])), some (.d (.int t)), some (.d (.int a)), some (.d (.int b)), some (.d (.list (plD L.length h))), none, none, none, none] ⟨h, none, none, none, none, fun _ z => absurd z (Nat.not_lt_zero _), fun _ _ => rfl, rfl⟩ (by
      rintro i d δ hd _ ⟨g, u8, u9, u10, u11, g1, g2, rfl⟩
      obtain ⟨hi, rfl⟩ := rng_at hd
      have hi : i < L.length := by omega
      have a1 : pAt (L.map yD) (i : Int) = some (yD (tAt L i)) := by rw [map_tAt]; exact at_n _ hi
      have a2 : pAt (plD L.length h) (i : Int) = some (.int (h i)) := at_n _ hi
      have p7 := ix_n (lP g) hi
      obtain ⟨x, y, c, hz⟩ : ∃ x y c, ((x, y, c) : Ty) = tAt L i := ⟨_, _, _, rfl⟩
      have ef : (ssT L now).fst i = x := by show (tAt L i).1 = x; rw [← hz]
      have a1 : pAt (L.map yD) (i : Int) = some (.tuple [.int x, .int y, hD c]) := by rw [a1, ← hz]; rfl
      have isn := isN_hD c
      have keep : Xg.swp (ssT L now) h t a b i = h i → ∃ (g' : Nat → Int) (u8 u9 u10 u11 : Option U), (∀ k, k < i + 1 → g' k = Xg.swp (ssT L now) h t a b k) ∧ (∀ k, i + 1 ≤ k → g' k = h k) ∧ ([some (.d (.list (L.map yD))), some (.d (.list (plD L.length h))), some (.d (.int now)), some (.d (.tuple [.int t, .int a, .int b])), some (.d (.int t)), some (.d (.int a)), some (.d (.int b)), some (.d (.list (plD L.length g))), some (.d (.int (i : Int))), some (.d (.int x)), some (.d (.int y)), some (.d (hD c))] : DS) = [some (.d (.list (L.map yD))), some (.d (.list (plD L.length h))), some (.d (.int now)), some (.d (.tuple [.int t, .int a, .int b])), some (.d (.int t)), some (.d (.int a)), some (.d (.int b)), some (.d (.list (plD L.length g'))), u8, u9, u10, u11] := fun z =>
        ⟨g, _, _, _, _, fun k hk => by
          by_cases y : k = i
          · rw [y, z]; exact g2 i (Nat.le_refl _)
          · exact g1 k (by omega), fun k hk => g2 k (by omega), rfl⟩
      refine ⟨[some (.d (.list (L.map yD))), some (.d (.list (plD L.length h))), some (.d (.int now)), some (.d (.tuple [.int t, .int a, .int b])), some (.d (.int t)), some (.d (.int a)), some (.d (.int b)), some (.d (.list (plD L.length g))), some (.d (.int (i : Int))), u9, u10, u11], rfl, ?_⟩
      by_cases cc : h i = a ∨ h i = b
      · have cA : decide (h i = a) = true ∨ (decide (h i = a) = false ∧ decide (h i = b) = true) := by
          by_cases w : h i = a
          · exact .inl (decide_eq_true w)
          · exact .inr ⟨decide_eq_false w, decide_eq_true (cc.resolve_left w)⟩
        cases zb : hB (tAt L i) t with
        | true =>
          refine .inr ⟨fun z => z ⟨cc, zb⟩, ?_⟩
          rw [← hz] at zb
          unfold hB at zb
          simp only [Bool.and_eq_true, Bool.or_eq_true] at zb
          obtain ⟨z1, k1⟩ := zb
          have z1 : c.isSome = true ∨ (c.isSome = false ∧ decide (x < t) = true) := by
            cases w : c.isSome with
            | true => exact .inl rfl
            | false => rw [w] at z1; exact .inr ⟨rfl, z1.resolve_left (by decide)⟩
          rcases cA with ca | ⟨ca, cb⟩
          · rcases z1 with k2 | ⟨k2, k3⟩
            · simp only [EV, reduceIte, Nat.reduceAdd, Nat.reduceLT, Nat.reduceLeDiff, Nat.reduceEqDiff, Int.reduceEq, Int.reduceLT, Int.reduceLE, a1, a2, ca, k1, isn, k2, Option.bind_some, Bool.not_not, Bool.not_false, Bool.not_true]
            · simp only [EV, reduceIte, Nat.reduceAdd, Nat.reduceLT, Nat.reduceLeDiff, Nat.reduceEqDiff, Int.reduceEq, Int.reduceLT, Int.reduceLE, a1, a2, ca, k1, isn, k2, k3, Option.bind_some, Bool.not_not, Bool.not_false, Bool.not_true]
          · rcases z1 with k2 | ⟨k2, k3⟩
            · simp only [EV, reduceIte, Nat.reduceAdd, Nat.reduceLT, Nat.reduceLeDiff, Nat.reduceEqDiff, Int.reduceEq, Int.reduceLT, Int.reduceLE, a1, a2, ca, cb, k1, isn, k2, Option.bind_some, Bool.not_not, Bool.not_false, Bool.not_true]
            · simp only [EV, reduceIte, Nat.reduceAdd, Nat.reduceLT, Nat.reduceLeDiff, Nat.reduceEqDiff, Int.reduceEq, Int.reduceLT, Int.reduceLE, a1, a2, ca, cb, k1, isn, k2, k3, Option.bind_some, Bool.not_not, Bool.not_false, Bool.not_true]
        | false =>
          have nb : ¬ Bad L h t a b i := fun z => by rw [z.2] at zb; cases zb
          have key : decide (t < y) = false ∨ (decide (t < y) = true ∧ c.isSome = false ∧ decide (x < t) = false) := by
            rw [← hz] at zb
            unfold hB at zb
            simp only at zb
            cases z1 : decide (t < y) with
            | false => exact .inl rfl
            | true =>
              rw [z1, Bool.and_true, Bool.or_eq_false_iff] at zb
              exact .inr ⟨rfl, zb.1, zb.2⟩
          by_cases c3 : t ≤ x
          · have n1 : ¬ x < t := by omega
            have c4 : decide (t ≤ x) = true := decide_eq_true c3
            have sw : Xg.swp (ssT L now) h t a b i = a + b - h i := by
              unfold Xg.swp
              rw [ef, if_neg n1]
              rcases cc with z | z
              · rw [if_pos z]; omega
              · by_cases w : h i = a
                · rw [if_pos w]; omega
                · rw [if_neg w, if_pos z]; omega
            refine .inl ⟨nb, [some (.d (.list (L.map yD))), some (.d (.list (plD L.length h))), some (.d (.int now)), some (.d (.tuple [.int t, .int a, .int b])), some (.d (.int t)), some (.d (.int a)), some (.d (.int b)), some (.d (.list ((plD L.length g).set i (.int (a + b - h i))))), some (.d (.int (i : Int))), some (.d (.int x)), some (.d (.int y)), some (.d (hD c))], ?_, ?_⟩
            · rcases cA with ca | ⟨ca, cb⟩
              · rcases key with k1 | ⟨k1, k2, k3⟩
                · simp only [EV, reduceIte, Nat.reduceAdd, Nat.reduceLT, Nat.reduceLeDiff, Nat.reduceEqDiff, Int.reduceEq, Int.reduceLT, Int.reduceLE, a1, a2, ca, k1, c4, p7, Option.bind_some, Bool.not_not, Bool.not_false, Bool.not_true]
                · simp only [EV, reduceIte, Nat.reduceAdd, Nat.reduceLT, Nat.reduceLeDiff, Nat.reduceEqDiff, Int.reduceEq, Int.reduceLT, Int.reduceLE, a1, a2, ca, k1, isn, k2, k3, c4, p7, Option.bind_some, Bool.not_not, Bool.not_false, Bool.not_true]
              · rcases key with k1 | ⟨k1, k2, k3⟩
                · simp only [EV, reduceIte, Nat.reduceAdd, Nat.reduceLT, Nat.reduceLeDiff, Nat.reduceEqDiff, Int.reduceEq, Int.reduceLT, Int.reduceLE, a1, a2, ca, cb, k1, c4, p7, Option.bind_some, Bool.not_not, Bool.not_false, Bool.not_true]
                · simp only [EV, reduceIte, Nat.reduceAdd, Nat.reduceLT, Nat.reduceLeDiff, Nat.reduceEqDiff, Int.reduceEq, Int.reduceLT, Int.reduceLE, a1, a2, ca, cb, k1, isn, k2, k3, c4, p7, Option.bind_some, Bool.not_not, Bool.not_false, Bool.not_true]
            · refine ⟨fun k => if k = i then a + b - h i else g k, some (.d (.int (i : Int))), some (.d (.int x)), some (.d (.int y)), some (.d (hD c)), fun k hk => ?_, fun k hk => ?_, ?_⟩
              · show (if k = i then a + b - h i else g k) = _
                by_cases w : k = i
                · rw [if_pos w, w, sw]
                · rw [if_neg w]; exact g1 k (by omega)
              · show (if k = i then a + b - h i else g k) = _
                rw [if_neg (by omega)]; exact g2 k (by omega)
              · have : (plD L.length g).set i (.int (a + b - h i)) = plD L.length (fun k => if k = i then a + b - h i else g k) := by
                  unfold plD
                  rw [set_n]
                  exact map_n fun k _ => by
                    show (if k = i then PyData.int (a + b - h i) else PyData.int (g k)) = PyData.int (if k = i then a + b - h i else g k)
                    by_cases w : k = i
                    · rw [if_pos w, if_pos w]
                    · rw [if_neg w, if_neg w]
                rw [this]
          · have c4 : decide (t ≤ x) = false := decide_eq_false c3
            have sw : Xg.swp (ssT L now) h t a b i = h i := by
              unfold Xg.swp
              rw [ef, if_pos (by omega)]
            refine .inl ⟨nb, [some (.d (.list (L.map yD))), some (.d (.list (plD L.length h))), some (.d (.int now)), some (.d (.tuple [.int t, .int a, .int b])), some (.d (.int t)), some (.d (.int a)), some (.d (.int b)), some (.d (.list (plD L.length g))), some (.d (.int (i : Int))), some (.d (.int x)), some (.d (.int y)), some (.d (hD c))], ?_, keep sw⟩
            rcases cA with ca | ⟨ca, cb⟩
            · rcases key with k1 | ⟨k1, k2, k3⟩
              · simp only [EV, reduceIte, Nat.reduceAdd, Nat.reduceLT, Nat.reduceLeDiff, Nat.reduceEqDiff, Int.reduceEq, Int.reduceLT, Int.reduceLE, a1, a2, ca, k1, c4, Bool.not_not, Bool.not_false, Bool.not_true]
              · simp only [EV, reduceIte, Nat.reduceAdd, Nat.reduceLT, Nat.reduceLeDiff, Nat.reduceEqDiff, Int.reduceEq, Int.reduceLT, Int.reduceLE, a1, a2, ca, k1, isn, k2, k3, c4, Bool.not_not, Bool.not_false, Bool.not_true]
            · rcases key with k1 | ⟨k1, k2, k3⟩
              · simp only [EV, reduceIte, Nat.reduceAdd, Nat.reduceLT, Nat.reduceLeDiff, Nat.reduceEqDiff, Int.reduceEq, Int.reduceLT, Int.reduceLE, a1, a2, ca, cb, k1, c4, Bool.not_not, Bool.not_false, Bool.not_true]
              · simp only [EV, reduceIte, Nat.reduceAdd, Nat.reduceLT, Nat.reduceLeDiff, Nat.reduceEqDiff, Int.reduceEq, Int.reduceLT, Int.reduceLE, a1, a2, ca, cb, k1, isn, k2, k3, c4, Bool.not_not, Bool.not_false, Bool.not_true]
      · have ca : decide (h i = a) = false := decide_eq_false fun z => cc (.inl z)
        have cb : decide (h i = b) = false := decide_eq_false fun z => cc (.inr z)
        have sw : Xg.swp (ssT L now) h t a b i = h i := by
          unfold Xg.swp
          split
          · rfl
          · rw [if_neg fun z => cc (.inl z), if_neg fun z => cc (.inr z)]
        refine .inl ⟨fun z => cc z.1, [some (.d (.list (L.map yD))), some (.d (.list (plD L.length h))), some (.d (.int now)), some (.d (.tuple [.int t, .int a, .int b])), some (.d (.int t)), some (.d (.int a)), some (.d (.int b)), some (.d (.list (plD L.length g))), some (.d (.int (i : Int))), some (.d (.int x)), some (.d (.int y)), some (.d (hD c))], ?_, keep sw⟩
        simp only [EV, reduceIte, Nat.reduceAdd, Nat.reduceLT, Nat.reduceLeDiff, Nat.reduceEqDiff, Int.reduceEq, Int.reduceLT, Int.reduceLE, a1, a2, ca, cb])
  rw [rng_len, Int.toNat_natCast] at F
  rcases F with ⟨δ', e, ⟨g, u8, u9, u10, u11, g1, g2, rfl⟩, al⟩ | ⟨e, j, j1, j2⟩
  · refine ⟨fun z => ?_, fun _ => ?_⟩
    · rcases z with z | z | ⟨k, hk, z⟩
      · exact absurd (.inl z) h1
      · exact absurd (.inr z) h1
      · exact absurd z (al k hk)
    · have gg : plD L.length g = plD L.length (Xg.swp (ssT L now) h t a b) := map_n fun k hk => by rw [g1 k hk]
      have fl : flats (plD L.length g) = true := flats_all _ (fun _ => rfl) _
      unfold F__law_due
      simp only [EV, reduceIte, Nat.reduceAdd, Nat.reduceLT, Nat.reduceLeDiff, Nat.reduceEqDiff, Int.reduceEq, Int.reduceLT, Int.reduceLE, e1, e2, lL, rg]
      rw [e]
      simp only [EV, reduceIte, Nat.reduceAdd, Nat.reduceLT, Nat.reduceLeDiff, Nat.reduceEqDiff, Int.reduceEq, Int.reduceLT, Int.reduceLE, f1_lst, fl]
      rw [gg]
  · refine ⟨fun _ => ?_, fun z => absurd (.inr (.inr ⟨j, j1, Classical.not_not.mp j2⟩)) z⟩
    unfold F__law_due
    simp only [EV, reduceIte, Nat.reduceAdd, Nat.reduceLT, Nat.reduceLeDiff, Nat.reduceEqDiff, Int.reduceEq, Int.reduceLT, Int.reduceLE, e1, e2, lL, rg]
    rw [e]
    simp only [EV, reduceIte, Nat.reduceAdd, Nat.reduceLT, Nat.reduceLeDiff, Nat.reduceEqDiff, Int.reduceEq, Int.reduceLT, Int.reduceLE]
theorem swp_ab {k : Nat} (z : Xg.swp (ssT L now) h t a b k = a ∨ Xg.swp (ssT L now) h t a b k = b) : h k = a ∨ h k = b := by
  unfold Xg.swp at z
  by_cases c1 : (ssT L now).fst k < t
  · rw [if_pos c1] at z; exact z
  · rw [if_neg c1] at z
    by_cases c2 : h k = a
    · exact .inl c2
    · rw [if_neg c2] at z
      by_cases c3 : h k = b
      · exact .inr c3
      · rw [if_neg c3] at z; exact z
theorem swp_swp {k : Nat} : Xg.swp (ssT L now) (Xg.swp (ssT L now) h t a b) t a b k = h k := by
  by_cases c1 : (ssT L now).fst k < t
  · unfold Xg.swp
    rw [if_pos c1, if_pos c1]
  · have e : Xg.swp (ssT L now) h t a b k = if h k = a then b else if h k = b then a else h k := by unfold Xg.swp; rw [if_neg c1]
    have : Xg.swp (ssT L now) (Xg.swp (ssT L now) h t a b) t a b k = if Xg.swp (ssT L now) h t a b k = a then b else if Xg.swp (ssT L now) h t a b k = b then a else Xg.swp (ssT L now) h t a b k := by
      show (if (ssT L now).fst k < t then _ else _) = _
      rw [if_neg c1]
    rw [this, e]
    by_cases c2 : h k = a
    · rw [if_pos c2]
      by_cases c4 : b = a
      · rw [if_pos c4]; omega
      · rw [if_neg c4, if_pos rfl]; omega
    · rw [if_neg c2]
      by_cases c3 : h k = b
      · rw [if_pos c3, if_pos rfl]; omega
      · rw [if_neg c3, if_neg c2, if_neg c3]
theorem ref_swp (r : ¬ Ref L h now t a b) : ¬ Ref L (Xg.swp (ssT L now) h t a b) now t a b := fun z => by
  rcases z with z | z | ⟨k, hk, z1, z2⟩
  · exact r (.inl z)
  · exact r (.inr (.inl z))
  · exact r (.inr (.inr ⟨k, hk, swp_ab z1, z2⟩))
theorem swp_val (Vh : Xg.Valid (ssT L now) h) (nh : ∀ k, k < L.length → ¬ Bad L h t a b k) : Xg.Valid (ssT L now) (Xg.swp (ssT L now) h t a b) := by
  have nh : ∀ k, k < L.length → (h k = a ∨ h k = b) → ¬ Xg.hind (ssT L now) t k := fun k hk z w => nh k hk ⟨z, hB_hind.mpr w⟩
  have one : ∀ k l, k < L.length → l < L.length → (ssT L now).fst k < t → ¬ (ssT L now).fst l < t → (ssT L now).fst l < (ssT L now).bhd k → h k ≠ h l → Xg.swp (ssT L now) h t a b k ≠ Xg.swp (ssT L now) h t a b l := by
    intro k l hk hl a1 b1 c d
    have e1 : h k ≠ a := fun z => nh k hk (.inl z) ⟨.inr a1, by omega⟩
    have e2 : h k ≠ b := fun z => nh k hk (.inr z) ⟨.inr a1, by omega⟩
    unfold Xg.swp
    rw [if_pos a1, if_neg b1]
    by_cases z : h l = a
    · rw [if_pos z]; exact e2
    · rw [if_neg z]
      by_cases z2 : h l = b
      · rw [if_pos z2]; exact e1
      · rw [if_neg z2]; exact d
  intro k l hk hl ne a1 b1
  have d := Vh k l hk hl ne a1 b1
  by_cases c1 : (ssT L now).fst k < t
  · by_cases c2 : (ssT L now).fst l < t
    · unfold Xg.swp; rw [if_pos c1, if_pos c2]; exact d
    · exact one k l hk hl c1 c2 b1 d
  · by_cases c2 : (ssT L now).fst l < t
    · exact (one l k hl hk c2 c1 a1 d.symm).symm
    · unfold Xg.swp
      rw [if_neg c1, if_neg c2]
      by_cases z1 : h k = a
      · rw [if_pos z1]
        by_cases z2 : h l = a
        · exact absurd (z1.trans z2.symm) d
        · rw [if_neg z2]
          by_cases z3 : h l = b
          · rw [if_pos z3]
            intro z
            exact d (by rw [z1, z3, z])
          · rw [if_neg z3]; exact fun z => z3 z.symm
      · rw [if_neg z1]
        by_cases z4 : h k = b
        · rw [if_pos z4]
          by_cases z2 : h l = a
          · rw [if_pos z2]
            intro z
            exact d (by rw [z4, z2, z])
          · rw [if_neg z2]
            by_cases z3 : h l = b
            · exact absurd (z4.trans z3.symm) d
            · rw [if_neg z3]; exact fun z => z2 z.symm
        · rw [if_neg z4]
          by_cases z2 : h l = a
          · rw [if_pos z2]; exact z4
          · rw [if_neg z2]
            by_cases z3 : h l = b
            · rw [if_pos z3]; exact z1
            · rw [if_neg z3]; exact d
theorem pl_get {n : Nat} {g : Nat → Int} {k : Nat} (hk : k < n) : (plD n g)[k]? = some (.int (g k)) := by
  unfold plD
  rw [List.getElem?_map, List.getElem?_range hk]
  rfl
theorem swp_right {M : Nat} (ok : ∀ s ∈ L, s.1 < s.2.1) (Vh : Xg.Valid (ssT L now) h) (bd : ∀ k, k < L.length → 0 ≤ h k ∧ h k < (M : Int)) (hh : ∀ k r, k < L.length → hk L k = some r → h k = (r : Int)) (a0 : 0 ≤ a ∧ a < (M : Int)) (b0 : 0 ≤ b ∧ b < (M : Int)) (r : ¬ Ref L h now t a b) :
    ∀ i, i < L.length → Pk L M (plD L.length (Xg.swp (ssT L now) h t a b)) i := fun i hi => by
  have nh : ∀ k, k < L.length → ¬ Bad L h t a b k := fun k hk z => r (.inr (.inr ⟨k, hk, z⟩))
  have V := swp_val Vh nh
  have bi := bd i hi
  have bs : 0 ≤ Xg.swp (ssT L now) h t a b i ∧ Xg.swp (ssT L now) h t a b i < (M : Int) := by
    unfold Xg.swp
    split
    · exact bi
    · split
      · exact b0
      · split
        · exact a0
        · exact bi
  refine ⟨Xg.swp (ssT L now) h t a b i, pl_get hi, bs.1, bs.2, fun r' hr => ?_, fun k hk z => ?_⟩
  · have e := hh i r' hi hr
    rw [← e]
    by_cases c : (ssT L now).fst i < t
    · unfold Xg.swp; rw [if_pos c]
    · have lt : (tAt L i).1 < (tAt L i).2.1 := ok _ (tAt_mem hi)
      have c' : ¬ (tAt L i).1 < t := c
      have hb : hB (tAt L i) t = true := by
        unfold hB
        have : (tAt L i).2.2.isSome = true := by
          have hr : (tAt L i).2.2 = some r' := hr
          rw [hr]; rfl
        rw [this, decide_eq_true (show t < (tAt L i).2.1 by omega)]
        rfl
      have n1 : h i ≠ a := fun z => nh i hi ⟨.inl z, hb⟩
      have n2 : h i ≠ b := fun z => nh i hi ⟨.inr z, hb⟩
      unfold Xg.swp
      rw [if_neg c, if_neg n1, if_neg n2]
  · have hk' : k < L.length := by omega
    rw [pl_get hk', pl_get hi] at z
    refine V k i hk' hi (by omega) z.2.1 z.2.2 ?_
    have := z.1
    injection this with this
    injection this
end
theorem ly_pl {n m : Nat} (h : Nat → Int) : ly (m + 2) (.list (plD n h)) := ly_list (lys_map _ (fun _ => ly_int) _)
theorem pl_len (n : Nat) (g : Nat → Int) : (plD n g).length = n := by unfold plD; rw [List.length_map, List.length_range]
theorem told {L : List Ty} (hl : L.length ≤ 24) {M : Nat} {now t a b : Int} {h : Nat → Int} (R : a < (M : Int) → b < (M : Int) → ¬ Ref L h now t a b → ∀ i, i < L.length → Pk L M (plD L.length (Xg.swp (ssT L now) h t a b)) i) :
    F__law_told [.list (L.map yD), .list (plD L.length h), .int (M : Int), .int now, .tuple [.int t, .int a, .int b]] = some (.bool true) := by
  obtain ⟨d1, d2⟩ := due (L := L) (h := h) (now := now) (t := t) (a := a) (b := b) (by omega)
  have yl : ly 58 (.list (L.map yD)) := ly_list (n := 57) (lys_map _ (fun s => ly_yD (n := 55) s) _)
  have ne : gNe (.list [.list (L.map yD), .list (plD L.length h)]) (.list [.list (L.map yD), .list (plD L.length h)]) = some (.bool false) := ne_self (ly_le (ly_list (n := 58) (lys_cons yl (lys_cons (ly_pl (m := 56) _) lys_nil))) (by decide))
  rcases asked (L := L) (h := h) (now := now) (t := t) (a := a) (b := b) (by omega) with ⟨r, e⟩ | ⟨r, e⟩
  · have d := d1 r
    have er : gEq (.str "refused") (.str "refused") = some (.bool true) := Com.eq_self ⟨by rw [PyData.canLay0]; decide +kernel, by simp [PyData.depth]⟩
    unfold F__law_told
    simp only [EV, reduceIte, Nat.reduceAdd, Nat.reduceLT, Nat.reduceLeDiff, Nat.reduceEqDiff, Int.reduceEq, Int.reduceLT, Int.reduceLE, d, zl2, at0, at1, e, ne, er]
  · have d := d2 r
    have rr := R
    obtain ⟨g, hg⟩ : ∃ g, g = Xg.swp (ssT L now) h t a b := ⟨_, rfl⟩
    have again : F__law_asked [.list (L.map yD), .list (plD L.length g), .int now, .tuple [.int t, .int a, .int b]] = some (.list (plD L.length h)) := by
      rcases asked (L := L) (h := g) (now := now) (t := t) (a := a) (b := b) (by omega) with ⟨r2, _⟩ | ⟨_, e2⟩
      · rw [hg] at r2
        exact absurd r2 (ref_swp r)
      · rw [e2, show plD L.length (Xg.swp (ssT L now) g t a b) = plD L.length h from map_n fun k _ => by rw [hg, swp_swp]]
    have rs : a < (M : Int) → b < (M : Int) → F__law_right [.list (plD L.length g), .list (L.map yD), .int (M : Int)] = some (.bool true) := fun ha hb => by
      obtain ⟨b', q1, q2⟩ := right_list (L := L) (M := M) (ds := plD L.length g) hl (pl_len _ _)
      rw [q1, q2.mpr (by rw [hg]; exact R ha hb r)]
    rw [← hg] at d e
    have fl : flats (plD L.length g) = true := flats_all _ (fun _ => rfl) _
    have tl : D3.isT "list" (tyD (PyData.list (plD L.length g))) = true := rfl
    have lP : (plD L.length g).length ≤ 100000 := by rw [pl_len]; omega
    have C : ∀ δ0, compD (gNl 0) (D3.tYes) (dCall F__law_whole (dCons (dVar 0) (dNil))) (capD 1 [] δ0) (plD L.length g) = some ((List.range L.length).map fun k => PyData.bool ((fun _ => true) k)) := fun δ0 =>
      cMap (fun k => PyData.int (g k)) _ (List.range L.length) fun k _ => ⟨[some (.d (.int (g k)))], rfl, rfl, by
        have w : F__law_whole [.int (g k)] = some (.bool true) := lwh _
        simp only [EV, reduceIte, Nat.reduceAdd, Nat.reduceLT, Nat.reduceLeDiff, Nat.reduceEqDiff, Int.reduceEq, Int.reduceLT, Int.reduceLE, w]⟩
    have ga : gAll [.list ((List.range L.length).map fun k => PyData.bool ((fun _ => true) k))] = some (.bool true) := by
      rw [allB]
      simp
    have nq : gNe (.list (plD L.length g)) (.list (plD L.length g)) = some (.bool false) := ne_self (ly_pl (m := 58) _)
    have eo : gEq (.list (plD L.length h)) (.list (plD L.length h)) = some (.bool true) := Com.eq_self (ly_pl (m := 58) _)
    have qc : qM (fun _ => some []) 7 (some (.list (plD L.length g))) = fun δ => some (.nx (δ.set 7 (some (.d (.list []))))) := rfl
    unfold F__law_told
    by_cases ha : a < (M : Int)
    · by_cases hb : b < (M : Int)
      · have rs := rs ha hb
        simp only [EV, reduceIte, Nat.reduceAdd, Nat.reduceLT, Nat.reduceLeDiff, Nat.reduceEqDiff, Int.reduceEq, Int.reduceLT, Int.reduceLE, d, zl2, at0, at1, at2, e, f1_lst, fl, ne, tl, lP, C, ga, nq, decide_eq_true ha, decide_eq_true hb, rs, again, v_clrO, qc, eo]
      · simp only [EV, reduceIte, Nat.reduceAdd, Nat.reduceLT, Nat.reduceLeDiff, Nat.reduceEqDiff, Int.reduceEq, Int.reduceLT, Int.reduceLE, d, zl2, at0, at1, at2, e, f1_lst, fl, ne, tl, lP, C, ga, nq, decide_eq_true ha, decide_eq_false hb, again, v_clrO, qc, eo]
    · simp only [EV, reduceIte, Nat.reduceAdd, Nat.reduceLT, Nat.reduceLeDiff, Nat.reduceEqDiff, Int.reduceEq, Int.reduceLT, Int.reduceLE, d, zl2, at0, at1, at2, e, f1_lst, fl, ne, tl, lP, C, ga, nq, decide_eq_false ha, again, v_clrO, qc, eo]
def farN (w r : Nat) : Nat := if w = 0 then r else if w = 1 then 100000000000000000000 + 7 * r else 3 * r + 1
theorem far_spec {w r : Nat} (hw : w < 3) : F__law_far [.int (w : Int), .int (r : Int)] = some (.int ((farN w r : Nat) : Int)) := by
  have p : gPow (.int 10) (.int 20) = some (.int 100000000000000000000) := by rfl
  have m7 : gMul (.int 7) (.int (r : Int)) = some (.int (7 * (r : Int))) := mulL (by decide) (by decide)
  have m3 : gMul (.int 3) (.int (r : Int)) = some (.int (3 * (r : Int))) := mulL (by decide) (by decide)
  have f1 : ((farN 1 r : Nat) : Int) = 100000000000000000000 + 7 * (r : Int) := by
    show ((100000000000000000000 + 7 * r : Nat) : Int) = _
    omega
  have f2 : ((farN 2 r : Nat) : Int) = 3 * (r : Int) + 1 := by
    show ((3 * r + 1 : Nat) : Int) = _
    omega
  have : w = 0 ∨ w = 1 ∨ w = 2 := by omega
  unfold F__law_far
  rcases this with rfl | rfl | rfl
  · have c : ((0 : Nat) : Int) = 0 := rfl
    simp only [EV, reduceIte, Nat.reduceAdd, Nat.reduceLT, Nat.reduceLeDiff, Nat.reduceEqDiff, Int.reduceEq, Int.reduceLT, Int.reduceLE, p, m7, m3, zl3, c, at0, fli]
    rfl
  · have c : ((1 : Nat) : Int) = 1 := rfl
    rw [f1]
    simp only [EV, reduceIte, Nat.reduceAdd, Nat.reduceLT, Nat.reduceLeDiff, Nat.reduceEqDiff, Int.reduceEq, Int.reduceLT, Int.reduceLE, p, m7, m3, zl3, c, at1, fli]
  · have c : ((2 : Nat) : Int) = 2 := rfl
    rw [f2]
    simp only [EV, reduceIte, Nat.reduceAdd, Nat.reduceLT, Nat.reduceLeDiff, Nat.reduceEqDiff, Int.reduceEq, Int.reduceLT, Int.reduceLE, p, m7, m3, zl3, c, at2, fli]
def frT (w : Nat) (s : Ty) : Ty := (s.1, s.2.1, s.2.2.map (farN w))
theorem beyond_spec {L : List Ty} {w : Nat} (hw : w < 3) (hl : L.length ≤ 24) : F__law_beyond [.list (L.map yD), .int (w : Int)] = some (.list ((L.map (frT w)).map yD)) := by
  obtain ⟨δ', e, u3, u4, u5, rfl⟩ := for_inv (g := (gTn 3 (gsCons (gNl 3) (gsCons (gNl 4) (gsCons (gNl 5) (gsNil)))))) (b := (sSeq (sIf (tBool (dUn gNotN (dVar 5))) (sSetl 5 (dCall F__law_far (dCons (dVar 1) (dCons (dVar 5) (dNil))))) (sNil)) (sApp 2 (dTup (dCons (dVar 3) (dCons (dVar 4) (dCons (dVar 5) (dNil))))))))
    (fun i δ => ∃ u3 u4 u5 : Option U, δ = [some (.d (.list (L.map yD))), some (.d (.int (w : Int))), some (.d (.list (((L.take i).map (frT w)).map yD))), u3, u4, u5]) (L.map yD)
    [some (.d (.list (L.map yD))), some (.d (.int (w : Int))), some (.d (.list [])), none, none, none] ⟨none, none, none, rfl⟩ (by
      rintro i d δ hd ⟨u3, u4, u5, rfl⟩
      rw [List.getElem?_map] at hd
      cases hi : L[i]? with
      | none => rw [hi] at hd; cases hd
      | some s =>
        rw [hi] at hd
        cases hd
        obtain ⟨x, y, c⟩ := s
        have tk : ((L.take (i + 1)).map (frT w)).map yD = ((L.take i).map (frT w)).map yD ++ [yD (frT w (x, y, c))] := by
          rw [List.take_add_one, hi]
          simp
        have lA : (((L.take i).map (frT w)).map yD).length < 1000000 := by
          rw [List.length_map, List.length_map, List.length_take]
          omega
        rw [tk]
        refine ⟨[some (.d (.list (L.map yD))), some (.d (.int (w : Int))), some (.d (.list (((L.take i).map (frT w)).map yD))), some (.d (.int x)), some (.d (.int y)), some (.d (hD c))], [some (.d (.list (L.map yD))), some (.d (.int (w : Int))), some (.d (.list (((L.take i).map (frT w)).map yD ++ [yD (frT w (x, y, c))]))), some (.d (.int x)), some (.d (.int y)), some (.d (hD (c.map (farN w))))], rfl, .inl ?_, _, _, _, rfl⟩
        cases c with
        | none =>
          have nn : isNone (hD none) = true := rfl
          simp only [EV, reduceIte, Nat.reduceAdd, Nat.reduceLT, Nat.reduceLeDiff, Nat.reduceEqDiff, Int.reduceEq, Int.reduceLT, Int.reduceLE, nn, Bool.not_true, zl3, lA]
          rfl
        | some r =>
          have nn : isNone (hD (some r)) = false := rfl
          have hr : hD (some r) = .int (r : Int) := rfl
          have fr := far_spec (r := r) hw
          rw [hr] at nn
          rw [hr]
          simp only [EV, reduceIte, Nat.reduceAdd, Nat.reduceLT, Nat.reduceLeDiff, Nat.reduceEqDiff, Int.reduceEq, Int.reduceLT, Int.reduceLE, nn, Bool.not_false, fr, zl3, lA]
          rfl)
  rw [List.length_map, List.take_length] at e
  have fl : flats ((L.map (frT w)).map yD) = true := flats_all _ (fun s => flat_yD s) _
  unfold F__law_beyond
  simp only [EV, reduceIte, Nat.reduceAdd, Nat.reduceLT, Nat.reduceLeDiff, Nat.reduceEqDiff, Int.reduceEq, Int.reduceLT, Int.reduceLE, zl0]
  rw [e]
  simp only [EV, reduceIte, Nat.reduceAdd, Nat.reduceLT, Nat.reduceLeDiff, Nat.reduceEqDiff, Int.reduceEq, Int.reduceLT, Int.reduceLE, f1_lst, fl]
theorem law_true (ns : List Int) (h63 : ns.length ≤ 63) : F_law [.list (ns.map .int)] = some (.bool true) := by
  have p4 := part_spec (ns := ns) (i := 0) (k := 4) (m := 4) (by decide) (by decide) (by decide) (by decide)
  obtain ⟨now, n0, n1, en⟩ := now_spec ns
  obtain ⟨b4, hb4⟩ : ∃ b4, decide (partF ns 0 4 4 = 1) = b4 := ⟨_, rfl⟩
  generalize partF ns 0 4 4 = x4 at *
  have ix : pAt [.int 3, .int 12] (if b4 = true then 1 else 0) = some (.int (if b4 = true then 12 else 3)) := by cases b4 <;> rfl
  have iN : gInt [.bool b4] = some (.int (if b4 = true then 1 else 0)) := rfl
  have mm : (0 : Int) < (if b4 = true then 12 else 3) ∧ (if b4 = true then (12 : Int) else 3) ≤ 12 := by cases b4 <;> decide
  have p3 := part_spec (ns := ns) (i := 0) (k := 3) (m := if b4 = true then 12 else 3) (by decide) (by decide) (by decide) mm.1
  have r3 := partF_range ns 0 3 mm.1
  generalize partF ns 0 3 (if b4 = true then 12 else 3) = x3 at *
  obtain ⟨M, eM⟩ : ∃ M : Nat, (M : Int) = 1 + x3 := ⟨(1 + x3).toNat, by omega⟩
  have hM : M ≤ 12 := by omega
  have hM1 : 1 ≤ M := by omega
  obtain ⟨L, ok, eS⟩ := stays_spec ns (M := M) (now := now) hM n0 n1
  obtain ⟨h, q0, v0, b0, z0⟩ := plan_spec ns (at' := 40) ok hM (by decide)
  have l24 := ok.len
  have p43 := part_spec (ns := ns) (i := 43) (k := 0) (m := 3) (by decide) (by decide) (by decide) (by decide)
  have r43 := partF_range ns 43 0 (m := 3) (by decide)
  generalize partF ns 43 0 3 = x43 at *
  obtain ⟨w, rfl⟩ : ∃ w : Nat, x43 = (w : Int) := ⟨x43.toNat, by omega⟩
  have hw : w < 3 := by omega
  have eB := beyond_spec (L := L) hw l24
  have lL' : (L.map yD).length ≤ 100000 := by rw [List.length_map]; omega
  have lP : (plD L.length h).length ≤ 100000 := by rw [pl_len]; omega
  have C0 : ∀ δ0, compD (gNl 0) (D3.tYes) (dFlat (dOp gIx (dVar 0) (dC (.int 0)))) (capD 1 [] δ0) (L.map yD) = some ((L.map (·.1)).map PyData.int) := fun δ0 => by
    rw [List.map_map]
    exact cMap yD _ L fun s _ => ⟨[some (.d (yD s))], rfl, rfl, by
      obtain ⟨x, y, c⟩ := s
      unfold yD
      simp only [EV, reduceIte, Nat.reduceAdd, Nat.reduceLT, Nat.reduceLeDiff, Nat.reduceEqDiff, Int.reduceEq, Int.reduceLT, Int.reduceLE, at0, fli]
      rfl⟩
  have C1 : ∀ δ0, compD (gNl 0) (D3.tYes) (dFlat (dOp gIx (dVar 0) (dC (.int 1)))) (capD 1 [] δ0) (L.map yD) = some ((L.map (·.2.1)).map PyData.int) := fun δ0 => by
    rw [List.map_map]
    exact cMap yD _ L fun s _ => ⟨[some (.d (yD s))], rfl, rfl, by
      obtain ⟨x, y, c⟩ := s
      unfold yD
      simp only [EV, reduceIte, Nat.reduceAdd, Nat.reduceLT, Nat.reduceLeDiff, Nat.reduceEqDiff, Int.reduceEq, Int.reduceLT, Int.reduceLE, at1, fli]
      rfl⟩
  let h' : Nat → Int := fun k => ((farN w (h k).toNat : Nat) : Int)
  have C2 : ∀ u0 u1 u2 u3 u4 u5 u7 u8 u9 u10 u11 u12, compD (gNl 0) (D3.tYes) (dCall F__law_far (dCons (dVar 1) (dCons (dVar 0) (dNil)))) (capD 1 [6] [u0, u1, u2, u3, u4, u5, some (.d (.int (w : Int))), u7, u8, u9, u10, u11, u12]) (plD L.length h) = some (plD L.length h') := fun u0 u1 u2 u3 u4 u5 u7 u8 u9 u10 u11 u12 =>
    cMap (fun k => PyData.int (h k)) (fun k => PyData.int (h' k)) (List.range L.length) fun k hk => ⟨[some (.d (.int (h k))), some (.d (.int (w : Int)))], rfl, rfl, by
      have hk := b0 k (List.mem_range.mp hk)
      have f := far_spec (r := (h k).toNat) hw
      rw [show (((h k).toNat : Nat) : Int) = h k by omega] at f
      simp only [EV, reduceIte, Nat.reduceAdd, Nat.reduceLT, Nat.reduceLeDiff, Nat.reduceEqDiff, Int.reduceEq, Int.reduceLT, Int.reduceLE, f]
      rfl⟩
  have lB : (L.map (frT w)).length = L.length := List.length_map _
  have okL : ∀ s ∈ L, s.1 < s.2.1 := fun s hs => (ok.ok s hs).1
  have T1 : ∀ t a b : Int, 0 ≤ a → 0 ≤ b → F__law_told [.list (L.map yD), .list (plD L.length h), .int (M : Int), .int now, .tuple [.int t, .int a, .int b]] = some (.bool true) := fun t a b ha hb =>
    told l24 fun a1 b1 r => swp_right okL v0 b0 z0 ⟨ha, a1⟩ ⟨hb, b1⟩ r
  have T2 : ∀ t a b : Int, 0 ≤ a → F__law_told [.list ((L.map (frT w)).map yD), .list (plD L.length h'), .int 0, .int now, .tuple [.int t, .int a, .int b]] = some (.bool true) := fun t a b ha => by
    have := told (L := L.map (frT w)) (h := h') (M := 0) (now := now) (t := t) (a := a) (b := b) (by omega) fun a1 _ _ => absurd a1 (by show ¬ a < (0 : Int); omega)
    rw [lB] at this
    exact this
  have T0 : F__law_told [.list [], .list [], .int (M : Int), .int now, .tuple [.int now, .int 0, .int 1]] = some (.bool true) :=
    told (L := []) (h := h) (by decide) fun _ _ _ i hi => absurd hi (Nat.not_lt_zero _)
  let NS : List Int := [now, now - 1, now + 1, 399, 400] ++ L.map (·.1) ++ L.map (·.2.1)
  have m4 : ∀ j : Int, gMul (.int 4) (.int j) = some (.int (4 * j)) := fun j => mulL (by decide) (by decide)
  have m2 : ∀ j : Int, gMul (.int 2) (.int j) = some (.int (2 * j)) := fun j => mulL (by decide) (by decide)
  have rg : qRng1 (some [.int 12]) = some (rngD 0 12) := rng1 (by decide) (by decide)
  have Lp : ∀ N : List D, N = NS.map .int → ∃ u9 u10 u11 u12 : Option U, forD (gNl 9) (sSeq (sSetl 10 (dOp gIx (dVar 5) (dCall F__law_part (dCons (dVar 0) (dCons (dC (.int 41)) (dCons (dOp gMul (dC (.int 4)) (dVar 9)) (dCons (dCall gLen (dCons (dVar 5) (dNil))) (dNil)))))))) (sSeq (sIf (tBool (dOp gEq (dCall F__law_part (dCons (dVar 0) (dCons (dC (.int 41)) (dCons (dOp gAdd (dOp gMul (dC (.int 4)) (dVar 9)) (dC (.int 1))) (dCons (dC (.int 4)) (dNil)))))) (dC (.int 0)))) (sSetl 10 (dOp gSub (dCall F__law_part (dCons (dVar 0) (dCons (dC (.int 41)) (dCons (dOp gAdd (dOp gMul (dC (.int 4)) (dVar 9)) (dC (.int 1))) (dCons (dC (.int 500)) (dNil)))))) (dC (.int 50)))) (sNil)) (sSeq (sSetl 11 (dCall F__law_part (dCons (dVar 0) (dCons (dC (.int 42)) (dCons (dOp gMul (dC (.int 2)) (dVar 9)) (dCons (dVar 1) (dNil))))))) (sSeq (sSetl 12 (dCall F__law_part (dCons (dVar 0) (dCons (dC (.int 42)) (dCons (dOp gAdd (dOp gMul (dC (.int 2)) (dVar 9)) (dC (.int 1))) (dCons (dOp gAdd (dVar 1) (dC (.int 1))) (dNil))))))) (sSeq (sIf (D3.tNot (tBool (dCall F__law_told (dCons (dVar 3) (dCons (dVar 4) (dCons (dVar 1) (dCons (dVar 2) (dCons (dTup (dCons (dVar 10) (dCons (dVar 11) (dCons (dVar 12) (dNil))))) (dNil))))))))) (sRet (dC (.bool false))) (sNil)) (sIf (D3.tNot (tBool (dCall F__law_told (dCons (dVar 7) (dCons (dVar 8) (dCons (dC (.int 0)) (dCons (dVar 2) (dCons (dTup (dCons (dVar 10) (dCons (dCall F__law_far (dCons (dVar 6) (dCons (dVar 11) (dNil)))) (dCons (dCall F__law_far (dCons (dVar 6) (dCons (dVar 12) (dNil)))) (dNil))))) (dNil))))))))) (sRet (dC (.bool false))) (sNil))))))) (rngD 0 12) [some (.d (.list (ns.map .int))), some (.d (.int (M : Int))), some (.d (.int now)), some (.d (.list (L.map yD))), some (.d (.list (plD L.length h))), some (.d (.list N)), some (.d (.int (w : Int))), some (.d (.list ((L.map (frT w)).map yD))), some (.d (.list (plD L.length h'))), none, none, none, none] = some (.nx [some (.d (.list (ns.map .int))), some (.d (.int (M : Int))), some (.d (.int now)), some (.d (.list (L.map yD))), some (.d (.list (plD L.length h))), some (.d (.list N)), some (.d (.int (w : Int))), some (.d (.list ((L.map (frT w)).map yD))), some (.d (.list (plD L.length h'))), u9, u10, u11, u12]) := fun N hN => by
    have lN : 0 < N.length := by rw [hN]; simp [NS]
    obtain ⟨δ', e, u9, u10, u11, u12, rfl⟩ := for_inv (g := (gNl 9)) (b := (sSeq (sSetl 10 (dOp gIx (dVar 5) (dCall F__law_part (dCons (dVar 0) (dCons (dC (.int 41)) (dCons (dOp gMul (dC (.int 4)) (dVar 9)) (dCons (dCall gLen (dCons (dVar 5) (dNil))) (dNil)))))))) (sSeq (sIf (tBool (dOp gEq (dCall F__law_part (dCons (dVar 0) (dCons (dC (.int 41)) (dCons (dOp gAdd (dOp gMul (dC (.int 4)) (dVar 9)) (dC (.int 1))) (dCons (dC (.int 4)) (dNil)))))) (dC (.int 0)))) (sSetl 10 (dOp gSub (dCall F__law_part (dCons (dVar 0) (dCons (dC (.int 41)) (dCons (dOp gAdd (dOp gMul (dC (.int 4)) (dVar 9)) (dC (.int 1))) (dCons (dC (.int 500)) (dNil)))))) (dC (.int 50)))) (sNil)) (sSeq (sSetl 11 (dCall F__law_part (dCons (dVar 0) (dCons (dC (.int 42)) (dCons (dOp gMul (dC (.int 2)) (dVar 9)) (dCons (dVar 1) (dNil))))))) (sSeq (sSetl 12 (dCall F__law_part (dCons (dVar 0) (dCons (dC (.int 42)) (dCons (dOp gAdd (dOp gMul (dC (.int 2)) (dVar 9)) (dC (.int 1))) (dCons (dOp gAdd (dVar 1) (dC (.int 1))) (dNil))))))) (sSeq (sIf (D3.tNot (tBool (dCall F__law_told (dCons (dVar 3) (dCons (dVar 4) (dCons (dVar 1) (dCons (dVar 2) (dCons (dTup (dCons (dVar 10) (dCons (dVar 11) (dCons (dVar 12) (dNil))))) (dNil))))))))) (sRet (dC (.bool false))) (sNil)) (sIf (D3.tNot (tBool (dCall F__law_told (dCons (dVar 7) (dCons (dVar 8) (dCons (dC (.int 0)) (dCons (dVar 2) (dCons (dTup (dCons (dVar 10) (dCons (dCall F__law_far (dCons (dVar 6) (dCons (dVar 11) (dNil)))) (dCons (dCall F__law_far (dCons (dVar 6) (dCons (dVar 12) (dNil)))) (dNil))))) (dNil))))))))) (sRet (dC (.bool false))) (sNil)))))))) (fun i δ => ∃ u9 u10 u11 u12 : Option U, δ = [some (.d (.list (ns.map .int))), some (.d (.int (M : Int))), some (.d (.int now)), some (.d (.list (L.map yD))), some (.d (.list (plD L.length h))), some (.d (.list N)), some (.d (.int (w : Int))), some (.d (.list ((L.map (frT w)).map yD))), some (.d (.list (plD L.length h'))), u9, u10, u11, u12]) (rngD 0 12) [some (.d (.list (ns.map .int))), some (.d (.int (M : Int))), some (.d (.int now)), some (.d (.list (L.map yD))), some (.d (.list (plD L.length h))), some (.d (.list N)), some (.d (.int (w : Int))), some (.d (.list ((L.map (frT w)).map yD))), some (.d (.list (plD L.length h'))), none, none, none, none] ⟨none, none, none, none, rfl⟩ (by
      rintro i d δ hd ⟨u9, u10, u11, u12, rfl⟩
      obtain ⟨hi, rfl⟩ := rng_at hd
      have q1 := part_spec (ns := ns) (i := 41) (k := 4 * (i : Int)) (m := (N.length : Int)) (by decide) (by omega) (by omega) (by omega)
      have s1 := partF_range ns 41 (4 * (i : Int)) (m := (N.length : Int)) (by omega)
      have q2 := part_spec (ns := ns) (i := 41) (k := 4 * (i : Int) + 1) (m := 4) (by decide) (by omega) (by omega) (by decide)
      have q3 := part_spec (ns := ns) (i := 41) (k := 4 * (i : Int) + 1) (m := 500) (by decide) (by omega) (by omega) (by decide)
      have q4 := part_spec (ns := ns) (i := 42) (k := 2 * (i : Int)) (m := (M : Int)) (by decide) (by omega) (by omega) (by omega)
      have s4 := partF_range ns 42 (2 * (i : Int)) (m := (M : Int)) (by omega)
      have q5 := part_spec (ns := ns) (i := 42) (k := 2 * (i : Int) + 1) (m := (M : Int) + 1) (by decide) (by omega) (by omega) (by omega)
      have s5 := partF_range ns 42 (2 * (i : Int) + 1) (m := (M : Int) + 1) (by omega)
      generalize partF ns 41 (4 * (i : Int)) (N.length : Int) = y1 at *
      generalize partF ns 41 (4 * (i : Int) + 1) 4 = y2 at *
      generalize partF ns 41 (4 * (i : Int) + 1) 500 = y3 at *
      generalize partF ns 42 (2 * (i : Int)) (M : Int) = y4 at *
      generalize partF ns 42 (2 * (i : Int) + 1) ((M : Int) + 1) = y5 at *
      obtain ⟨j, rfl⟩ : ∃ j : Nat, y1 = (j : Int) := ⟨y1.toNat, by omega⟩
      obtain ⟨a, rfl⟩ : ∃ a : Nat, y4 = (a : Int) := ⟨y4.toNat, by omega⟩
      obtain ⟨b, rfl⟩ : ∃ b : Nat, y5 = (b : Int) := ⟨y5.toNat, by omega⟩
      obtain ⟨t1, ht1⟩ : ∃ t1 : Int, pAt N (j : Int) = some (.int t1) := by
        have hj : j < N.length := by omega
        rw [pAt_nat, hN, List.getElem?_map]
        rw [hN, List.length_map] at hj
        rw [List.getElem?_eq_getElem hj]
        exact ⟨_, rfl⟩
      have fa := far_spec (r := a) hw
      have fb := far_spec (r := b) hw
      by_cases c : y2 = 0
      · have k1 := T1 (y3 - 50) a b (by omega) (by omega)
        have k2 := T2 (y3 - 50) ((farN w a : Nat) : Int) ((farN w b : Nat) : Int) (by omega)
        refine ⟨_, [some (.d (.list (ns.map .int))), some (.d (.int (M : Int))), some (.d (.int now)), some (.d (.list (L.map yD))), some (.d (.list (plD L.length h))), some (.d (.list N)), some (.d (.int (w : Int))), some (.d (.list ((L.map (frT w)).map yD))), some (.d (.list (plD L.length h'))), some (.d (.int (i : Int))), some (.d (.int (y3 - 50))), some (.d (.int (a : Int))), some (.d (.int (b : Int)))], rfl, .inl ?_, _, _, _, _, rfl⟩
        simp only [EV, reduceIte, Nat.reduceAdd, Nat.reduceLT, Nat.reduceLeDiff, Nat.reduceEqDiff, Int.reduceEq, Int.reduceLT, Int.reduceLE, m4, m2, q1, ht1, q2, decide_eq_true c, q3, q4, q5, zl3, k1, Bool.not_true, fa, fb, k2]
      · have k1 := T1 t1 a b (by omega) (by omega)
        have k2 := T2 t1 ((farN w a : Nat) : Int) ((farN w b : Nat) : Int) (by omega)
        refine ⟨_, [some (.d (.list (ns.map .int))), some (.d (.int (M : Int))), some (.d (.int now)), some (.d (.list (L.map yD))), some (.d (.list (plD L.length h))), some (.d (.list N)), some (.d (.int (w : Int))), some (.d (.list ((L.map (frT w)).map yD))), some (.d (.list (plD L.length h'))), some (.d (.int (i : Int))), some (.d (.int t1)), some (.d (.int (a : Int))), some (.d (.int (b : Int)))], rfl, .inl ?_, _, _, _, _, rfl⟩
        simp only [EV, reduceIte, Nat.reduceAdd, Nat.reduceLT, Nat.reduceLeDiff, Nat.reduceEqDiff, Int.reduceEq, Int.reduceLT, Int.reduceLE, m4, m2, q1, ht1, q2, decide_eq_false c, q4, q5, zl3, k1, Bool.not_true, fa, fb, k2])
    exact ⟨u9, u10, u11, u12, e⟩
  have kA := T1 now 0 1 (by decide) (by decide)
  have kB := T1 400 (M : Int) 0 (by omega) (by decide)
  obtain ⟨N, hN⟩ : ∃ N : List D, N = NS.map .int := ⟨_, rfl⟩
  obtain ⟨u9, u10, u11, u12, eLp⟩ := Lp N hN
  have cat : PyData.int now :: PyData.int (now - 1) :: PyData.int (now + 1) :: PyData.int 399 :: PyData.int 400 :: ((L.map (fun x => x.1)).map PyData.int ++ (L.map (fun x => x.2.1)).map PyData.int) = N := by rw [hN]; simp [NS]
  have k5 : 5 + L.length ≤ 1000000 := by omega
  have k6 : L.length + 1 + 1 + 1 + 1 + 1 + L.length ≤ 1000000 := by omega
  have k7 : L.length ≤ 100000 := by omega
  unfold F_law
  simp only [EV, reduceIte, Nat.reduceAdd, Nat.reduceLT, Nat.reduceLeDiff, Nat.reduceEqDiff, Int.reduceEq, Int.reduceLT, Int.reduceLE, p4, hb4, zl2, zl5, iN, ix, p3, eM.symm, en, eS, q0, List.length_map, k5, k6, k7, C0, C1, cat, p43, eB, lP, C2, rg]
  rw [eLp]
  simp only [EV, reduceIte, Nat.reduceAdd, Nat.reduceLT, Nat.reduceLeDiff, Nat.reduceEqDiff, Int.reduceEq, Int.reduceLT, Int.reduceLE, zl0, zl3, T0, Bool.not_true, kA, kB]
end K45
namespace K45
open PySem PySem.Spec PyProof.Rows L2 My D3 XC XS
def top (i : Nat) : Stmt := PySem.Challenge.pw_nightbook_k45_exchanged.main.body.getD i (.Pass ⟨0, 0, 0, 0⟩)
section
seal PE PT PW PA PS PSs PG PGs PI PO PTs
variable {P : Program} {w : World} {K : PySem.W.Frag} {mg : Str → Option Value} {base : Heap} {n : Nat} {fld : Addr → Str}
theorem ok_hinders (D : Dg K mg "hinders" (top 7) ["stay", "night"]) (B : Bl mg) : Has P w K mg base (n + 1) "hinders" ["stay", "night"] (spD K F_hinders) := by
  have sc : FnScope ["stay", "night"] ["stay", "night"] (defScope (top 7)) := ⟨rfl, rfl, rfl, by decide +kernel, rfl, by decide +kernel, by decide +kernel⟩
  exact dg_ok (fl := [.A, .A]) D sc (by decide) (by decide) fun f cdv A outer s H E hr => dss_one (ds_ret (c_FC_R (de_and (c_FC_P (de_or (c_FC_P (de_notN (c_A_P (de_ix (c_A_B (de_varA 0 rfl)) (c_FC_P (de_int)) (fun _ _ => rfl))))) (de_one (de_cmp op_lt b_lt (c_A_P (de_ix (c_A_B (de_varA 0 rfl)) (c_FC_P (de_int)) (fun _ _ => rfl))) (c_A_P (de_varA 1 rfl)) (nomark _))))) (de_one (de_cmp op_gt b_gt (c_A_P (de_ix (c_A_B (de_varA 0 rfl)) (c_FC_P (de_int)) (fun _ _ => rfl))) (c_A_P (de_varA 1 rfl)) (nomark _))))))
theorem okX_check_exchange (D : Dg K mg "check_exchange" (top 8) ["stays", "plan", "now", "night", "one", "other"]) (B : Bl mg) (hhinders : Has P w K mg base (n + 2) "hinders" ["stay", "night"] (spD K F_hinders)) (zNoExchange : ExcG K mg fld "NoExchange" "night" "InnError") : HasX P w K mg base fld (n + 3) "check_exchange" ["stays", "plan", "now", "night", "one", "other"] (spX K mg X_check_exchange) [] := by
  have sc : FnScope ["stays", "plan", "now", "night", "one", "other", "stay", "room"] ["stays", "plan", "now", "night", "one", "other"] (defScope (top 8)) := ⟨rfl, rfl, rfl, by decide +kernel, rfl, by decide +kernel, by decide +kernel⟩
  exact dgXL_ok (fl := [.A, .A, .A, .A, .A, .A, .A, .A]) D sc (by decide) (by decide) fun f cdv A outer s H E hr => dxs_cons (dx_if (dt_w (dw_or (dt_cmp op_lt b_lt (c_A_P (de_varA 3 rfl)) (c_A_P (de_varA 2 rfl)) (nomark _)) (dw_or1 (dt_cmp (op_eqD hr.units) b_eq (c_A_P (de_varA 4 rfl)) (c_A_P (de_varA 5 rfl)) (nomark _))))) (dxs_one (dx_raiseL zNoExchange.fly hr (c_A_P (de_varA 3 rfl)))) (dxs_of (dss_nil)))
    (dxs_one (dx_for (L := []) passL rfl (di_zip (L1 := []) (L2 := []) (c_A_B (de_varA 0 rfl)) (c_A_B (de_varA 1 rfl)) (by rfl) B.zip_) (dg_tup rfl (dgs_cons (dg_name (i := 6) rfl sc.nd rfl (by first | exact Or.inl rfl | exact Or.inr rfl)) (dgs_cons (dg_name (i := 7) rfl sc.nd rfl (by first | exact Or.inl rfl | exact Or.inr rfl)) (dgs_nil)))) (dxs_one (dx_if (dt_w (dw_and (dt_w (dw_or (dt_cmp (op_eqD hr.units) b_eq (c_A_P (de_varA 7 rfl)) (c_A_P (de_varA 4 rfl)) (nomark _)) (dw_or1 (dt_cmp (op_eqD hr.units) b_eq (c_A_P (de_varA 7 rfl)) (c_A_P (de_varA 5 rfl)) (nomark _))))) (dw_and1 (dt_val (c_C_P (de_call hhinders hr (db_cons rfl (c_A_P (de_varA 6 rfl)) (db_cons rfl (c_A_P (de_varA 3 rfl)) (db_nil))))))))) (dxs_one (dx_raiseL zNoExchange.fly hr (c_A_P (de_varA 3 rfl)))) (dxs_of (dss_nil))))))
theorem ok_room_behind (D : Dg K mg "room_behind" (top 9) ["stay", "room", "night", "one", "other"]) (B : Bl mg) : Has P w K mg base (n + 1) "room_behind" ["stay", "room", "night", "one", "other"] (spD K F_room_behind) := by
  have sc : FnScope ["stay", "room", "night", "one", "other"] ["stay", "room", "night", "one", "other"] (defScope (top 9)) := ⟨rfl, rfl, rfl, by decide +kernel, rfl, by decide +kernel, by decide +kernel⟩
  exact dg_ok (fl := [.A, .A, .A, .A, .A]) D sc (by decide) (by decide) fun f cdv A outer s H E hr => dss_cons (ds_if (dt_cmp op_lt b_lt (c_A_P (de_ix (c_A_B (de_varA 0 rfl)) (c_FC_P (de_int)) (fun _ _ => rfl))) (c_A_P (de_varA 2 rfl)) (nomark _)) (dss_one (ds_ret (c_FC_R (c_flat (c_A_P (de_varA 1 rfl)))))) (dss_nil))
    (dss_cons (ds_if (dt_cmp (op_eqD hr.units) b_eq (c_A_P (de_varA 1 rfl)) (c_A_P (de_varA 3 rfl)) (nomark _)) (dss_one (ds_ret (c_FC_R (c_flat (c_A_P (de_varA 4 rfl)))))) (dss_nil))
    (dss_cons (ds_if (dt_cmp (op_eqD hr.units) b_eq (c_A_P (de_varA 1 rfl)) (c_A_P (de_varA 4 rfl)) (nomark _)) (dss_one (ds_ret (c_FC_R (c_flat (c_A_P (de_varA 3 rfl)))))) (dss_nil))
    (dss_one (ds_ret (c_FC_R (c_flat (c_A_P (de_varA 1 rfl))))))))
theorem okX_exchanged (D : Dg K mg "exchanged" (top 10) ["stays", "plan", "now", "night", "one", "other"]) (B : Bl mg) (hroom_behind : Has P w K mg base (n + 2) "room_behind" ["stay", "room", "night", "one", "other"] (spD K F_room_behind)) (xcheck_exchange : HasX P w K mg base fld (n + 2) "check_exchange" ["stays", "plan", "now", "night", "one", "other"] (spX K mg X_check_exchange) []) : HasX P w K mg base fld (n + 3) "exchanged" ["stays", "plan", "now", "night", "one", "other"] (spX K mg X_exchanged) [] := by
  have sc : FnScope ["stays", "plan", "now", "night", "one", "other"] ["stays", "plan", "now", "night", "one", "other"] (defScope (top 10)) := ⟨rfl, rfl, rfl, by decide +kernel, rfl, by decide +kernel, by decide +kernel⟩
  exact dgXL_ok (fl := [.A, .A, .A, .A, .A, .A]) D sc (by decide) (by decide) fun f cdv A outer s H E hr => dxs_cons (dx_callL (dd := []) xcheck_exchange (fun H => .nil) hr (db_cons rfl (c_A_P (de_varA 0 rfl)) (db_cons rfl (c_A_P (de_varA 1 rfl)) (db_cons rfl (c_A_P (de_varA 2 rfl)) (db_cons rfl (c_A_P (de_varA 3 rfl)) (db_cons rfl (c_A_P (de_varA 4 rfl)) (db_cons rfl (c_A_P (de_varA 5 rfl)) (db_nil))))))))
    (dxs_one (dx_of (ds_ret (c_FC_R (de_comp (L := []) (fl' := [.A, .A, .A, .A, .A]) rfl ["stay", "room"] ["night", "one", "other"] [3, 4, 5] (di_zip (L1 := []) (L2 := []) (c_A_B (de_varA 0 rfl)) (c_A_B (de_varA 1 rfl)) (by rfl) B.zip_) (fun _ _ _ _ _ => dg_tup rfl (dgs_cons (dg_name (i := 0) rfl (show (["stay", "room", "night", "one", "other"] : List Str).Nodup by decide +kernel) rfl (by first | exact Or.inl rfl | exact Or.inr rfl)) (dgs_cons (dg_name (i := 1) rfl (show (["stay", "room", "night", "one", "other"] : List Str).Nodup by decide +kernel) rfl (by first | exact Or.inl rfl | exact Or.inr rfl)) (dgs_nil)))) (fun _ _ _ _ _ => pts_yes) (fun _ _ _ _ _ => de_call hroom_behind hr (db_cons rfl (c_A_P (de_varA 0 rfl)) (db_cons rfl (c_A_P (de_varA 1 rfl)) (db_cons rfl (c_A_P (de_varA 2 rfl)) (db_cons rfl (c_A_P (de_varA 3 rfl)) (db_cons rfl (c_A_P (de_varA 4 rfl)) (db_nil))))))))))))
theorem ok__law_cell (D : Dg K mg "_law_cell" (top 12) ["_law_script", "_law_at"]) (B : Bl mg) : Has P w K mg base (n + 1) "_law_cell" ["_law_script", "_law_at"] (spD K F__law_cell) := by
  have sc : FnScope ["_law_script", "_law_at"] ["_law_script", "_law_at"] (defScope (top 12)) := ⟨rfl, rfl, rfl, by decide +kernel, rfl, by decide +kernel, by decide +kernel⟩
  exact dg_ok (fl := [.A, .A]) D sc (by decide) (by decide) fun f cdv A outer s H E hr => dss_cons (ds_if (dt_cmp op_lt b_lt (c_A_P (de_varA 1 rfl)) (c_FC_P (de_blt call_len_seq b_len (by rfl) B.len_ PySem.boot_len (db_cons rfl (c_A_P (de_varA 0 rfl)) (db_nil)))) (nomark _)) (dss_one (ds_ret (c_FC_R (de_op op_modN b_mod (c_A_P (de_ix (c_A_B (de_varA 0 rfl)) (c_A_P (de_varA 1 rfl)) (fun _ _ => rfl))) (c_FC_P (de_int)))))) (dss_nil))
    (dss_cons (ds_if (dt_cmp (op_eqD hr.units) b_eq (c_A_P (de_varA 0 rfl)) (c_FC_P (de_lstC (db_nil))) (nomark _)) (dss_one (ds_ret (c_FC_R (de_op op_add b_add (c_FC_P (de_op op_mulG b_mul (c_FC_P (de_int)) (c_A_P (de_varA 1 rfl)))) (c_FC_P (de_int)))))) (dss_nil))
    (dss_one (ds_ret (c_FC_R (de_op op_add b_add (c_FC_P (de_op op_modN b_mod (c_A_P (de_ix (c_A_B (de_varA 0 rfl)) (c_FC_P (de_op op_modN b_mod (c_FC_P (de_op op_mulG b_mul (c_A_P (de_varA 1 rfl)) (c_FC_P (de_int)))) (c_FC_P (de_blt call_len_seq b_len (by rfl) B.len_ PySem.boot_len (db_cons rfl (c_A_P (de_varA 0 rfl)) (db_nil)))))) (fun _ _ => rfl))) (c_FC_P (de_int)))) (c_FC_P (de_op op_mulG b_mul (c_FC_P (de_int)) (c_A_P (de_varA 1 rfl)))))))))
theorem ok__law_part (D : Dg K mg "_law_part" (top 13) ["_law_script", "_law_at", "_law_k", "_law_many"]) (B : Bl mg) (h_law_cell : Has P w K mg base n "_law_cell" ["_law_script", "_law_at"] (spD K F__law_cell)) : Has P w K mg base (n + 1) "_law_part" ["_law_script", "_law_at", "_law_k", "_law_many"] (spD K F__law_part) := by
  have sc : FnScope ["_law_script", "_law_at", "_law_k", "_law_many", "_law_number", "_law_j"] ["_law_script", "_law_at", "_law_k", "_law_many"] (defScope (top 13)) := ⟨rfl, rfl, rfl, by decide +kernel, rfl, by decide +kernel, by decide +kernel⟩
  exact dg_ok (fl := [.A, .A, .A, .A, .A, .A]) D sc (by decide) (by decide) fun f cdv A outer s H E hr => dss_cons (ds_if (dt_w (dw_and (dt_cmp op_lt b_lt (c_A_P (de_varA 1 rfl)) (c_FC_P (de_blt call_len_seq b_len (by rfl) B.len_ PySem.boot_len (db_cons rfl (c_A_P (de_varA 0 rfl)) (db_nil)))) (nomark _)) (dw_and1 (dt_cmp op_ge b_ge (c_A_P (de_ix (c_A_B (de_varA 0 rfl)) (c_A_P (de_varA 1 rfl)) (fun _ _ => rfl))) (c_FC_P (de_op op_pow b_pow (c_FC_P (de_int)) (c_FC_P (de_int)))) (nomark _))))) (dss_cons (ds_setA (i := 4) rfl sc.nd rfl (by first | exact Or.inl rfl | exact Or.inr rfl) (de_ix (c_A_B (de_varA 0 rfl)) (c_A_P (de_varA 1 rfl)) (fun _ _ => rfl)))
    (dss_cons (ds_for (L := []) PassesOwn.never rfl (di_range1 (by rfl) B.range_ (da_of (db_cons rfl (c_A_P (de_varA 2 rfl)) (db_nil)))) (dg_name (i := 5) rfl sc.nd rfl (by first | exact Or.inl rfl | exact Or.inr rfl)) (dss_one (ds_setA (i := 4) rfl sc.nd rfl (by first | exact Or.inl rfl | exact Or.inr rfl) (c_FC_A (de_op op_divG b_div (c_A_P (de_varA 4 rfl)) (c_FC_P (de_int)))))))
    (dss_one (ds_if (dt_cmp op_gt b_gt (c_A_P (de_varA 4 rfl)) (c_FC_P (de_int)) (nomark _)) (dss_one (ds_ret (c_FC_R (de_op op_modN b_mod (c_FC_P (de_op op_modN b_mod (c_A_P (de_varA 4 rfl)) (c_FC_P (de_int)))) (c_A_P (de_varA 3 rfl)))))) (dss_nil))))) (dss_nil))
    (dss_cons (ds_setA (i := 4) rfl sc.nd rfl (by first | exact Or.inl rfl | exact Or.inr rfl) (c_FC_A (de_op op_modN b_mod (c_FC_P (de_op op_mulG b_mul (c_FC_P (de_op op_add b_add (c_FC_P (de_op op_add b_add (c_C_P (de_call h_law_cell hr (db_cons rfl (c_A_P (de_varA 0 rfl)) (db_cons rfl (c_A_P (de_varA 1 rfl)) (db_nil))))) (c_FC_P (de_op op_mulG b_mul (c_FC_P (de_int)) (c_A_P (de_varA 1 rfl)))))) (c_FC_P (de_int)))) (c_FC_P (de_op op_add b_add (c_FC_P (de_int)) (c_FC_P (de_op op_mulG b_mul (c_FC_P (de_int)) (c_A_P (de_varA 2 rfl)))))))) (c_FC_P (de_int)))))
    (dss_cons (ds_setA (i := 4) rfl sc.nd rfl (by first | exact Or.inl rfl | exact Or.inr rfl) (c_FC_A (de_op op_add b_add (c_FC_P (de_op op_modN b_mod (c_FC_P (de_op op_mulG b_mul (c_A_P (de_varA 4 rfl)) (c_A_P (de_varA 4 rfl)))) (c_FC_P (de_int)))) (c_FC_P (de_int)))))
    (dss_one (ds_ret (c_FC_R (de_op op_modN b_mod (c_FC_P (de_op op_divG b_div (c_FC_P (de_op op_modN b_mod (c_FC_P (de_op op_mulG b_mul (c_A_P (de_varA 4 rfl)) (c_A_P (de_varA 4 rfl)))) (c_FC_P (de_int)))) (c_FC_P (de_int)))) (c_A_P (de_varA 3 rfl))))))))
theorem ok__law_whole (D : Dg K mg "_law_whole" (top 14) ["_law_found"]) (B : Bl mg) : Has P w K mg base (n + 1) "_law_whole" ["_law_found"] (spD K F__law_whole) := by
  have sc : FnScope ["_law_found"] ["_law_found"] (defScope (top 14)) := ⟨rfl, rfl, rfl, by decide +kernel, rfl, by decide +kernel, by decide +kernel⟩
  exact dg_ok (fl := [.A]) D sc (by decide) (by decide) fun f cdv A outer s H E hr => dss_one (ds_ret (c_FC_R (de_and (c_FC_P (de_isi (T := "int") (by decide) (c_A_P (de_varA 0 rfl)) (by rfl) B.isinstance_ (by rfl) B.int_ PyProof.Rows.boot_int)) (de_one (de_not (c_FC_P (de_isi (T := "bool") (by decide) (c_A_P (de_varA 0 rfl)) (by rfl) B.isinstance_ (by rfl) B.bool_ PyProof.Rows.boot_bool)))))))
theorem okQ__law_whole (D : Dg K mg "_law_whole" (top 14) ["_law_found"]) (B : Bl mg) : HasQ P w K mg base (n + 1) "_law_whole" ["_law_found"] (spD K F__law_whole) := by
  have sc : FnScope ["_law_found"] ["_law_found"] (defScope (top 14)) := ⟨rfl, rfl, rfl, by decide +kernel, rfl, by decide +kernel, by decide +kernel⟩
  exact dg_okQ (fl := [.A]) D sc (by decide) (by decide) fun f cdv A outer s H E hr => dss_one (ds_ret (c_FC_R (de_and (c_FC_P (de_isi (T := "int") (by decide) (c_A_P (de_varA 0 rfl)) (by rfl) B.isinstance_ (by rfl) B.int_ PyProof.Rows.boot_int)) (de_one (de_not (c_FC_P (de_isi (T := "bool") (by decide) (c_A_P (de_varA 0 rfl)) (by rfl) B.isinstance_ (by rfl) B.bool_ PyProof.Rows.boot_bool)))))))
theorem ok__law_stay (D : Dg K mg "_law_stay" (top 15) ["_law_script", "_law_at", "_law_turn", "_law_mode", "_law_now_here"]) (B : Bl mg) (h_law_part : Has P w K mg base n "_law_part" ["_law_script", "_law_at", "_law_k", "_law_many"] (spD K F__law_part)) : Has P w K mg base (n + 1) "_law_stay" ["_law_script", "_law_at", "_law_turn", "_law_mode", "_law_now_here"] (spD K F__law_stay) := by
  have sc : FnScope ["_law_script", "_law_at", "_law_turn", "_law_mode", "_law_now_here", "_law_first", "_law_long"] ["_law_script", "_law_at", "_law_turn", "_law_mode", "_law_now_here"] (defScope (top 15)) := ⟨rfl, rfl, rfl, by decide +kernel, rfl, by decide +kernel, by decide +kernel⟩
  exact dg_ok (fl := [.A, .A, .A, .A, .A, .A, .A]) D sc (by decide) (by decide) fun f cdv A outer s H E hr => dss_cons (ds_setA (i := 5) rfl sc.nd rfl (by first | exact Or.inl rfl | exact Or.inr rfl) (c_FC_A (de_blt (call_min2 rfl) b_min2 (by rfl) B.min_ PyProof.Rows.boot_min (db_cons rfl (c_FC_P (de_int)) (db_cons rfl (c_FC_P (de_op op_add b_add (c_A_P (de_varA 4 rfl)) (c_C_P (de_call h_law_part hr (db_cons rfl (c_A_P (de_varA 0 rfl)) (db_cons rfl (c_A_P (de_varA 1 rfl)) (db_cons rfl (c_A_P (de_varA 2 rfl)) (db_cons rfl (c_A_P (de_ix (c_A_B (c_FC_A (de_lstC (db_cons rfl (c_FC_C (de_int)) (db_cons rfl (c_FC_C (de_int)) (db_cons rfl (c_FC_C (de_int)) (db_cons rfl (c_FC_C (de_int)) (db_nil)))))))) (c_A_P (de_varA 3 rfl)) (fun _ _ => rfl))) (db_nil))))))))) (db_nil))))))
    (dss_cons (ds_setA (i := 6) rfl sc.nd rfl (by first | exact Or.inl rfl | exact Or.inr rfl) (c_FC_A (de_op op_add b_add (c_FC_P (de_int)) (c_C_P (de_call h_law_part hr (db_cons rfl (c_A_P (de_varA 0 rfl)) (db_cons rfl (c_A_P (de_varA 1 rfl)) (db_cons rfl (c_FC_P (de_op op_add b_add (c_A_P (de_varA 2 rfl)) (c_FC_P (de_int)))) (db_cons rfl (c_A_P (de_ix (c_A_B (c_FC_A (de_lstC (db_cons rfl (c_FC_C (de_int)) (db_cons rfl (c_FC_C (de_int)) (db_cons rfl (c_FC_C (de_int)) (db_cons rfl (c_FC_C (de_int)) (db_nil)))))))) (c_C_P (de_call h_law_part hr (db_cons rfl (c_A_P (de_varA 0 rfl)) (db_cons rfl (c_A_P (de_varA 1 rfl)) (db_cons rfl (c_FC_P (de_op op_add b_add (c_A_P (de_varA 2 rfl)) (c_FC_P (de_int)))) (db_cons rfl (c_FC_P (de_int)) (db_nil))))))) (fun _ _ => rfl))) (db_nil))))))))))
    (dss_one (ds_ret (de_tup rfl (db_cons rfl (c_FC_R (c_flat (c_A_P (de_varA 5 rfl)))) (db_cons rfl (c_FC_R (de_blt (call_min2 rfl) b_min2 (by rfl) B.min_ PyProof.Rows.boot_min (db_cons rfl (c_FC_P (de_int)) (db_cons rfl (c_FC_P (de_op op_add b_add (c_A_P (de_varA 5 rfl)) (c_A_P (de_varA 6 rfl)))) (db_nil))))) (db_cons rfl (c_FC_R (de_non)) (db_nil))))))))
theorem ok__law_guest (D : Dg K mg "_law_guest" (top 16) ["_law_script", "_law_at", "_law_turn", "_law_now_here", "_law_room"]) (B : Bl mg) (h_law_part : Has P w K mg base n "_law_part" ["_law_script", "_law_at", "_law_k", "_law_many"] (spD K F__law_part)) : Has P w K mg base (n + 1) "_law_guest" ["_law_script", "_law_at", "_law_turn", "_law_now_here", "_law_room"] (spD K F__law_guest) := by
  have sc : FnScope ["_law_script", "_law_at", "_law_turn", "_law_now_here", "_law_room", "_law_first", "_law_more"] ["_law_script", "_law_at", "_law_turn", "_law_now_here", "_law_room"] (defScope (top 16)) := ⟨rfl, rfl, rfl, by decide +kernel, rfl, by decide +kernel, by decide +kernel⟩
  exact dg_ok (fl := [.A, .A, .A, .A, .A, .A, .A]) D sc (by decide) (by decide) fun f cdv A outer s H E hr => dss_cons (ds_setA (i := 5) rfl sc.nd rfl (by first | exact Or.inl rfl | exact Or.inr rfl) (c_FC_A (de_blt (call_max2 rfl) b_max2 (by rfl) B.max_ PyProof.Rows.boot_max (db_cons rfl (c_FC_P (de_int)) (db_cons rfl (c_FC_P (de_op op_sub b_sub (c_A_P (de_varA 3 rfl)) (c_C_P (de_call h_law_part hr (db_cons rfl (c_A_P (de_varA 0 rfl)) (db_cons rfl (c_A_P (de_varA 1 rfl)) (db_cons rfl (c_A_P (de_varA 2 rfl)) (db_cons rfl (c_FC_P (de_int)) (db_nil))))))))) (db_nil))))))
    (dss_cons (ds_setA (i := 6) rfl sc.nd rfl (by first | exact Or.inl rfl | exact Or.inr rfl) (c_C_A (de_call h_law_part hr (db_cons rfl (c_A_P (de_varA 0 rfl)) (db_cons rfl (c_A_P (de_varA 1 rfl)) (db_cons rfl (c_FC_P (de_op op_add b_add (c_A_P (de_varA 2 rfl)) (c_FC_P (de_int)))) (db_cons rfl (c_A_P (de_ix (c_A_B (c_FC_A (de_lstC (db_cons rfl (c_FC_C (de_int)) (db_cons rfl (c_FC_C (de_int)) (db_cons rfl (c_FC_C (de_int)) (db_nil))))))) (c_C_P (de_call h_law_part hr (db_cons rfl (c_A_P (de_varA 0 rfl)) (db_cons rfl (c_A_P (de_varA 1 rfl)) (db_cons rfl (c_FC_P (de_op op_add b_add (c_A_P (de_varA 2 rfl)) (c_FC_P (de_int)))) (db_cons rfl (c_FC_P (de_int)) (db_nil))))))) (fun _ _ => rfl))) (db_nil))))))))
    (dss_one (ds_ret (de_tup rfl (db_cons rfl (c_FC_R (c_flat (c_A_P (de_varA 5 rfl)))) (db_cons rfl (c_FC_R (de_blt (call_min2 rfl) b_min2 (by rfl) B.min_ PyProof.Rows.boot_min (db_cons rfl (c_FC_P (de_int)) (db_cons rfl (c_FC_P (de_op op_add b_add (c_FC_P (de_op op_add b_add (c_A_P (de_varA 3 rfl)) (c_FC_P (de_int)))) (c_A_P (de_varA 6 rfl)))) (db_nil))))) (db_cons rfl (c_FC_R (c_flat (c_A_P (de_varA 4 rfl)))) (db_nil))))))))
theorem ok__law_full (D : Dg K mg "_law_full" (top 17) ["_law_stays_here", "_law_rooms", "_law_now_here"]) (B : Bl mg) : Has P w K mg base (n + 1) "_law_full" ["_law_stays_here", "_law_rooms", "_law_now_here"] (spD K F__law_full) := by
  have sc : FnScope ["_law_stays_here", "_law_rooms", "_law_now_here", "_law_night"] ["_law_stays_here", "_law_rooms", "_law_now_here"] (defScope (top 17)) := ⟨rfl, rfl, rfl, by decide +kernel, rfl, by decide +kernel, by decide +kernel⟩
  exact dg_ok (fl := [.A, .A, .A, .A]) D sc (by decide) (by decide) fun f cdv A outer s H E hr => dss_cons (ds_for (L := []) PassesOwn.never rfl (di_list (c_A_B (c_FC_A (de_sorted (db_cons rfl (c_F_P (de_cat (c_A_B (c_F_A (de_lstA (db_cons rfl (de_varA 2 rfl) (db_nil))))) (c_A_B (c_FC_A (de_comp (L := []) (fl' := [.A, .A]) rfl ["_law_one"] ["_law_now_here"] [2] (di_list (c_A_B (de_varA 0 rfl))) (fun _ _ _ _ _ => dg_name (i := 0) rfl (show (["_law_one", "_law_now_here"] : List Str).Nodup by decide +kernel) rfl (by first | exact Or.inl rfl | exact Or.inr rfl)) (fun _ _ _ _ _ => pts_yes) (fun _ _ _ _ _ => c_FC_C (de_blt (call_max2 rfl) b_max2 (by rfl) B.max_ PyProof.Rows.boot_max (db_cons rfl (c_A_P (de_varA 1 rfl)) (db_cons rfl (c_A_P (de_ix (c_A_B (de_varA 0 rfl)) (c_FC_P (de_int)) (fun _ _ => rfl))) (db_nil)))))))))) (db_nil)) (by rfl) B.sorted_)))) (dg_name (i := 3) rfl sc.nd rfl (by first | exact Or.inl rfl | exact Or.inr rfl)) (dss_one (ds_if (dt_cmp op_gt b_gt (c_FC_P (de_blt call_len_seq b_len (by rfl) B.len_ PySem.boot_len (db_cons rfl (c_FC_P (de_comp (L := []) (fl' := [.A, .A]) rfl ["_law_one"] ["_law_night"] [3] (di_list (c_A_B (de_varA 0 rfl))) (fun _ _ _ _ _ => dg_name (i := 0) rfl (show (["_law_one", "_law_night"] : List Str).Nodup by decide +kernel) rfl (by first | exact Or.inl rfl | exact Or.inr rfl)) (fun _ _ _ _ _ => pts_one (dt_w (dw_and (dt_cmp op_le b_le (c_A_P (de_ix (c_A_B (de_varA 0 rfl)) (c_FC_P (de_int)) (fun _ _ => rfl))) (c_A_P (de_varA 1 rfl)) (nomark _)) (dw_and1 (dt_cmp op_lt b_lt (c_A_P (de_varA 1 rfl)) (c_A_P (de_ix (c_A_B (de_varA 0 rfl)) (c_FC_P (de_int)) (fun _ _ => rfl))) (nomark _)))))) (fun _ _ _ _ _ => c_FC_C (c_flat (c_A_P (de_varA 0 rfl)))))) (db_nil)))) (c_A_P (de_varA 1 rfl)) (nomark _)) (dss_one (ds_ret (c_FC_R (c_flat (c_A_P (de_varA 3 rfl)))))) (dss_nil))))
    (dss_one (ds_ret (c_FC_R (de_non))))
theorem ok__law_now (D : Dg K mg "_law_now" (top 18) ["_law_script"]) (B : Bl mg) (h_law_part : Has P w K mg base n "_law_part" ["_law_script", "_law_at", "_law_k", "_law_many"] (spD K F__law_part)) : Has P w K mg base (n + 1) "_law_now" ["_law_script"] (spD K F__law_now) := by
  have sc : FnScope ["_law_script"] ["_law_script"] (defScope (top 18)) := ⟨rfl, rfl, rfl, by decide +kernel, rfl, by decide +kernel, by decide +kernel⟩
  exact dg_ok (fl := [.A]) D sc (by decide) (by decide) fun f cdv A outer s H E hr => dss_one (ds_ret (c_FC_R (c_flat (c_A_P (de_ix (c_A_B (c_FC_A (de_lstC (db_cons rfl (c_FC_C (de_int)) (db_cons rfl (de_call h_law_part hr (db_cons rfl (c_A_P (de_varA 0 rfl)) (db_cons rfl (c_FC_P (de_int)) (db_cons rfl (c_FC_P (de_int)) (db_cons rfl (c_FC_P (de_int)) (db_nil)))))) (db_cons rfl (de_call h_law_part hr (db_cons rfl (c_A_P (de_varA 0 rfl)) (db_cons rfl (c_FC_P (de_int)) (db_cons rfl (c_FC_P (de_int)) (db_cons rfl (c_FC_P (de_int)) (db_nil)))))) (db_cons rfl (c_FC_C (de_int)) (db_nil)))))))) (c_C_P (de_call h_law_part hr (db_cons rfl (c_A_P (de_varA 0 rfl)) (db_cons rfl (c_FC_P (de_int)) (db_cons rfl (c_FC_P (de_int)) (db_cons rfl (c_FC_P (de_int)) (db_nil))))))) (fun _ _ => rfl))))))
theorem ok__law_stays (D : Dg K mg "_law_stays" (top 19) ["_law_script", "_law_rooms", "_law_now_here", "_law_most"]) (B : Bl mg) (h_law_part : Has P w K mg base n "_law_part" ["_law_script", "_law_at", "_law_k", "_law_many"] (spD K F__law_part)) (h_law_stay : Has P w K mg base n "_law_stay" ["_law_script", "_law_at", "_law_turn", "_law_mode", "_law_now_here"] (spD K F__law_stay)) (h_law_guest : Has P w K mg base n "_law_guest" ["_law_script", "_law_at", "_law_turn", "_law_now_here", "_law_room"] (spD K F__law_guest)) (h_law_full : Has P w K mg base n "_law_full" ["_law_stays_here", "_law_rooms", "_law_now_here"] (spD K F__law_full)) : Has P w K mg base (n + 1) "_law_stays" ["_law_script", "_law_rooms", "_law_now_here", "_law_most"] (spD K F__law_stays) := by
  have sc : FnScope ["_law_script", "_law_rooms", "_law_now_here", "_law_most", "_law_mode", "_law_stays_here", "_law_room", "_law_at", "_law_wide", "_law_k", "_law_new"] ["_law_script", "_law_rooms", "_law_now_here", "_law_most"] (defScope (top 19)) := ⟨rfl, rfl, rfl, by decide +kernel, rfl, by decide +kernel, by decide +kernel⟩
  exact dg_ok (fl := [.A, .A, .A, .A, .A, .O, .A, .A, .A, .A, .A]) D sc (by decide) (by decide) fun f cdv A outer s H E hr => dss_cons (ds_setA (i := 4) rfl sc.nd rfl (by first | exact Or.inl rfl | exact Or.inr rfl) (c_C_A (de_call h_law_part hr (db_cons rfl (c_A_P (de_varA 0 rfl)) (db_cons rfl (c_FC_P (de_int)) (db_cons rfl (c_FC_P (de_int)) (db_cons rfl (c_FC_P (de_int)) (db_nil))))))))
    (dss_cons (ds_setO (i := 5) rfl sc.nd rfl (by first | exact Or.inl rfl | exact Or.inr rfl) (c_FC_F (de_lstC (db_nil))))
    (dss_cons (ds_for (L := []) PassesOwn.never rfl (di_range1 (by rfl) B.range_ (da_of (db_cons rfl (c_A_P (de_varA 1 rfl)) (db_nil)))) (dg_name (i := 6) rfl sc.nd rfl (by first | exact Or.inl rfl | exact Or.inr rfl)) (dss_one (ds_if (dt_w (dw_and (dt_cmp (op_eqD hr.units) b_eq (c_C_P (de_call h_law_part hr (db_cons rfl (c_A_P (de_varA 0 rfl)) (db_cons rfl (c_FC_P (de_int)) (db_cons rfl (c_A_P (de_varA 6 rfl)) (db_cons rfl (c_FC_P (de_int)) (db_nil))))))) (c_FC_P (de_int)) (nomark _)) (dw_and1 (dt_cmp op_lt b_lt (c_FC_P (de_blt call_len_seq b_len (by rfl) B.len_ PySem.boot_len (db_cons rfl (c_B_P (de_var 5)) (db_nil)))) (c_A_P (de_varA 3 rfl)) (nomark _))))) (dss_cons (ds_setA (i := 7) rfl sc.nd rfl (by first | exact Or.inl rfl | exact Or.inr rfl) (c_C_A (de_call h_law_part hr (db_cons rfl (c_A_P (de_varA 0 rfl)) (db_cons rfl (c_FC_P (de_int)) (db_cons rfl (c_FC_P (de_op op_add b_add (c_FC_P (de_int)) (c_A_P (de_varA 6 rfl)))) (db_cons rfl (c_FC_P (de_op op_add b_add (c_FC_P (de_blt call_len_seq b_len (by rfl) B.len_ PySem.boot_len (db_cons rfl (c_B_P (de_var 5)) (db_nil)))) (c_FC_P (de_int)))) (db_nil))))))))
    (dss_one (ds_ins (i := 5) rfl (c_A_P (de_varA 7 rfl)) (c_C_A (de_call h_law_guest hr (db_cons rfl (c_A_P (de_varA 0 rfl)) (db_cons rfl (c_FC_P (de_int)) (db_cons rfl (c_FC_P (de_op op_mulG b_mul (c_FC_P (de_int)) (c_A_P (de_varA 6 rfl)))) (db_cons rfl (c_A_P (de_varA 2 rfl)) (db_cons rfl (c_A_P (de_varA 6 rfl)) (db_nil)))))))) rfl))) (dss_nil))))
    (dss_cons (ds_setA (i := 8) rfl sc.nd rfl (by first | exact Or.inl rfl | exact Or.inr rfl) (c_FC_A (de_cmp (op_eqD hr.units) b_eq (c_C_P (de_call h_law_part hr (db_cons rfl (c_A_P (de_varA 0 rfl)) (db_cons rfl (c_FC_P (de_int)) (db_cons rfl (c_FC_P (de_int)) (db_cons rfl (c_FC_P (de_int)) (db_nil))))))) (c_FC_P (de_int)) (nomark _))))
    (dss_cons (ds_for (L := []) PassesOwn.never rfl (di_range1 (by rfl) B.range_ (da_of (db_cons rfl (c_A_P (de_ix (c_A_B (c_FC_A (de_lstC (db_cons rfl (c_FC_C (de_int)) (db_cons rfl (c_FC_C (de_int)) (db_nil)))))) (c_FC_P (de_intc (db_cons rfl (c_A_P (de_varA 8 rfl)) (db_nil)) (by rfl) B.int_)) (fun _ _ => rfl))) (db_nil)))) (dg_name (i := 9) rfl sc.nd rfl (by first | exact Or.inl rfl | exact Or.inr rfl)) (dss_cons (ds_setA (i := 10) rfl sc.nd rfl (by first | exact Or.inl rfl | exact Or.inr rfl) (c_C_A (de_call h_law_stay hr (db_cons rfl (c_A_P (de_varA 0 rfl)) (db_cons rfl (c_FC_P (de_op op_add b_add (c_FC_P (de_int)) (c_A_P (de_varA 9 rfl)))) (db_cons rfl (c_FC_P (de_int)) (db_cons rfl (c_A_P (de_varA 4 rfl)) (db_cons rfl (c_A_P (de_varA 2 rfl)) (db_nil)))))))))
    (dss_cons (ds_setA (i := 7) rfl sc.nd rfl (by first | exact Or.inl rfl | exact Or.inr rfl) (c_C_A (de_call h_law_part hr (db_cons rfl (c_A_P (de_varA 0 rfl)) (db_cons rfl (c_FC_P (de_int)) (db_cons rfl (c_A_P (de_varA 9 rfl)) (db_cons rfl (c_FC_P (de_op op_add b_add (c_FC_P (de_blt call_len_seq b_len (by rfl) B.len_ PySem.boot_len (db_cons rfl (c_B_P (de_var 5)) (db_nil)))) (c_FC_P (de_int)))) (db_nil))))))))
    (dss_one (ds_if (dt_w (dw_and (dt_cmp op_lt b_lt (c_FC_P (de_blt call_len_seq b_len (by rfl) B.len_ PySem.boot_len (db_cons rfl (c_B_P (de_var 5)) (db_nil)))) (c_A_P (de_varA 3 rfl)) (nomark _)) (dw_and1 (dt_isN (c_C_P (de_call h_law_full hr (db_cons rfl (c_F_P (de_cat (de_var 5) (c_A_B (c_F_A (de_lstA (db_cons rfl (de_varA 10 rfl) (db_nil))))))) (db_cons rfl (c_A_P (de_varA 1 rfl)) (db_cons rfl (c_A_P (de_varA 2 rfl)) (db_nil)))))))))) (dss_one (ds_ins (i := 5) rfl (c_A_P (de_varA 7 rfl)) (de_varA 10 rfl) rfl)) (dss_nil))))))
    (dss_one (ds_ret (de_varR 5 (by decide))))))))
theorem ok__law_plan (D : Dg K mg "_law_plan" (top 20) ["_law_script", "_law_at", "_law_stays_here", "_law_rooms"]) (B : Bl mg) (h_law_part : Has P w K mg base n "_law_part" ["_law_script", "_law_at", "_law_k", "_law_many"] (spD K F__law_part)) : Has P w K mg base (n + 1) "_law_plan" ["_law_script", "_law_at", "_law_stays_here", "_law_rooms"] (spD K F__law_plan) := by
  have sc : FnScope ["_law_script", "_law_at", "_law_stays_here", "_law_rooms", "_law_plan_here", "_law_first", "_law_who", "_law_busy", "_law_free"] ["_law_script", "_law_at", "_law_stays_here", "_law_rooms"] (defScope (top 20)) := ⟨rfl, rfl, rfl, by decide +kernel, rfl, by decide +kernel, by decide +kernel⟩
  exact dg_ok (fl := [.A, .A, .A, .A, .O, .A, .A, .A, .A]) D sc (by decide) (by decide) fun f cdv A outer s H E hr => dss_cons (ds_setO (i := 4) rfl sc.nd rfl (by first | exact Or.inl rfl | exact Or.inr rfl) (c_FC_F (de_comp (L := []) (fl' := [.A]) rfl ["_law_stay_here"] [] [] (di_list (c_A_B (de_varA 2 rfl))) (fun _ _ _ _ _ => dg_name (i := 0) rfl (show (["_law_stay_here"] : List Str).Nodup by decide +kernel) rfl (by first | exact Or.inl rfl | exact Or.inr rfl)) (fun _ _ _ _ _ => pts_yes) (fun _ _ _ _ _ => c_FC_C (c_flat (c_A_P (de_ix (c_A_B (de_varA 0 rfl)) (c_FC_P (de_int)) (fun _ _ => rfl))))))))
    (dss_cons (ds_for (L := []) PassesOwn.never rfl (di_list (c_A_B (c_FC_A (de_sortP (db_cons rfl (c_FC_P (de_comp (L := []) (fl' := [.A, .A]) rfl ["_law_k"] ["_law_stays_here"] [2] (di_range1 (by rfl) B.range_ (da_of (db_cons rfl (c_FC_P (de_blt call_len_seq b_len (by rfl) B.len_ PySem.boot_len (db_cons rfl (c_A_P (de_varA 2 rfl)) (db_nil)))) (db_nil)))) (fun _ _ _ _ _ => dg_name (i := 0) rfl (show (["_law_k", "_law_stays_here"] : List Str).Nodup by decide +kernel) rfl (by first | exact Or.inl rfl | exact Or.inr rfl)) (fun _ _ _ _ _ => pts_yes) (fun _ _ _ _ _ => c_FC_C (c_flat (c_A_P (de_tup rfl (db_cons rfl (de_ix (c_A_B (de_ix (c_A_B (de_varA 1 rfl)) (c_A_P (de_varA 0 rfl)) (fun _ _ => rfl))) (c_FC_P (de_int)) (fun _ _ => rfl)) (db_cons rfl (de_varA 0 rfl) (db_nil))))))))) (db_nil)) (by rfl) B.sorted_)))) (dg_tup rfl (dgs_cons (dg_name (i := 5) rfl sc.nd rfl (by first | exact Or.inl rfl | exact Or.inr rfl)) (dgs_cons (dg_name (i := 6) rfl sc.nd rfl (by first | exact Or.inl rfl | exact Or.inr rfl)) (dgs_nil)))) (dss_cons (ds_setA (i := 7) rfl sc.nd rfl (by first | exact Or.inl rfl | exact Or.inr rfl) (c_FC_A (de_comp (L := []) (fl' := [.A, .A, .A, .A]) rfl ["_law_k"] ["_law_plan_here", "_law_first", "_law_stays_here"] [4, 5, 2] (di_range1 (by rfl) B.range_ (da_of (db_cons rfl (c_FC_P (de_blt call_len_seq b_len (by rfl) B.len_ PySem.boot_len (db_cons rfl (c_A_P (de_varA 2 rfl)) (db_nil)))) (db_nil)))) (fun _ _ _ _ _ => dg_name (i := 0) rfl (show (["_law_k", "_law_plan_here", "_law_first", "_law_stays_here"] : List Str).Nodup by decide +kernel) rfl (by first | exact Or.inl rfl | exact Or.inr rfl)) (fun _ _ _ _ _ => pts_one (dt_w (dw_and (dt_cmp op_le b_le (c_A_P (de_ix (c_A_B (de_ix (c_A_B (de_varA 3 rfl)) (c_A_P (de_varA 0 rfl)) (fun _ _ => rfl))) (c_FC_P (de_int)) (fun _ _ => rfl))) (c_A_P (de_varA 2 rfl)) (nomark _)) (dw_and1 (dt_cmp op_lt b_lt (c_A_P (de_varA 2 rfl)) (c_A_P (de_ix (c_A_B (de_ix (c_A_B (de_varA 3 rfl)) (c_A_P (de_varA 0 rfl)) (fun _ _ => rfl))) (c_FC_P (de_int)) (fun _ _ => rfl))) (nomark _)))))) (fun _ _ _ _ _ => c_FC_C (c_flat (c_A_P (de_ix (c_A_B (de_varA 1 rfl)) (c_A_P (de_varA 0 rfl)) (fun _ _ => rfl))))))))
    (dss_cons (ds_setCA (i := 8) (L := []) (fl' := [.A, .A]) rfl sc.nd rfl rfl rfl ["_law_room"] ["_law_busy"] [7] (di_range1 (by rfl) B.range_ (da_of (db_cons rfl (c_A_P (de_varA 3 rfl)) (db_nil)))) (fun _ _ _ _ _ => dg_name (i := 0) rfl (show (["_law_room", "_law_busy"] : List Str).Nodup by decide +kernel) rfl (by first | exact Or.inl rfl | exact Or.inr rfl)) (fun _ _ _ _ _ => pts_one (dt_cmp (op_notinD hr.units) b_notin (c_A_P (de_varA 0 rfl)) (c_A_P (de_varA 1 rfl)) (by with_unfolding_all rfl))) (fun _ _ _ _ _ => c_FC_C (c_flat (c_A_P (de_varA 0 rfl)))))
    (dss_one (ds_if (dt_isN (c_A_P (de_ix (de_var 4) (c_A_P (de_varA 6 rfl)) (fun _ _ => rfl)))) (dss_one (ds_put (i := 4) rfl (de_ix (c_A_B (de_varA 8 rfl)) (c_C_P (de_call h_law_part hr (db_cons rfl (c_A_P (de_varA 0 rfl)) (db_cons rfl (c_A_P (de_varA 1 rfl)) (db_cons rfl (c_A_P (de_varA 6 rfl)) (db_cons rfl (c_FC_P (de_blt call_len_seq b_len (by rfl) B.len_ PySem.boot_len (db_cons rfl (c_A_P (de_varA 8 rfl)) (db_nil)))) (db_nil))))))) (fun _ _ => rfl)) (c_A_P (de_varA 6 rfl)) rfl)) (dss_nil))))))
    (dss_one (ds_ret (de_varR 4 (by decide)))))
theorem ok__law_right (D : Dg K mg "_law_right" (top 21) ["_law_plan_here", "_law_stays_here", "_law_rooms"]) (B : Bl mg) (h_law_whole : Has P w K mg base n "_law_whole" ["_law_found"] (spD K F__law_whole)) : Has P w K mg base (n + 1) "_law_right" ["_law_plan_here", "_law_stays_here", "_law_rooms"] (spD K F__law_right) := by
  have sc : FnScope ["_law_plan_here", "_law_stays_here", "_law_rooms", "_law_at", "_law_k"] ["_law_plan_here", "_law_stays_here", "_law_rooms"] (defScope (top 21)) := ⟨rfl, rfl, rfl, by decide +kernel, rfl, by decide +kernel, by decide +kernel⟩
  exact dg_ok (fl := [.A, .A, .A, .A, .A]) D sc (by decide) (by decide) fun f cdv A outer s H E hr => dss_cons (ds_if (dt_w (dw_or (dt_not (dt_val (c_FC_P (de_isi (T := "list") (by decide) (c_A_P (de_varA 0 rfl)) (by rfl) B.isinstance_ (by rfl) B.list_ PyProof.Rows.boot_list)))) (dw_or1 (dt_cmp (op_neD hr.units) b_ne (c_FC_P (de_blt call_len_seq b_len (by rfl) B.len_ PySem.boot_len (db_cons rfl (c_A_P (de_varA 0 rfl)) (db_nil)))) (c_FC_P (de_blt call_len_seq b_len (by rfl) B.len_ PySem.boot_len (db_cons rfl (c_A_P (de_varA 1 rfl)) (db_nil)))) (nomark _))))) (dss_one (ds_ret (c_FC_R (de_bl)))) (dss_nil))
    (dss_cons (ds_for (L := []) PassesOwn.never rfl (di_range1 (by rfl) B.range_ (da_of (db_cons rfl (c_FC_P (de_blt call_len_seq b_len (by rfl) B.len_ PySem.boot_len (db_cons rfl (c_A_P (de_varA 1 rfl)) (db_nil)))) (db_nil)))) (dg_name (i := 3) rfl sc.nd rfl (by first | exact Or.inl rfl | exact Or.inr rfl)) (dss_cons (ds_if (dt_w (dw_or (dt_not (dt_val (c_C_P (de_call h_law_whole hr (db_cons rfl (c_A_P (de_ix (c_A_B (de_varA 0 rfl)) (c_A_P (de_varA 3 rfl)) (fun _ _ => rfl))) (db_nil)))))) (dw_or (dt_cmp op_lt b_lt (c_A_P (de_ix (c_A_B (de_varA 0 rfl)) (c_A_P (de_varA 3 rfl)) (fun _ _ => rfl))) (c_FC_P (de_int)) (nomark _)) (dw_or1 (dt_cmp op_ge b_ge (c_A_P (de_ix (c_A_B (de_varA 0 rfl)) (c_A_P (de_varA 3 rfl)) (fun _ _ => rfl))) (c_A_P (de_varA 2 rfl)) (nomark _)))))) (dss_one (ds_ret (c_FC_R (de_bl)))) (dss_nil))
    (dss_cons (ds_if (dt_w (dw_and (dt_notN (c_A_P (de_ix (c_A_B (de_ix (c_A_B (de_varA 1 rfl)) (c_A_P (de_varA 3 rfl)) (fun _ _ => rfl))) (c_FC_P (de_int)) (fun _ _ => rfl)))) (dw_and1 (dt_cmp (op_neD hr.units) b_ne (c_A_P (de_ix (c_A_B (de_ix (c_A_B (de_varA 1 rfl)) (c_A_P (de_varA 3 rfl)) (fun _ _ => rfl))) (c_FC_P (de_int)) (fun _ _ => rfl))) (c_A_P (de_ix (c_A_B (de_varA 0 rfl)) (c_A_P (de_varA 3 rfl)) (fun _ _ => rfl))) (nomark _))))) (dss_one (ds_ret (c_FC_R (de_bl)))) (dss_nil))
    (dss_one (ds_for (L := []) PassesOwn.never rfl (di_range1 (by rfl) B.range_ (da_of (db_cons rfl (c_A_P (de_varA 3 rfl)) (db_nil)))) (dg_name (i := 4) rfl sc.nd rfl (by first | exact Or.inl rfl | exact Or.inr rfl)) (dss_one (ds_if (dt_w (dw_and (dt_cmp (op_eqD hr.units) b_eq (c_A_P (de_ix (c_A_B (de_varA 0 rfl)) (c_A_P (de_varA 4 rfl)) (fun _ _ => rfl))) (c_A_P (de_ix (c_A_B (de_varA 0 rfl)) (c_A_P (de_varA 3 rfl)) (fun _ _ => rfl))) (nomark _)) (dw_and (dt_cmp op_lt b_lt (c_A_P (de_ix (c_A_B (de_ix (c_A_B (de_varA 1 rfl)) (c_A_P (de_varA 4 rfl)) (fun _ _ => rfl))) (c_FC_P (de_int)) (fun _ _ => rfl))) (c_A_P (de_ix (c_A_B (de_ix (c_A_B (de_varA 1 rfl)) (c_A_P (de_varA 3 rfl)) (fun _ _ => rfl))) (c_FC_P (de_int)) (fun _ _ => rfl))) (nomark _)) (dw_and1 (dt_cmp op_lt b_lt (c_A_P (de_ix (c_A_B (de_ix (c_A_B (de_varA 1 rfl)) (c_A_P (de_varA 3 rfl)) (fun _ _ => rfl))) (c_FC_P (de_int)) (fun _ _ => rfl))) (c_A_P (de_ix (c_A_B (de_ix (c_A_B (de_varA 1 rfl)) (c_A_P (de_varA 4 rfl)) (fun _ _ => rfl))) (c_FC_P (de_int)) (fun _ _ => rfl))) (nomark _)))))) (dss_one (ds_ret (c_FC_R (de_bl)))) (dss_nil))))))))
    (dss_one (ds_ret (c_FC_R (de_bl)))))
theorem ok__law_due (D : Dg K mg "_law_due" (top 22) ["_law_stays_here", "_law_plan_here", "_law_now_here", "_law_row"]) (B : Bl mg) : Has P w K mg base (n + 1) "_law_due" ["_law_stays_here", "_law_plan_here", "_law_now_here", "_law_row"] (spD K F__law_due) := by
  have sc : FnScope ["_law_stays_here", "_law_plan_here", "_law_now_here", "_law_row", "_law_night", "_law_one", "_law_other", "_law_found", "_law_k", "_law_first", "_law_behind", "_law_held"] ["_law_stays_here", "_law_plan_here", "_law_now_here", "_law_row"] (defScope (top 22)) := ⟨rfl, rfl, rfl, by decide +kernel, rfl, by decide +kernel, by decide +kernel⟩
  exact dg_ok (fl := [.A, .A, .A, .A, .A, .A, .A, .O, .A, .A, .A, .A]) D sc (by decide) (by decide) fun f cdv A outer s H E hr => dss_cons (ds_asg (de_varA 3 rfl) (dg_tup rfl (dgs_cons (dg_name (i := 4) rfl sc.nd rfl (by first | exact Or.inl rfl | exact Or.inr rfl)) (dgs_cons (dg_name (i := 5) rfl sc.nd rfl (by first | exact Or.inl rfl | exact Or.inr rfl)) (dgs_cons (dg_name (i := 6) rfl sc.nd rfl (by first | exact Or.inl rfl | exact Or.inr rfl)) (dgs_nil))))))
    (dss_cons (ds_if (dt_w (dw_or (dt_cmp op_lt b_lt (c_A_P (de_varA 4 rfl)) (c_A_P (de_varA 2 rfl)) (nomark _)) (dw_or1 (dt_cmp (op_eqD hr.units) b_eq (c_A_P (de_varA 5 rfl)) (c_A_P (de_varA 6 rfl)) (nomark _))))) (dss_one (ds_ret (c_FC_R (de_non)))) (dss_nil))
    (dss_cons (ds_setO (i := 7) rfl sc.nd rfl (by first | exact Or.inl rfl | exact Or.inr rfl) (de_list (c_A_B (de_varA 1 rfl)) (by rfl) B.list_))
    (dss_cons (ds_for (L := []) PassesOwn.never rfl (di_range1 (by rfl) B.range_ (da_of (db_cons rfl (c_FC_P (de_blt call_len_seq b_len (by rfl) B.len_ PySem.boot_len (db_cons rfl (c_A_P (de_varA 0 rfl)) (db_nil)))) (db_nil)))) (dg_name (i := 8) rfl sc.nd rfl (by first | exact Or.inl rfl | exact Or.inr rfl)) (dss_cons (ds_asg (de_ix (c_A_B (de_varA 0 rfl)) (c_A_P (de_varA 8 rfl)) (fun _ _ => rfl)) (dg_tup rfl (dgs_cons (dg_name (i := 9) rfl sc.nd rfl (by first | exact Or.inl rfl | exact Or.inr rfl)) (dgs_cons (dg_name (i := 10) rfl sc.nd rfl (by first | exact Or.inl rfl | exact Or.inr rfl)) (dgs_cons (dg_name (i := 11) rfl sc.nd rfl (by first | exact Or.inl rfl | exact Or.inr rfl)) (dgs_nil))))))
    (dss_one (ds_if (dt_w (dw_or (dt_cmp (op_eqD hr.units) b_eq (c_A_P (de_ix (c_A_B (de_varA 1 rfl)) (c_A_P (de_varA 8 rfl)) (fun _ _ => rfl))) (c_A_P (de_varA 5 rfl)) (nomark _)) (dw_or1 (dt_cmp (op_eqD hr.units) b_eq (c_A_P (de_ix (c_A_B (de_varA 1 rfl)) (c_A_P (de_varA 8 rfl)) (fun _ _ => rfl))) (c_A_P (de_varA 6 rfl)) (nomark _))))) (dss_cons (ds_if (dt_w (dw_and (dt_cmp op_gt b_gt (c_A_P (de_varA 10 rfl)) (c_A_P (de_varA 4 rfl)) (nomark _)) (dw_and1 (dt_w (dw_or (dt_notN (c_A_P (de_varA 11 rfl))) (dw_or1 (dt_cmp op_lt b_lt (c_A_P (de_varA 9 rfl)) (c_A_P (de_varA 4 rfl)) (nomark _)))))))) (dss_one (ds_ret (c_FC_R (de_non)))) (dss_nil))
    (dss_one (ds_if (dt_cmp op_ge b_ge (c_A_P (de_varA 9 rfl)) (c_A_P (de_varA 4 rfl)) (nomark _)) (dss_one (ds_put (i := 7) rfl (c_FC_A (de_op op_sub b_sub (c_FC_P (de_op op_add b_add (c_A_P (de_varA 5 rfl)) (c_A_P (de_varA 6 rfl)))) (c_A_P (de_ix (c_A_B (de_varA 1 rfl)) (c_A_P (de_varA 8 rfl)) (fun _ _ => rfl))))) (c_A_P (de_varA 8 rfl)) rfl)) (dss_nil)))) (dss_nil)))))
    (dss_one (ds_ret (de_varR 7 (by decide)))))))
theorem ok__law_asked (D : Dg K mg "_law_asked" (top 23) ["_law_stays_here", "_law_plan_here", "_law_now_here", "_law_row"]) (B : Bl mg) (h_law_whole : Has P w K mg base n "_law_whole" ["_law_found"] (spD K F__law_whole)) (xexchanged : HasX P w K mg base fld n "exchanged" ["stays", "plan", "now", "night", "one", "other"] (spX K mg X_exchanged) []) (sNoExchange : SuiG K mg fld "NoExchange" "night" "InnError" "NoRoom" "NoStay" "Taken") (q_law_whole : HasQ P w K mg base n "_law_whole" ["_law_found"] (spD K F__law_whole)) (vValueError : mg "ValueError" = none) : Has P w K mg base (n + 1) "_law_asked" ["_law_stays_here", "_law_plan_here", "_law_now_here", "_law_row"] (spD K F__law_asked) := by
  have sc : FnScope ["_law_stays_here", "_law_plan_here", "_law_now_here", "_law_row", "_law_found", "e", "_law_plain"] ["_law_stays_here", "_law_plan_here", "_law_now_here", "_law_row"] (defScope (top 23)) := ⟨rfl, rfl, rfl, by decide +kernel, rfl, by decide +kernel, by decide +kernel⟩
  exact dg_ok (fl := [.A, .A, .A, .A, .O, .A, .A]) D sc (by decide) (by decide) fun f cdv A outer s H E hr => dss_cons (ds_setO (i := 4) rfl sc.nd rfl (by first | exact Or.inl rfl | exact Or.inr rfl) (c_FC_F (de_non)))
    (dss_cons (ds_tryA (i := 5) (j := 4) (cs := ["NoExchange"]) (dd := []) xexchanged (fun H => .nil) hr (db_cons rfl (c_A_P (de_varA 0 rfl)) (db_cons rfl (c_A_P (de_varA 1 rfl)) (db_cons rfl (c_A_P (de_varA 2 rfl)) (db_cons rfl (c_A_P (de_ix (c_A_B (de_varA 3 rfl)) (c_FC_P (de_int)) (fun _ _ => rfl))) (db_cons rfl (c_A_P (de_ix (c_A_B (de_varA 3 rfl)) (c_FC_P (de_int)) (fun _ _ => rfl))) (db_cons rfl (c_A_P (de_ix (c_A_B (de_varA 3 rfl)) (c_FC_P (de_int)) (fun _ _ => rfl))) (db_nil))))))) (List.forall_mem_cons.mpr ⟨(suite_x (i := 5) (j := 6) sNoExchange q_law_whole hr (fun a oa dx od => c_A_P (de_ix (c_A_B (de_varA 3 rfl)) (c_FC_P (de_int)) (fun _ _ => rfl))) B.isinstance_ B.int_ vValueError rfl rfl rfl rfl (by decide) sc.nd), List.forall_mem_nil _⟩) rfl rfl (Or.inl rfl) rfl sc.nd rfl)
    (dss_one (ds_ret (de_varR 4 (by decide)))))
theorem ok__law_told (D : Dg K mg "_law_told" (top 24) ["_law_stays_here", "_law_plan_here", "_law_rooms", "_law_now_here", "_law_row"]) (B : Bl mg) (h_law_whole : Has P w K mg base n "_law_whole" ["_law_found"] (spD K F__law_whole)) (h_law_right : Has P w K mg base n "_law_right" ["_law_plan_here", "_law_stays_here", "_law_rooms"] (spD K F__law_right)) (h_law_due : Has P w K mg base n "_law_due" ["_law_stays_here", "_law_plan_here", "_law_now_here", "_law_row"] (spD K F__law_due)) (h_law_asked : Has P w K mg base n "_law_asked" ["_law_stays_here", "_law_plan_here", "_law_now_here", "_law_row"] (spD K F__law_asked)) : Has P w K mg base (n + 1) "_law_told" ["_law_stays_here", "_law_plan_here", "_law_rooms", "_law_now_here", "_law_row"] (spD K F__law_told) := by
  have sc : FnScope ["_law_stays_here", "_law_plan_here", "_law_rooms", "_law_now_here", "_law_row", "_law_due_here", "_law_handed", "_law_found", "_law_again"] ["_law_stays_here", "_law_plan_here", "_law_rooms", "_law_now_here", "_law_row"] (defScope (top 24)) := ⟨rfl, rfl, rfl, by decide +kernel, rfl, by decide +kernel, by decide +kernel⟩
  exact dg_ok (fl := [.A, .A, .A, .A, .A, .A, .A, .O, .A]) D sc (by decide) (by decide) fun f cdv A outer s H E hr => dss_cons (ds_setA (i := 5) rfl sc.nd rfl (by first | exact Or.inl rfl | exact Or.inr rfl) (c_C_A (de_call h_law_due hr (db_cons rfl (c_A_P (de_varA 0 rfl)) (db_cons rfl (c_A_P (de_varA 1 rfl)) (db_cons rfl (c_A_P (de_varA 3 rfl)) (db_cons rfl (c_A_P (de_varA 4 rfl)) (db_nil))))))))
    (dss_cons (ds_setA (i := 6) rfl sc.nd rfl (by first | exact Or.inl rfl | exact Or.inr rfl) (c_F_A (de_lstA (db_cons rfl (c_F_A (de_list (c_A_B (de_varA 0 rfl)) (by rfl) B.list_)) (db_cons rfl (c_F_A (de_list (c_A_B (de_varA 1 rfl)) (by rfl) B.list_)) (db_nil))))))
    (dss_cons (ds_setO (i := 7) rfl sc.nd rfl (by first | exact Or.inl rfl | exact Or.inr rfl) (c_FC_F (c_Cfl1 (de_call h_law_asked hr (db_cons rfl (c_A_P (de_ix (c_A_B (de_varA 6 rfl)) (c_FC_P (de_int)) (fun _ _ => rfl))) (db_cons rfl (c_A_P (de_ix (c_A_B (de_varA 6 rfl)) (c_FC_P (de_int)) (fun _ _ => rfl))) (db_cons rfl (c_A_P (de_varA 3 rfl)) (db_cons rfl (c_A_P (de_varA 4 rfl)) (db_nil)))))))))
    (dss_cons (ds_if (dt_cmp (op_neD hr.units) b_ne (c_A_P (de_varA 6 rfl)) (c_F_P (de_lstA (db_cons rfl (de_varA 0 rfl) (db_cons rfl (de_varA 1 rfl) (db_nil))))) (nomark _)) (dss_one (ds_ret (c_FC_R (de_bl)))) (dss_nil))
    (dss_cons (ds_if (dt_isN (c_A_P (de_varA 5 rfl))) (dss_one (ds_ret (c_FC_R (de_cmp (op_eqD hr.units) b_eq (c_B_P (de_var 7)) (c_FC_P (de_str)) (nomark _))))) (dss_nil))
    (dss_cons (ds_if (dt_w (dw_or (dt_not (dt_val (c_FC_P (de_isi (T := "list") (by decide) (c_B_P (de_var 7)) (by rfl) B.isinstance_ (by rfl) B.list_ PyProof.Rows.boot_list)))) (dw_or (dt_not (dt_val (c_FC_P (de_blt (call_allL rfl) b_all (by rfl) B.all_ (show bootBuiltins "all" = some (.builtin "all") by decide +kernel) (db_cons rfl (c_FC_P (de_comp (L := [7]) (fl' := [.A]) rfl ["_law_one"] [] [] (di_list (de_var 7)) (fun _ _ _ _ _ => dg_name (i := 0) rfl (show (["_law_one"] : List Str).Nodup by decide +kernel) rfl (by first | exact Or.inl rfl | exact Or.inr rfl)) (fun _ _ _ _ _ => pts_yes) (fun _ _ _ _ _ => de_call h_law_whole hr (db_cons rfl (c_A_P (de_varA 0 rfl)) (db_nil))))) (db_nil)))))) (dw_or1 (dt_cmp (op_neD hr.units) b_ne (c_B_P (de_var 7)) (c_A_P (de_varA 5 rfl)) (nomark _)))))) (dss_one (ds_ret (c_FC_R (de_bl)))) (dss_nil))
    (dss_cons (ds_if (dt_w (dw_and (dt_cmp op_lt b_lt (c_A_P (de_ix (c_A_B (de_varA 4 rfl)) (c_FC_P (de_int)) (fun _ _ => rfl))) (c_A_P (de_varA 2 rfl)) (nomark _)) (dw_and (dt_cmp op_lt b_lt (c_A_P (de_ix (c_A_B (de_varA 4 rfl)) (c_FC_P (de_int)) (fun _ _ => rfl))) (c_A_P (de_varA 2 rfl)) (nomark _)) (dw_and1 (dt_not (dt_val (c_C_P (de_call h_law_right hr (db_cons rfl (c_B_P (de_var 7)) (db_cons rfl (c_A_P (de_varA 0 rfl)) (db_cons rfl (c_A_P (de_varA 2 rfl)) (db_nil)))))))))))) (dss_one (ds_ret (c_FC_R (de_bl)))) (dss_nil))
    (dss_cons (ds_setA (i := 8) rfl sc.nd rfl (by first | exact Or.inl rfl | exact Or.inr rfl) (c_C_A (de_call h_law_asked hr (db_cons rfl (c_A_P (de_varA 0 rfl)) (db_cons rfl (c_F_P (de_list (de_var 7) (by rfl) B.list_)) (db_cons rfl (c_A_P (de_varA 3 rfl)) (db_cons rfl (c_A_P (de_varA 4 rfl)) (db_nil))))))))
    (dss_cons (ds_clr (i := 7) rfl rfl)
    (dss_one (ds_ret (c_FC_R (de_and (c_FC_P (de_cmp (op_eqD hr.units) b_eq (c_A_P (de_varA 8 rfl)) (c_A_P (de_varA 1 rfl)) (nomark _))) (de_one (de_cmp (op_eqD hr.units) b_eq (c_A_P (de_ix (c_A_B (de_varA 6 rfl)) (c_FC_P (de_int)) (fun _ _ => rfl))) (c_A_P (de_varA 1 rfl)) (nomark _)))))))))))))))
theorem ok__law_far (D : Dg K mg "_law_far" (top 25) ["_law_way", "_law_room"]) (B : Bl mg) : Has P w K mg base (n + 1) "_law_far" ["_law_way", "_law_room"] (spD K F__law_far) := by
  have sc : FnScope ["_law_way", "_law_room"] ["_law_way", "_law_room"] (defScope (top 25)) := ⟨rfl, rfl, rfl, by decide +kernel, rfl, by decide +kernel, by decide +kernel⟩
  exact dg_ok (fl := [.A, .A]) D sc (by decide) (by decide) fun f cdv A outer s H E hr => dss_one (ds_ret (c_FC_R (c_flat (c_A_P (de_ix (c_A_B (c_F_A (de_lstA (db_cons rfl (de_varA 1 rfl) (db_cons rfl (c_FC_A (de_op op_add b_add (c_FC_P (de_op op_pow b_pow (c_FC_P (de_int)) (c_FC_P (de_int)))) (c_FC_P (de_op op_mulG b_mul (c_FC_P (de_int)) (c_A_P (de_varA 1 rfl)))))) (db_cons rfl (c_FC_A (de_op op_add b_add (c_FC_P (de_op op_mulG b_mul (c_FC_P (de_int)) (c_A_P (de_varA 1 rfl)))) (c_FC_P (de_int)))) (db_nil))))))) (c_A_P (de_varA 0 rfl)) (fun _ _ => rfl))))))
theorem ok__law_beyond (D : Dg K mg "_law_beyond" (top 26) ["_law_stays_here", "_law_way"]) (B : Bl mg) (h_law_far : Has P w K mg base n "_law_far" ["_law_way", "_law_room"] (spD K F__law_far)) : Has P w K mg base (n + 1) "_law_beyond" ["_law_stays_here", "_law_way"] (spD K F__law_beyond) := by
  have sc : FnScope ["_law_stays_here", "_law_way", "_law_found", "_law_first", "_law_behind", "_law_room"] ["_law_stays_here", "_law_way"] (defScope (top 26)) := ⟨rfl, rfl, rfl, by decide +kernel, rfl, by decide +kernel, by decide +kernel⟩
  exact dg_ok (fl := [.A, .A, .O, .A, .A, .A]) D sc (by decide) (by decide) fun f cdv A outer s H E hr => dss_cons (ds_setO (i := 2) rfl sc.nd rfl (by first | exact Or.inl rfl | exact Or.inr rfl) (c_FC_F (de_lstC (db_nil))))
    (dss_cons (ds_for (L := []) PassesOwn.never rfl (di_list (c_A_B (de_varA 0 rfl))) (dg_tup rfl (dgs_cons (dg_name (i := 3) rfl sc.nd rfl (by first | exact Or.inl rfl | exact Or.inr rfl)) (dgs_cons (dg_name (i := 4) rfl sc.nd rfl (by first | exact Or.inl rfl | exact Or.inr rfl)) (dgs_cons (dg_name (i := 5) rfl sc.nd rfl (by first | exact Or.inl rfl | exact Or.inr rfl)) (dgs_nil))))) (dss_cons (ds_if (dt_notN (c_A_P (de_varA 5 rfl))) (dss_one (ds_setA (i := 5) rfl sc.nd rfl (by first | exact Or.inl rfl | exact Or.inr rfl) (c_C_A (de_call h_law_far hr (db_cons rfl (c_A_P (de_varA 1 rfl)) (db_cons rfl (c_A_P (de_varA 5 rfl)) (db_nil))))))) (dss_nil))
    (dss_one (ds_append (i := 2) rfl (de_tup rfl (db_cons rfl (de_varA 3 rfl) (db_cons rfl (de_varA 4 rfl) (db_cons rfl (de_varA 5 rfl) (db_nil))))) rfl))))
    (dss_one (ds_ret (de_varR 2 (by decide)))))
theorem fn_law {f : Addr} {fd : FuncData} (Fn : FunD K "law" (top 27) f fd) (B : Bl mg) (h_law_part : Has P w K mg base n "_law_part" ["_law_script", "_law_at", "_law_k", "_law_many"] (spD K F__law_part)) (h_law_now : Has P w K mg base n "_law_now" ["_law_script"] (spD K F__law_now)) (h_law_stays : Has P w K mg base n "_law_stays" ["_law_script", "_law_rooms", "_law_now_here", "_law_most"] (spD K F__law_stays)) (h_law_plan : Has P w K mg base n "_law_plan" ["_law_script", "_law_at", "_law_stays_here", "_law_rooms"] (spD K F__law_plan)) (h_law_told : Has P w K mg base n "_law_told" ["_law_stays_here", "_law_plan_here", "_law_rooms", "_law_now_here", "_law_row"] (spD K F__law_told)) (h_law_far : Has P w K mg base n "_law_far" ["_law_way", "_law_room"] (spD K F__law_far)) (h_law_beyond : Has P w K mg base n "_law_beyond" ["_law_stays_here", "_law_way"] (spD K F__law_beyond)) : FnOk P w K mg base CX0 (n + 1) f fd ["_law_script"] (spD K F_law) := by
  have sc : FnScope ["_law_script", "_law_rooms", "_law_now_here", "_law_stays_here", "_law_plan_here", "_law_nights", "_law_way", "_law_further", "_law_named", "_law_turn", "_law_night", "_law_one", "_law_other"] ["_law_script"] (defScope (top 27)) := ⟨rfl, rfl, rfl, by decide +kernel, rfl, by decide +kernel, by decide +kernel⟩
  exact fun_ok (fl := [.A, .A, .A, .A, .A, .A, .A, .A, .A, .A, .A, .A, .A]) Fn sc (by decide) (by decide) fun f cdv A outer s H E hr => dss_cons (ds_setA (i := 1) rfl sc.nd rfl (by first | exact Or.inl rfl | exact Or.inr rfl) (c_FC_A (de_op op_add b_add (c_FC_P (de_int)) (c_C_P (de_call h_law_part hr (db_cons rfl (c_A_P (de_varA 0 rfl)) (db_cons rfl (c_FC_P (de_int)) (db_cons rfl (c_FC_P (de_int)) (db_cons rfl (c_A_P (de_ix (c_A_B (c_FC_A (de_lstC (db_cons rfl (c_FC_C (de_int)) (db_cons rfl (c_FC_C (de_int)) (db_nil)))))) (c_FC_P (de_intc (db_cons rfl (c_FC_P (de_cmp (op_eqD hr.units) b_eq (c_C_P (de_call h_law_part hr (db_cons rfl (c_A_P (de_varA 0 rfl)) (db_cons rfl (c_FC_P (de_int)) (db_cons rfl (c_FC_P (de_int)) (db_cons rfl (c_FC_P (de_int)) (db_nil))))))) (c_FC_P (de_int)) (nomark _))) (db_nil)) (by rfl) B.int_)) (fun _ _ => rfl))) (db_nil))))))))))
    (dss_cons (ds_setA (i := 2) rfl sc.nd rfl (by first | exact Or.inl rfl | exact Or.inr rfl) (c_C_A (de_call h_law_now hr (db_cons rfl (c_A_P (de_varA 0 rfl)) (db_nil)))))
    (dss_cons (ds_setA (i := 3) rfl sc.nd rfl (by first | exact Or.inl rfl | exact Or.inr rfl) (c_C_A (de_call h_law_stays hr (db_cons rfl (c_A_P (de_varA 0 rfl)) (db_cons rfl (c_A_P (de_varA 1 rfl)) (db_cons rfl (c_A_P (de_varA 2 rfl)) (db_cons rfl (c_FC_P (de_int)) (db_nil))))))))
    (dss_cons (ds_setA (i := 4) rfl sc.nd rfl (by first | exact Or.inl rfl | exact Or.inr rfl) (c_C_A (de_call h_law_plan hr (db_cons rfl (c_A_P (de_varA 0 rfl)) (db_cons rfl (c_FC_P (de_int)) (db_cons rfl (c_A_P (de_varA 3 rfl)) (db_cons rfl (c_A_P (de_varA 1 rfl)) (db_nil))))))))
    (dss_cons (ds_setA (i := 5) rfl sc.nd rfl (by first | exact Or.inl rfl | exact Or.inr rfl) (c_F_A (de_cat (c_A_B (c_F_A (de_cat (c_A_B (c_F_A (de_lstA (db_cons rfl (de_varA 2 rfl) (db_cons rfl (c_FC_A (de_op op_sub b_sub (c_A_P (de_varA 2 rfl)) (c_FC_P (de_int)))) (db_cons rfl (c_FC_A (de_op op_add b_add (c_A_P (de_varA 2 rfl)) (c_FC_P (de_int)))) (db_cons rfl (c_FC_A (de_int)) (db_cons rfl (c_FC_A (de_int)) (db_nil))))))))) (c_A_B (c_FC_A (de_comp (L := []) (fl' := [.A]) rfl ["_law_stay_here"] [] [] (di_list (c_A_B (de_varA 3 rfl))) (fun _ _ _ _ _ => dg_name (i := 0) rfl (show (["_law_stay_here"] : List Str).Nodup by decide +kernel) rfl (by first | exact Or.inl rfl | exact Or.inr rfl)) (fun _ _ _ _ _ => pts_yes) (fun _ _ _ _ _ => c_FC_C (c_flat (c_A_P (de_ix (c_A_B (de_varA 0 rfl)) (c_FC_P (de_int)) (fun _ _ => rfl))))))))))) (c_A_B (c_FC_A (de_comp (L := []) (fl' := [.A]) rfl ["_law_stay_here"] [] [] (di_list (c_A_B (de_varA 3 rfl))) (fun _ _ _ _ _ => dg_name (i := 0) rfl (show (["_law_stay_here"] : List Str).Nodup by decide +kernel) rfl (by first | exact Or.inl rfl | exact Or.inr rfl)) (fun _ _ _ _ _ => pts_yes) (fun _ _ _ _ _ => c_FC_C (c_flat (c_A_P (de_ix (c_A_B (de_varA 0 rfl)) (c_FC_P (de_int)) (fun _ _ => rfl)))))))))))
    (dss_cons (ds_setA (i := 6) rfl sc.nd rfl (by first | exact Or.inl rfl | exact Or.inr rfl) (c_C_A (de_call h_law_part hr (db_cons rfl (c_A_P (de_varA 0 rfl)) (db_cons rfl (c_FC_P (de_int)) (db_cons rfl (c_FC_P (de_int)) (db_cons rfl (c_FC_P (de_int)) (db_nil))))))))
    (dss_cons (ds_setA (i := 7) rfl sc.nd rfl (by first | exact Or.inl rfl | exact Or.inr rfl) (c_C_A (de_call h_law_beyond hr (db_cons rfl (c_A_P (de_varA 3 rfl)) (db_cons rfl (c_A_P (de_varA 6 rfl)) (db_nil))))))
    (dss_cons (ds_setCA (i := 8) (L := []) (fl' := [.A, .A]) rfl sc.nd rfl rfl rfl ["_law_room"] ["_law_way"] [6] (di_list (c_A_B (de_varA 4 rfl))) (fun _ _ _ _ _ => dg_name (i := 0) rfl (show (["_law_room", "_law_way"] : List Str).Nodup by decide +kernel) rfl (by first | exact Or.inl rfl | exact Or.inr rfl)) (fun _ _ _ _ _ => pts_yes) (fun _ _ _ _ _ => de_call h_law_far hr (db_cons rfl (c_A_P (de_varA 1 rfl)) (db_cons rfl (c_A_P (de_varA 0 rfl)) (db_nil)))))
    (dss_cons (ds_for (L := []) PassesOwn.never rfl (di_range1 (by rfl) B.range_ (da_of (db_cons rfl (c_FC_P (de_int)) (db_nil)))) (dg_name (i := 9) rfl sc.nd rfl (by first | exact Or.inl rfl | exact Or.inr rfl)) (dss_cons (ds_setA (i := 10) rfl sc.nd rfl (by first | exact Or.inl rfl | exact Or.inr rfl) (de_ix (c_A_B (de_varA 5 rfl)) (c_C_P (de_call h_law_part hr (db_cons rfl (c_A_P (de_varA 0 rfl)) (db_cons rfl (c_FC_P (de_int)) (db_cons rfl (c_FC_P (de_op op_mulG b_mul (c_FC_P (de_int)) (c_A_P (de_varA 9 rfl)))) (db_cons rfl (c_FC_P (de_blt call_len_seq b_len (by rfl) B.len_ PySem.boot_len (db_cons rfl (c_A_P (de_varA 5 rfl)) (db_nil)))) (db_nil))))))) (fun _ _ => rfl)))
    (dss_cons (ds_if (dt_cmp (op_eqD hr.units) b_eq (c_C_P (de_call h_law_part hr (db_cons rfl (c_A_P (de_varA 0 rfl)) (db_cons rfl (c_FC_P (de_int)) (db_cons rfl (c_FC_P (de_op op_add b_add (c_FC_P (de_op op_mulG b_mul (c_FC_P (de_int)) (c_A_P (de_varA 9 rfl)))) (c_FC_P (de_int)))) (db_cons rfl (c_FC_P (de_int)) (db_nil))))))) (c_FC_P (de_int)) (nomark _)) (dss_one (ds_setA (i := 10) rfl sc.nd rfl (by first | exact Or.inl rfl | exact Or.inr rfl) (c_FC_A (de_op op_sub b_sub (c_C_P (de_call h_law_part hr (db_cons rfl (c_A_P (de_varA 0 rfl)) (db_cons rfl (c_FC_P (de_int)) (db_cons rfl (c_FC_P (de_op op_add b_add (c_FC_P (de_op op_mulG b_mul (c_FC_P (de_int)) (c_A_P (de_varA 9 rfl)))) (c_FC_P (de_int)))) (db_cons rfl (c_FC_P (de_int)) (db_nil))))))) (c_FC_P (de_int)))))) (dss_nil))
    (dss_cons (ds_setA (i := 11) rfl sc.nd rfl (by first | exact Or.inl rfl | exact Or.inr rfl) (c_C_A (de_call h_law_part hr (db_cons rfl (c_A_P (de_varA 0 rfl)) (db_cons rfl (c_FC_P (de_int)) (db_cons rfl (c_FC_P (de_op op_mulG b_mul (c_FC_P (de_int)) (c_A_P (de_varA 9 rfl)))) (db_cons rfl (c_A_P (de_varA 1 rfl)) (db_nil))))))))
    (dss_cons (ds_setA (i := 12) rfl sc.nd rfl (by first | exact Or.inl rfl | exact Or.inr rfl) (c_C_A (de_call h_law_part hr (db_cons rfl (c_A_P (de_varA 0 rfl)) (db_cons rfl (c_FC_P (de_int)) (db_cons rfl (c_FC_P (de_op op_add b_add (c_FC_P (de_op op_mulG b_mul (c_FC_P (de_int)) (c_A_P (de_varA 9 rfl)))) (c_FC_P (de_int)))) (db_cons rfl (c_FC_P (de_op op_add b_add (c_A_P (de_varA 1 rfl)) (c_FC_P (de_int)))) (db_nil))))))))
    (dss_cons (ds_if (dt_not (dt_val (c_C_P (de_call h_law_told hr (db_cons rfl (c_A_P (de_varA 3 rfl)) (db_cons rfl (c_A_P (de_varA 4 rfl)) (db_cons rfl (c_A_P (de_varA 1 rfl)) (db_cons rfl (c_A_P (de_varA 2 rfl)) (db_cons rfl (c_A_P (de_tup rfl (db_cons rfl (de_varA 10 rfl) (db_cons rfl (de_varA 11 rfl) (db_cons rfl (de_varA 12 rfl) (db_nil)))))) (db_nil)))))))))) (dss_one (ds_ret (c_FC_R (de_bl)))) (dss_nil))
    (dss_one (ds_if (dt_not (dt_val (c_C_P (de_call h_law_told hr (db_cons rfl (c_A_P (de_varA 7 rfl)) (db_cons rfl (c_A_P (de_varA 8 rfl)) (db_cons rfl (c_FC_P (de_int)) (db_cons rfl (c_A_P (de_varA 2 rfl)) (db_cons rfl (c_A_P (de_tup rfl (db_cons rfl (de_varA 10 rfl) (db_cons rfl (c_C_A (de_call h_law_far hr (db_cons rfl (c_A_P (de_varA 6 rfl)) (db_cons rfl (c_A_P (de_varA 11 rfl)) (db_nil))))) (db_cons rfl (c_C_A (de_call h_law_far hr (db_cons rfl (c_A_P (de_varA 6 rfl)) (db_cons rfl (c_A_P (de_varA 12 rfl)) (db_nil))))) (db_nil)))))) (db_nil)))))))))) (dss_one (ds_ret (c_FC_R (de_bl)))) (dss_nil)))))))))
    (dss_cons (ds_if (dt_not (dt_val (c_C_P (de_call h_law_told hr (db_cons rfl (c_FC_P (de_lstC (db_nil))) (db_cons rfl (c_FC_P (de_lstC (db_nil))) (db_cons rfl (c_A_P (de_varA 1 rfl)) (db_cons rfl (c_A_P (de_varA 2 rfl)) (db_cons rfl (c_A_P (de_tup rfl (db_cons rfl (de_varA 2 rfl) (db_cons rfl (c_FC_A (de_int)) (db_cons rfl (c_FC_A (de_int)) (db_nil)))))) (db_nil)))))))))) (dss_one (ds_ret (c_FC_R (de_bl)))) (dss_nil))
    (dss_one (ds_ret (c_C_R (de_and (c_C_P (de_call h_law_told hr (db_cons rfl (c_A_P (de_varA 3 rfl)) (db_cons rfl (c_A_P (de_varA 4 rfl)) (db_cons rfl (c_A_P (de_varA 1 rfl)) (db_cons rfl (c_A_P (de_varA 2 rfl)) (db_cons rfl (c_A_P (de_tup rfl (db_cons rfl (de_varA 2 rfl) (db_cons rfl (c_FC_A (de_int)) (db_cons rfl (c_FC_A (de_int)) (db_nil)))))) (db_nil)))))))) (de_one (de_call h_law_told hr (db_cons rfl (c_A_P (de_varA 3 rfl)) (db_cons rfl (c_A_P (de_varA 4 rfl)) (db_cons rfl (c_A_P (de_varA 1 rfl)) (db_cons rfl (c_A_P (de_varA 2 rfl)) (db_cons rfl (c_A_P (de_tup rfl (db_cons rfl (c_FC_A (de_int)) (db_cons rfl (de_varA 1 rfl) (db_cons rfl (c_FC_A (de_int)) (db_nil)))))) (db_nil)))))))))))))))))))))
end
end K45
namespace K45
open PySem L2 My D3
structure Txt (K : PySem.W.Frag) (mg : Str → Option Value) : Prop where
  d_hinders : Dg K mg "hinders" (top 7) ["stay", "night"]
  d_check_exchange : Dg K mg "check_exchange" (top 8) ["stays", "plan", "now", "night", "one", "other"]
  d_room_behind : Dg K mg "room_behind" (top 9) ["stay", "room", "night", "one", "other"]
  d_exchanged : Dg K mg "exchanged" (top 10) ["stays", "plan", "now", "night", "one", "other"]
  d__law_cell : Dg K mg "_law_cell" (top 12) ["_law_script", "_law_at"]
  d__law_part : Dg K mg "_law_part" (top 13) ["_law_script", "_law_at", "_law_k", "_law_many"]
  d__law_whole : Dg K mg "_law_whole" (top 14) ["_law_found"]
  d__law_stay : Dg K mg "_law_stay" (top 15) ["_law_script", "_law_at", "_law_turn", "_law_mode", "_law_now_here"]
  d__law_guest : Dg K mg "_law_guest" (top 16) ["_law_script", "_law_at", "_law_turn", "_law_now_here", "_law_room"]
  d__law_full : Dg K mg "_law_full" (top 17) ["_law_stays_here", "_law_rooms", "_law_now_here"]
  d__law_now : Dg K mg "_law_now" (top 18) ["_law_script"]
  d__law_stays : Dg K mg "_law_stays" (top 19) ["_law_script", "_law_rooms", "_law_now_here", "_law_most"]
  d__law_plan : Dg K mg "_law_plan" (top 20) ["_law_script", "_law_at", "_law_stays_here", "_law_rooms"]
  d__law_right : Dg K mg "_law_right" (top 21) ["_law_plan_here", "_law_stays_here", "_law_rooms"]
  d__law_due : Dg K mg "_law_due" (top 22) ["_law_stays_here", "_law_plan_here", "_law_now_here", "_law_row"]
  d__law_asked : Dg K mg "_law_asked" (top 23) ["_law_stays_here", "_law_plan_here", "_law_now_here", "_law_row"]
  d__law_told : Dg K mg "_law_told" (top 24) ["_law_stays_here", "_law_plan_here", "_law_rooms", "_law_now_here", "_law_row"]
  d__law_far : Dg K mg "_law_far" (top 25) ["_law_way", "_law_room"]
  d__law_beyond : Dg K mg "_law_beyond" (top 26) ["_law_stays_here", "_law_way"]
  d_law : Dl K mg "law" "_law_script" (top 27)
  z_NoExchange : XC.ExcG K mg (fun _ => "night") "NoExchange" "night" "InnError"
  s_NoExchange : XC.SuiG K mg (fun _ => "night") "NoExchange" "night" "InnError" "NoRoom" "NoStay" "Taken"
  v_ValueError : mg "ValueError" = none
  blt : Bl mg
theorem law_fn {P : Program} {w : World} {K : PySem.W.Frag} {mg : Str → Option Value} {base : Heap} (T : Txt K mg) {f : Addr} {fd : FuncData} (F : FunD K "law" (top 27) f fd) : FnOk P w K mg base CX0 65 f fd ["_law_script"] (spLaw K) := by
  have h_hinders := ok_hinders (P := P) (w := w) (base := base) (n := 0) T.d_hinders T.blt
  have h_room_behind := ok_room_behind (P := P) (w := w) (base := base) (n := 0) T.d_room_behind T.blt
  have h__law_cell := ok__law_cell (P := P) (w := w) (base := base) (n := 0) T.d__law_cell T.blt
  have h__law_whole := ok__law_whole (P := P) (w := w) (base := base) (n := 0) T.d__law_whole T.blt
  have h__law_full := ok__law_full (P := P) (w := w) (base := base) (n := 0) T.d__law_full T.blt
  have h__law_due := ok__law_due (P := P) (w := w) (base := base) (n := 0) T.d__law_due T.blt
  have h__law_far := ok__law_far (P := P) (w := w) (base := base) (n := 0) T.d__law_far T.blt
  have h__law_part := ok__law_part (P := P) (w := w) (base := base) (n := 1) T.d__law_part T.blt (h__law_cell.mono (by decide))
  have h__law_right := ok__law_right (P := P) (w := w) (base := base) (n := 1) T.d__law_right T.blt (h__law_whole.mono (by decide))
  have h__law_beyond := ok__law_beyond (P := P) (w := w) (base := base) (n := 1) T.d__law_beyond T.blt (h__law_far.mono (by decide))
  have x_check_exchange := okX_check_exchange (P := P) (w := w) (base := base) (fld := (fun _ => "night")) (n := 0) T.d_check_exchange T.blt (h_hinders.mono (by decide)) T.z_NoExchange
  have h__law_stay := ok__law_stay (P := P) (w := w) (base := base) (n := 2) T.d__law_stay T.blt (h__law_part.mono (by decide))
  have h__law_guest := ok__law_guest (P := P) (w := w) (base := base) (n := 2) T.d__law_guest T.blt (h__law_part.mono (by decide))
  have h__law_now := ok__law_now (P := P) (w := w) (base := base) (n := 2) T.d__law_now T.blt (h__law_part.mono (by decide))
  have h__law_plan := ok__law_plan (P := P) (w := w) (base := base) (n := 2) T.d__law_plan T.blt (h__law_part.mono (by decide))
  have x_exchanged := okX_exchanged (P := P) (w := w) (base := base) (fld := (fun _ => "night")) (n := 1) T.d_exchanged T.blt (h_room_behind.mono (by decide)) (x_check_exchange.mono (by decide))
  have h__law_stays := ok__law_stays (P := P) (w := w) (base := base) (n := 3) T.d__law_stays T.blt (h__law_part.mono (by decide)) (h__law_stay.mono (by decide)) (h__law_guest.mono (by decide)) (h__law_full.mono (by decide))
  have h__law_asked := ok__law_asked (P := P) (w := w) (base := base) (n := 4) T.d__law_asked T.blt (h__law_whole.mono (by decide)) (x_exchanged.mono (by decide)) T.s_NoExchange (okQ__law_whole (P := P) (w := w) (base := base) (n := 3) T.d__law_whole T.blt) T.v_ValueError
  have h__law_told := ok__law_told (P := P) (w := w) (base := base) (n := 5) T.d__law_told T.blt (h__law_whole.mono (by decide)) (h__law_right.mono (by decide)) (h__law_due.mono (by decide)) (h__law_asked.mono (by decide))
  exact ((fn_law (P := P) (w := w) (base := base) (n := 6) F T.blt (h__law_part.mono (by decide)) (h__law_now.mono (by decide)) (h__law_stays.mono (by decide)) (h__law_plan.mono (by decide)) (h__law_told.mono (by decide)) (h__law_far.mono (by decide)) (h__law_beyond.mono (by decide))).mono (by decide)).imp (law_imp K45.law_true)
end K45
open PySem PySem.W PyProof.Rows
set_option maxRecDepth 100000 in
set_option maxHeartbeats 0 in
theorem PySem.Challenge.cw_nightbook_k45_exchanged_holds : PySem.Challenge.rw_nightbook_k45_exchanged.Holds := by
  w_on; o_law; k_head; (case hw => w_witness2)
  k_fill
  refine L2.walk_ofK (l := PySem.Challenge.rw_nightbook_k45_exchanged) (n := 63) (k := 65) (x := "_law_script") (CX := L2.CX0) (sp := D3.spLaw) rfl (by decide) rfl ⟨rfl, by decide, by decide⟩ (fun w h Y => PySem.W.kIn_of Y) ?F D3.tabs (fun _ _ _ => ⟨(fun _ h => nomatch (show _ ∈ ([] : List (Addr × Str × Pos)) from h)), (fun _ h => nomatch (show _ ∈ ([] : List (Addr × Str × Pos)) from h)), (fun _ h => nomatch (show _ ∈ ([] : List (Addr × Str × Pos)) from h))⟩) (fun _ h => nomatch (show _ ∈ ([] : List (Addr × Str × Pos)) from h)) ?S ?C
  case F =>
    intro w mg fa h KX G hmg
    have T : K45.Txt (L2.KOf KX) mg := by
      dsimp only [L2.KOf]
      have d_hinders : D3.Dg (L2.KOf KX) mg "hinders" (K45.top 7) ["stay", "night"] := by
        dsimp only [L2.KOf]
        refine' D3.dg_mk KX G ?b ?a ?l ?c ?k
        (case a => k_is); (case l => k_is); (case c => k_is); (case k => k_is)
        (case b => exact fun _ _ _ _ _ _ us hl => match us, hl with | [_, _], _ => rfl)
      have d_check_exchange : D3.Dg (L2.KOf KX) mg "check_exchange" (K45.top 8) ["stays", "plan", "now", "night", "one", "other"] := by
        dsimp only [L2.KOf]
        refine' D3.dg_mk KX G ?b ?a ?l ?c ?k
        (case a => k_is); (case l => k_is); (case c => k_is); (case k => k_is)
        (case b => exact fun _ _ _ _ _ _ us hl => match us, hl with | [_, _, _, _, _, _], _ => rfl)
      have d_room_behind : D3.Dg (L2.KOf KX) mg "room_behind" (K45.top 9) ["stay", "room", "night", "one", "other"] := by
        dsimp only [L2.KOf]
        refine' D3.dg_mk KX G ?b ?a ?l ?c ?k
        (case a => k_is); (case l => k_is); (case c => k_is); (case k => k_is)
        (case b => exact fun _ _ _ _ _ _ us hl => match us, hl with | [_, _, _, _, _], _ => rfl)
      have d_exchanged : D3.Dg (L2.KOf KX) mg "exchanged" (K45.top 10) ["stays", "plan", "now", "night", "one", "other"] := by
        dsimp only [L2.KOf]
        refine' D3.dg_mk KX G ?b ?a ?l ?c ?k
        (case a => k_is); (case l => k_is); (case c => k_is); (case k => k_is)
        (case b => exact fun _ _ _ _ _ _ us hl => match us, hl with | [_, _, _, _, _, _], _ => rfl)
      have d__law_cell : D3.Dg (L2.KOf KX) mg "_law_cell" (K45.top 12) ["_law_script", "_law_at"] := by
        dsimp only [L2.KOf]
        refine' D3.dg_mk KX G ?b ?a ?l ?c ?k
        (case a => k_is); (case l => k_is); (case c => k_is); (case k => k_is)
        (case b => exact fun _ _ _ _ _ _ us hl => match us, hl with | [_, _], _ => rfl)
      have d__law_part : D3.Dg (L2.KOf KX) mg "_law_part" (K45.top 13) ["_law_script", "_law_at", "_law_k", "_law_many"] := by
        dsimp only [L2.KOf]
        refine' D3.dg_mk KX G ?b ?a ?l ?c ?k
        (case a => k_is); (case l => k_is); (case c => k_is); (case k => k_is)
        (case b => exact fun _ _ _ _ _ _ us hl => match us, hl with | [_, _, _, _], _ => rfl)
      have d__law_whole : D3.Dg (L2.KOf KX) mg "_law_whole" (K45.top 14) ["_law_found"] := by
        dsimp only [L2.KOf]
        refine' D3.dg_mk KX G ?b ?a ?l ?c ?k
        (case a => k_is); (case l => k_is); (case c => k_is); (case k => k_is)
        (case b => exact fun _ _ _ _ _ _ us hl => match us, hl with | [_], _ => rfl)
      have d__law_stay : D3.Dg (L2.KOf KX) mg "_law_stay" (K45.top 15) ["_law_script", "_law_at", "_law_turn", "_law_mode", "_law_now_here"] := by
        dsimp only [L2.KOf]
        refine' D3.dg_mk KX G ?b ?a ?l ?c ?k
        (case a => k_is); (case l => k_is); (case c => k_is); (case k => k_is)
        (case b => exact fun _ _ _ _ _ _ us hl => match us, hl with | [_, _, _, _, _], _ => rfl)
      have d__law_guest : D3.Dg (L2.KOf KX) mg "_law_guest" (K45.top 16) ["_law_script", "_law_at", "_law_turn", "_law_now_here", "_law_room"] := by
        dsimp only [L2.KOf]
        refine' D3.dg_mk KX G ?b ?a ?l ?c ?k
        (case a => k_is); (case l => k_is); (case c => k_is); (case k => k_is)
        (case b => exact fun _ _ _ _ _ _ us hl => match us, hl with | [_, _, _, _, _], _ => rfl)
      have d__law_full : D3.Dg (L2.KOf KX) mg "_law_full" (K45.top 17) ["_law_stays_here", "_law_rooms", "_law_now_here"] := by
        dsimp only [L2.KOf]
        refine' D3.dg_mk KX G ?b ?a ?l ?c ?k
        (case a => k_is); (case l => k_is); (case c => k_is); (case k => k_is)
        (case b => exact fun _ _ _ _ _ _ us hl => match us, hl with | [_, _, _], _ => rfl)
      have d__law_now : D3.Dg (L2.KOf KX) mg "_law_now" (K45.top 18) ["_law_script"] := by
        dsimp only [L2.KOf]
        refine' D3.dg_mk KX G ?b ?a ?l ?c ?k
        (case a => k_is); (case l => k_is); (case c => k_is); (case k => k_is)
        (case b => exact fun _ _ _ _ _ _ us hl => match us, hl with | [_], _ => rfl)
      have d__law_stays : D3.Dg (L2.KOf KX) mg "_law_stays" (K45.top 19) ["_law_script", "_law_rooms", "_law_now_here", "_law_most"] := by
        dsimp only [L2.KOf]
        refine' D3.dg_mk KX G ?b ?a ?l ?c ?k
        (case a => k_is); (case l => k_is); (case c => k_is); (case k => k_is)
        (case b => exact fun _ _ _ _ _ _ us hl => match us, hl with | [_, _, _, _], _ => rfl)
      have d__law_plan : D3.Dg (L2.KOf KX) mg "_law_plan" (K45.top 20) ["_law_script", "_law_at", "_law_stays_here", "_law_rooms"] := by
        dsimp only [L2.KOf]
        refine' D3.dg_mk KX G ?b ?a ?l ?c ?k
        (case a => k_is); (case l => k_is); (case c => k_is); (case k => k_is)
        (case b => exact fun _ _ _ _ _ _ us hl => match us, hl with | [_, _, _, _], _ => rfl)
      have d__law_right : D3.Dg (L2.KOf KX) mg "_law_right" (K45.top 21) ["_law_plan_here", "_law_stays_here", "_law_rooms"] := by
        dsimp only [L2.KOf]
        refine' D3.dg_mk KX G ?b ?a ?l ?c ?k
        (case a => k_is); (case l => k_is); (case c => k_is); (case k => k_is)
        (case b => exact fun _ _ _ _ _ _ us hl => match us, hl with | [_, _, _], _ => rfl)
      have d__law_due : D3.Dg (L2.KOf KX) mg "_law_due" (K45.top 22) ["_law_stays_here", "_law_plan_here", "_law_now_here", "_law_row"] := by
        dsimp only [L2.KOf]
        refine' D3.dg_mk KX G ?b ?a ?l ?c ?k
        (case a => k_is); (case l => k_is); (case c => k_is); (case k => k_is)
        (case b => exact fun _ _ _ _ _ _ us hl => match us, hl with | [_, _, _, _], _ => rfl)
      have d__law_asked : D3.Dg (L2.KOf KX) mg "_law_asked" (K45.top 23) ["_law_stays_here", "_law_plan_here", "_law_now_here", "_law_row"] := by
        dsimp only [L2.KOf]
        refine' D3.dg_mk KX G ?b ?a ?l ?c ?k
        (case a => k_is); (case l => k_is); (case c => k_is); (case k => k_is)
        (case b => exact fun _ _ _ _ _ _ us hl => match us, hl with | [_, _, _, _], _ => rfl)
      have d__law_told : D3.Dg (L2.KOf KX) mg "_law_told" (K45.top 24) ["_law_stays_here", "_law_plan_here", "_law_rooms", "_law_now_here", "_law_row"] := by
        dsimp only [L2.KOf]
        refine' D3.dg_mk KX G ?b ?a ?l ?c ?k
        (case a => k_is); (case l => k_is); (case c => k_is); (case k => k_is)
        (case b => exact fun _ _ _ _ _ _ us hl => match us, hl with | [_, _, _, _, _], _ => rfl)
      have d__law_far : D3.Dg (L2.KOf KX) mg "_law_far" (K45.top 25) ["_law_way", "_law_room"] := by
        dsimp only [L2.KOf]
        refine' D3.dg_mk KX G ?b ?a ?l ?c ?k
        (case a => k_is); (case l => k_is); (case c => k_is); (case k => k_is)
        (case b => exact fun _ _ _ _ _ _ us hl => match us, hl with | [_, _], _ => rfl)
      have d__law_beyond : D3.Dg (L2.KOf KX) mg "_law_beyond" (K45.top 26) ["_law_stays_here", "_law_way"] := by
        dsimp only [L2.KOf]
        refine' D3.dg_mk KX G ?b ?a ?l ?c ?k
        (case a => k_is); (case l => k_is); (case c => k_is); (case k => k_is)
        (case b => exact fun _ _ _ _ _ _ us hl => match us, hl with | [_, _], _ => rfl)
      have d_law : D3.Dl (L2.KOf KX) mg "law" "_law_script" (K45.top 27) := by
        dsimp only [L2.KOf]
        refine' D3.dl_mk KX G ?b ?a ?l ?c ?k
        (case a => k_is); (case l => k_is); (case c => k_is); (case k => k_is)
        (case b => exact fun _ _ _ _ _ _ u => rfl)
      have s_NoExchange : XC.SuiG (L2.KOf KX) mg (fun _ => "night") "NoExchange" "night" "InnError" "NoRoom" "NoStay" "Taken" := by
        dsimp only [L2.KOf]
        refine' XC.suiG_mk (XC.exc_mk KX G ?a ?kp ?lC ?lI ?lN ?oN ?lNI ?oNI ?i1 ?i2 ?s1 ?s2 ?n1 ?n2 ?hB ?lk ?hcd ?sc ?l1 ?l2 ?hb ?ne ?nd ?nc) rfl (PySem.W.mg_of KX G ?m) ⟨⟨?e1, ?e2, ?e3⟩, ?k2, ?k3, ?k4, ?k5, ?k6⟩ ⟨⟨?e4, ?e5, ?e6⟩, ?a2, ?a3⟩ (PySem.W.mg_of KX G ?m1) (PySem.W.mg_of KX G ?m2) (PySem.W.mg_of KX G ?m3) ?ka
        (case a => k_is); (case kp => k_is); (case lC => k_is); (case lI => k_is); (case lN => k_is); (case lNI => k_is); (case oN => rfl); (case oNI => rfl)
        (case i1 => k_is); (case i2 => k_is); (case s1 => k_is); (case s2 => k_is); (case n1 => k_is); (case n2 => k_is)
        (case hB => rw [typeLookup_type, builtinLookup_eq_fast]; kernel_rfl)
        (case lk => k_is); (case hcd => k_is); (case sc => exact ⟨rfl, rfl, rfl, by decide +kernel, rfl, by decide +kernel, by decide +kernel⟩); (case l1 => rfl); (case l2 => rfl)
        (case hb => exact fun _ _ => rfl); (case ne => decide); (case nd => decide); (case nc => decide)
        (case m => k_is); (case m1 => k_is); (case m2 => k_is); (case m3 => k_is)
        (case e1 => kernel_rfl); (case e2 => kernel_rfl); (case e3 => kernel_rfl); (case e4 => kernel_rfl); (case e5 => kernel_rfl); (case e6 => kernel_rfl); (case k2 => kernel_rfl); (case k3 => kernel_rfl); (case k4 => kernel_rfl); (case k5 => kernel_rfl); (case k6 => kernel_rfl)
        (case a2 => kernel_rfl); (case a3 => kernel_rfl); (case ka => kernel_rfl)
      have z_NoExchange := XC.SuiG.up s_NoExchange
      have v_ValueError : mg "ValueError" = none := by
        refine' PySem.W.mg_none_of KX G ?z
        (case z => k_is)
      have b_len : mg "len" = none := by
        refine' PySem.W.mg_none_of KX G ?z
        (case z => k_is)
      have b_range : mg "range" = none := by
        refine' PySem.W.mg_none_of KX G ?z
        (case z => k_is)
      have b_abs : mg "abs" = none := by
        refine' PySem.W.mg_none_of KX G ?z
        (case z => k_is)
      have b_isinstance : mg "isinstance" = none := by
        refine' PySem.W.mg_none_of KX G ?z
        (case z => k_is)
      have b_int : mg "int" = none := by
        refine' PySem.W.mg_none_of KX G ?z
        (case z => k_is)
      have b_bool : mg "bool" = none := by
        refine' PySem.W.mg_none_of KX G ?z
        (case z => k_is)
      have b_tuple : mg "tuple" = none := by
        refine' PySem.W.mg_none_of KX G ?z
        (case z => k_is)
      have b_list : mg "list" = none := by
        refine' PySem.W.mg_none_of KX G ?z
        (case z => k_is)
      have b_str : mg "str" = none := by
        refine' PySem.W.mg_none_of KX G ?z
        (case z => k_is)
      have b_max : mg "max" = none := by
        refine' PySem.W.mg_none_of KX G ?z
        (case z => k_is)
      have b_min : mg "min" = none := by
        refine' PySem.W.mg_none_of KX G ?z
        (case z => k_is)
      have b_sorted : mg "sorted" = none := by
        refine' PySem.W.mg_none_of KX G ?z
        (case z => k_is)
      have b_sum : mg "sum" = none := by
        refine' PySem.W.mg_none_of KX G ?z
        (case z => k_is)
      have b_reversed : mg "reversed" = none := by
        refine' PySem.W.mg_none_of KX G ?z
        (case z => k_is)
      have b_enumerate : mg "enumerate" = none := by
        refine' PySem.W.mg_none_of KX G ?z
        (case z => k_is)
      have b_zip : mg "zip" = none := by
        refine' PySem.W.mg_none_of KX G ?z
        (case z => k_is)
      have b_set : mg "set" = none := by
        refine' PySem.W.mg_none_of KX G ?z
        (case z => k_is)
      have b_any : mg "any" = none := by
        refine' PySem.W.mg_none_of KX G ?z
        (case z => k_is)
      have b_all : mg "all" = none := by
        refine' PySem.W.mg_none_of KX G ?z
        (case z => k_is)
      have b_dict : mg "dict" = none := by
        refine' PySem.W.mg_none_of KX G ?z
        (case z => k_is)
      exact ⟨d_hinders, d_check_exchange, d_room_behind, d_exchanged, d__law_cell, d__law_part, d__law_whole, d__law_stay, d__law_guest, d__law_full, d__law_now, d__law_stays, d__law_plan, d__law_right, d__law_due, d__law_asked, d__law_told, d__law_far, d__law_beyond, d_law, z_NoExchange, s_NoExchange, v_ValueError, ⟨b_len, b_range, b_abs, b_isinstance, b_int, b_bool, b_tuple, b_list, b_str, b_max, b_min, b_sorted, b_sum, b_reversed, b_enumerate, b_zip, b_set, b_any, b_all, b_dict⟩⟩
    obtain ⟨f, fd, F, b, m⟩ := T.d_law.ex
    have e0 := hmg.symm.trans m
    cases e0
    exact ⟨fd, b, fun base kb nb => K45.law_fn T F⟩
  case S => exact fun K H a ns hl hO hS => ⟨a, ns, hO, rfl, hS, hl, fun _ => rfl⟩
  case C => exact fun _ _ _ _ z => z
