import PyProof.Rows.All
import Wide.All
import OpenK.AllK
import Wide.FinOn
import Lean
import PyProof.EqAt
import PyProof.EqKinds
import PyProof.TupleCall
import PyProof.EqLayable
import PyProof.ExcInit
import PyProof.ExcClass2
import PyProof.InstStore
import PyProof.RaisesMany
import PyProof.RulesTry
import PyProof.ExcBaseAll.ValueError
import PyProof.InstStoreFacts
import PyProof.RulesAs
import PySem.Challenge.RW_nightbook_k11_a_ratio
set_option Elab.async false
set_option linter.all false
set_option maxRecDepth 100000
set_option maxHeartbeats 4000000
set_option exponentiation.threshold 40000
namespace L2
open PySem PySem.Spec PyProof.Rows
abbrev Key := Sum Int Str
def keyIs : Key → Value → Bool
  | .inl k, v => Value.isInt k v
  | .inr x, v => Value.isStrOf x v
def keyH (w : World) : Key → Int
  | .inl k => hashInt k
  | .inr x => hashStr w x
theorem keyIs_shape : ∀ {k : Key} {v : Value}, keyIs k v = true → (∃ i t, k = Sum.inl i ∧ v = Value.int i t) ∨ (∃ x t, k = Sum.inr x ∧ v = Value.str x t)
  | .inl i, v, h => by
    obtain ⟨t, e⟩ := Value.isInt_shape (k := i) (v := v) h
    exact .inl ⟨i, t, rfl, e⟩
  | .inr x, v, h => by
    obtain ⟨t, e⟩ := Value.isStrOf_shape (x := x) (v := v) h
    exact .inr ⟨x, t, rfl, e⟩
theorem key_ll (a b : Int) : decide ((Sum.inl a : Key) = Sum.inl b) = (a == b) := by
  by_cases e : a = b
  · subst e; simp
  · have h : ¬ (Sum.inl a : Key) = Sum.inl b := fun q => e (Sum.inl.inj q)
    rw [decide_eq_false h]
    exact (beq_eq_false_iff_ne.mpr e).symm
theorem key_rr (a b : Str) : decide ((Sum.inr a : Key) = Sum.inr b) = decide (a = b) := by
  by_cases e : a = b
  · subst e; simp
  · have h : ¬ (Sum.inr a : Key) = Sum.inr b := fun q => e (Sum.inr.inj q)
    rw [decide_eq_false h, decide_eq_false e]
theorem key_lr (a : Int) (b : Str) : decide ((Sum.inl a : Key) = Sum.inr b) = false := decide_eq_false (fun q => nomatch q)
theorem key_rl (a : Str) (b : Int) : decide ((Sum.inr a : Key) = Sum.inl b) = false := decide_eq_false (fun q => nomatch q)
def mixKind (prog : Program) (w : World) : PySem.KeyKind prog w Key where
  is := keyIs
  hash := keyH w
  inj := fun v a b ha hb => by
    rcases keyIs_shape ha with ⟨i, t, rfl, rfl⟩ | ⟨x, t, rfl, rfl⟩
    · rcases keyIs_shape hb with ⟨j, u, rfl, e⟩ | ⟨y, u, rfl, e⟩
      · injection e with e1 _; rw [e1]
      · exact nomatch e
    · rcases keyIs_shape hb with ⟨j, u, rfl, e⟩ | ⟨y, u, rfl, e⟩
      · exact nomatch e
      · injection e with e1 _; rw [e1]
  byValue := fun k v h => by
    rcases keyIs_shape h with ⟨i, t, rfl, rfl⟩ | ⟨x, t, rfl, rfl⟩ <;> rfl
  pyHash := fun hv h => by
    rcases keyIs_shape hv with ⟨i, t, rfl, rfl⟩ | ⟨x, t, rfl, rfl⟩
    · exact wpAny_pyHash_int h
    · exact wpAny_pyHash_str h
  eqBool := fun hu hv h => by
    rcases keyIs_shape hu with ⟨i, t, rfl, rfl⟩ | ⟨x, t, rfl, rfl⟩
    · rcases keyIs_shape hv with ⟨j, u, rfl, rfl⟩ | ⟨y, u, rfl, rfl⟩
      · rw [key_ll] at h; exact wpAny_eqBool_int h
      · rw [key_lr] at h; exact SeqAt.EqAt.int_str i t y u _ _ _ _ h
    · rcases keyIs_shape hv with ⟨j, u, rfl, rfl⟩ | ⟨y, u, rfl, rfl⟩
      · rw [key_rl] at h; exact SeqAt.EqAt.str_int x t j u _ _ _ _ h
      · rw [key_rr] at h; exact wpAny_eqBool_str h
  «strs» := fun k x t v h => by
    rcases keyIs_shape h with ⟨i, u, rfl, e⟩ | ⟨y, u, rfl, e⟩
    · exact nomatch e
    · injection e with e1 _
      subst e1
      cases v <;> rfl
end L2
namespace L2
open PySem PySem.Spec PyProof.Rows
inductive V where
  | non | bl (b : Bool) | int (i : Int) | str (x : Str) | byt (b : Array UInt8) | flt (b : UInt64) | ref (a : Addr) | ty (n : String)
  deriving DecidableEq
def RelV : V → Value → Prop
  | .non, u => u = Value.none
  | .bl b, u => u = Value.bool b
  | .int i, u => ∃ t, u = Value.int i t
  | .str x, u => ∃ t, u = Value.str x t
  | .byt b, u => ∃ t, u = Value.bytes b t
  | .flt b, u => ∃ t, u = Value.float b t
  | .ref a, u => u = Value.ref a
  | .ty n, u => u = Value.type n
abbrev Vals : List V → List Value → Prop := Paired RelV
theorem Vals.length {xs : List V} {us : List Value} (r : Vals xs us) : xs.length = us.length := Paired.length r
theorem Vals.get : ∀ {xs : List V} {us : List Value} {i : Nat} {x : V}, Vals xs us → xs[i]? = some x → ∃ u, us[i]? = some u ∧ RelV x u
  | _, _, _, _, .nil, e => by simp at e
  | _, _, 0, _, .cons r _, e => by simp at e; subst e; exact ⟨_, rfl, r⟩
  | _, _, i + 1, x, .cons _ t, e => by
    obtain ⟨u, h1, h2⟩ := Vals.get (i := i) (x := x) t (by simpa using e)
    exact ⟨u, by simpa using h1, h2⟩
theorem Vals.set {x : V} {u : Value} (r : RelV x u) : ∀ {xs : List V} {us : List Value} (i : Nat), Vals xs us → Vals (xs.set i x) (us.set i u)
  | _, _, _, .nil => .nil
  | _, _, 0, .cons _ t => .cons r t
  | _, _, i + 1, .cons q t => .cons q (Vals.set r i t)
theorem Vals.append : ∀ {xs ys : List V} {us ws : List Value}, Vals xs us → Vals ys ws → Vals (xs ++ ys) (us ++ ws)
  | _, _, _, _, .nil, s => s
  | _, _, _, _, .cons r t, s => .cons r (Vals.append t s)
theorem Vals.take : ∀ {xs : List V} {us : List Value} (n : Nat), Vals xs us → Vals (xs.take n) (us.take n)
  | _, _, 0, _ => .nil
  | _, _, _ + 1, .nil => .nil
  | _, _, n + 1, .cons r t => .cons r (Vals.take n t)
theorem Vals.drop : ∀ {xs : List V} {us : List Value} (n : Nat), Vals xs us → Vals (xs.drop n) (us.drop n)
  | _, _, 0, r => r
  | _, _, _ + 1, .nil => .nil
  | _, _, n + 1, .cons _ t => Vals.drop n t
def RelO : Option V → Option Value → Prop
  | some v, some u => RelV v u
  | none, none => True
  | _, _ => False
def KV {κ : Type} : List (κ × V) → List (κ × Value) → Prop := Paired fun (p : κ × V) (q : κ × Value) => p.1 = q.1 ∧ RelV p.2 q.2
def kV : Key → V
  | .inl i => .int i
  | .inr x => .str x
inductive HO where
  /-- a list -/
  | lst (xs : List V)
  /-- a tuple (never changes) -/
  | tup (xs : List V)
  /-- a dict whose keys are ints and texts; one whose keys are tuples of ints and texts (the empty one is both) -/
  | dK (kvs : List (Key × V)) | dT (kvs : List (List Key × V))
  /-- a set of ints: its members, its size -/
  | set (S : Int → Bool) (n : Nat)
  /-- an instance of the class at C, its dict at dx, its attributes -/
  | ins (C dx : Addr) (fs : List (Str × V))
  /-- the dict of the instance at x -/
  | own (x : Addr)
  /-- the dict of an exception -/
  | xd (fs : List (Str × V))
  /-- a bound method, f of x -/
  | met (f x : Addr)
  /-- a range object lo, lo + 1, .. below hi -/
  | rng (lo hi : Int)
  /-- a thing that is known to the object (the script; a dict while a loop walks it): read, never written while it is so -/
  | frz (o : Obj) (u : HO)
  /-- a code object's table -/
  | tbl (ps : Array Value)
  /-- any other thing, by what is true of its one object (a def of one's own: SetO a S n := HO.ext fun h => ..) -/
  | ext (φ : Heap → Prop)
abbrev Hp := Addr → Option HO
def upd (H : Hp) (a : Addr) (o : HO) : Hp := fun b => if b = a then some o else H b
theorem upd_same {H : Hp} {a : Addr} {o : HO} : upd H a o a = some o := by unfold upd; rw [if_pos rfl]
theorem upd_ne {H : Hp} {a b : Addr} {o : HO} (h : b ≠ a) : upd H a o b = H b := by unfold upd; rw [if_neg h]
theorem ne_of {H : Hp} {a b : Addr} {o u : HO} (h : H a = some o) (h' : H b = some u) (d : o ≠ u) : a ≠ b := by
  intro e; subst e; rw [h] at h'; exact d (Option.some.inj h')
theorem ne_of_none {H : Hp} {a b : Addr} {o : HO} (h : H a = some o) (h' : H b = none) : a ≠ b := by
  intro e; subst e; rw [h] at h'; cases h'
section
variable (P : Program) (w : World)
def ObjOk (H : Hp) (h : Heap) (a : Addr) : HO → Prop
  | .lst xs => xs.length ≤ sizeLine ∧ ∃ (its : List Value) (n : Nat), Vals xs its ∧ h.get? a = some { cls := .type "list", data := .seq its.toArray n }
  | .tup xs => xs.length ≤ sizeLine ∧ ∃ its : List Value, Vals xs its ∧ IsTup h a its.toArray
  | .dK kvs => kvs.length ≤ sizeLine ∧ (a == sysModules) = false ∧ ∃ vs, KV kvs vs ∧ h.DictOf (mixKind P w) a vs
  | .dT kvs => kvs.length ≤ sizeLine ∧ (a == sysModules) = false ∧ ∃ xs : List (List Key × Addr × Value),
      Paired (fun (p : List Key × V) (q : List Key × Addr × Value) => p.1 = q.1 ∧ H q.2.1 = some (.tup (p.1.map kV)) ∧ RelV p.2 q.2.2) kvs xs ∧
      ∃ o es ep, h.get? a = some o ∧ o.ExactDict ∧ o.data = .dict es ep ∧ es.toList = xs.map (entryOfKey (tupleKind (mixKind P w))) ∧ (xs.map (·.1)).Nodup
  | .set S n => h.SetOf (intKind P w) a S n
  | .ins C dx fs => H dx = some (.own a) ∧ fs.length ≤ 1000 ∧ dx ≠ a ∧ h.get? a = some (PySem.W.instObj C dx) ∧
      ∃ mA, h.Ns1 dx mA ∧ (∀ f, RelO (fs.lookup f) (mA f)) ∧ PySem.Within mA (fs.map (·.1))
  | .own _ => ∃ o, h.get? a = some o
  | .xd fs => ∃ mA, h.Ns1 a mA ∧ ∀ f, RelO (fs.lookup f) (mA f)
  | .rng lo hi => ∃ t u v, h.get? a = some { cls := .type "range", data := .fields #[.int lo t, .int hi u, .int 1 v] }
  | .frz o u => h.get? a = some o ∧ ObjOk H h a u
  | .tbl ps => h.get? a = some { cls := .none, data := .fields ps }
  | .met f x => h.get? a = some (PySem.W.methodObj (.ref f) (.ref x))
  | .ext φ => φ h ∧ (∃ o, h.get? a = some o) ∧ ∀ h1 h2 : Heap, φ h1 → (∀ o, h1.get? a = some o → h2.get? a = some o) → φ h2
def HOk (H : Hp) (h : Heap) : Prop := ∀ a o, H a = some o → ObjOk P w H h a o
end
section
variable {P : Program} {w : World} {H H' : Hp} {h h' : Heap} {a : Addr} {o : HO}
theorem ObjOk.lt (x : ObjOk P w H h a o) : a < h.objs.size := by
  cases o with
  | lst xs => obtain ⟨_, _, _, _, e⟩ := x; exact Heap.lt_size e
  | tup xs => obtain ⟨_, _, _, p⟩ := x; exact p.lt
  | dK kvs => obtain ⟨_, _, _, _, o, _, _, e, _⟩ := x; exact Heap.lt_size e
  | dT kvs => obtain ⟨_, _, _, _, o, _, _, e, _⟩ := x; exact Heap.lt_size e
  | set S n => obtain ⟨o, _, _, _, e, _⟩ := x; exact Heap.lt_size e
  | ins C dx fs => obtain ⟨_, _, _, e, _⟩ := x; exact Heap.lt_size e
  | own y => obtain ⟨_, e⟩ := x; exact Heap.lt_size e
  | xd fs => obtain ⟨_, ⟨_, _, _, e, _⟩, _⟩ := x; exact Heap.lt_size e
  | rng lo hi => obtain ⟨_, _, _, e⟩ := x; exact Heap.lt_size e
  | frz ob u => obtain ⟨e, _⟩ := x; exact Heap.lt_size e
  | tbl ps => exact Heap.lt_size (show h.get? a = some _ from x)
  | met f y => exact Heap.lt_size (show h.get? a = some _ from x)
  | ext φ => obtain ⟨_, ⟨_, e⟩, _⟩ := x; exact Heap.lt_size e
theorem Paired.mapP {α β : Type} {F G : α → β → Prop} : ∀ {l₁ : List α} {l₂ : List β}, Paired F l₁ l₂ → (∀ a b, F a b → G a b) → Paired G l₁ l₂
  | _, _, .nil, _ => .nil
  | _, _, .cons r t, f => .cons (f _ _ r) (Paired.mapP t f)
theorem ObjOk.stay (x : ObjOk P w H h a o) (k : ∀ b u, (b = a ∨ H b = some (.own a)) → h.get? b = some u → h'.get? b = some u)
    (ho : ∀ b, H b = some (.own a) → H' b = some (.own a)) (ht : ∀ b xs, H b = some (.tup xs) → H' b = some (.tup xs)) : ObjOk P w H' h' a o := by
  induction o with
  | lst xs => obtain ⟨z, its, n, r, e⟩ := x; exact ⟨z, its, n, r, k _ _ (.inl rfl) e⟩
  | tup xs => obtain ⟨z, its, r, ob, e, c⟩ := x; exact ⟨z, its, r, ob, k _ _ (.inl rfl) e, c⟩
  | dK kvs => obtain ⟨z, y, vs, r, ob, es, ep, e, c⟩ := x; exact ⟨z, y, vs, r, ob, es, ep, k _ _ (.inl rfl) e, c⟩
  | dT kvs =>
    obtain ⟨z, y, xs, r, ob, es, ep, e, c⟩ := x
    exact ⟨z, y, xs, Paired.mapP r fun p q z => ⟨z.1, ht _ _ z.2.1, z.2.2⟩, ob, es, ep, k _ _ (.inl rfl) e, c⟩
  | set S n => obtain ⟨ob, es, ep, t, e, c⟩ := x; exact ⟨ob, es, ep, t, k _ _ (.inl rfl) e, c⟩
  | ins C dx fs =>
    obtain ⟨d, z, ne, e, mA, ⟨od, es, ep, e2, c⟩, r⟩ := x
    exact ⟨ho _ d, z, ne, k _ _ (.inl rfl) e, mA, ⟨od, es, ep, k _ _ (.inr d) e2, c⟩, r⟩
  | own y => obtain ⟨ob, e⟩ := x; exact ⟨ob, k _ _ (.inl rfl) e⟩
  | xd fs => obtain ⟨mA, ⟨od, es, ep, e, c⟩, r⟩ := x; exact ⟨mA, ⟨od, es, ep, k _ _ (.inl rfl) e, c⟩, r⟩
  | rng lo hi => obtain ⟨t, u, v, e⟩ := x; exact ⟨t, u, v, k _ _ (.inl rfl) e⟩
  | frz ob u ih => obtain ⟨e, q⟩ := x; exact ⟨k _ _ (.inl rfl) e, ih q⟩
  | tbl ps =>
    have e : h.get? a = some { cls := .none, data := .fields ps } := x
    show h'.get? a = some { cls := .none, data := .fields ps }
    exact k a _ (.inl rfl) e
  | met f y =>
    have e : h.get? a = some (PySem.W.methodObj (.ref f) (.ref y)) := x
    show h'.get? a = some (PySem.W.methodObj (.ref f) (.ref y))
    exact k a _ (.inl rfl) e
  | ext φ => obtain ⟨p, ⟨o, e⟩, st⟩ := x; exact ⟨st _ _ p fun o q => k _ _ (.inl rfl) q, ⟨o, k _ _ (.inl rfl) e⟩, st⟩
theorem HOk.lt (x : HOk P w H h) (e : H a = some o) : a < h.objs.size := (x a o e).lt
theorem HOk.fresh (x : HOk P w H h) (e : h.objs.size ≤ a) : H a = none := by
  cases q : H a with
  | none => rfl
  | some u => exact absurd (Nat.lt_of_lt_of_le (x.lt q) e) (Nat.lt_irrefl _)
theorem HOk.kept (x : HOk P w H h) (k : ∀ b u, h.get? b = some u → h'.get? b = some u) : HOk P w H h' := fun a o e =>
  (x a o e).stay (fun b u _ q => k b u q) (fun _ q => q) fun _ _ q => q
theorem HOk.laid (x : HOk P w H h) (k : ∀ b u, h.get? b = some u → h'.get? b = some u) (hp : h.objs.size ≤ a) (new : ObjOk P w (upd H a o) h' a o) : HOk P w (upd H a o) h' := fun b u e => by
  have hn := x.fresh hp
  by_cases hb : b = a
  · subst hb; rw [upd_same] at e; cases e; exact new
  · rw [upd_ne hb] at e
    exact (x b u e).stay (fun c v _ q => k c v q) (fun c q => by rw [upd_ne (ne_of_none q hn)]; exact q) fun c xs q => by rw [upd_ne (ne_of_none q hn)]; exact q
end
def Rd (H : Hp) (a : Addr) (u : HO) : Prop := H a = some u ∨ ∃ o, H a = some (.frz o u)
theorem Rd.of {H : Hp} {a : Addr} {u : HO} (h : H a = some u) : Rd H a u := .inl h
theorem Rd.ok {P : Program} {w : World} {H : Hp} {h : Heap} {a : Addr} {u : HO} (r : Rd H a u) (x : HOk P w H h) : ObjOk P w H h a u := by
  rcases r with r | ⟨o, r⟩
  · exact x a u r
  · obtain ⟨_, q⟩ := x a _ r
    exact q
def Mut : Option HO → Prop
  | some (.lst _) => True
  | some (.dK _) => True
  | some (.dT _) => True
  | some (.set _ _) => True
  | some (.ins _ _ _) => True
  | some (.ext _) => True
  | _ => False
section
variable {P : Program} {w : World} {H : Hp} {h h' : Heap} {x e : Addr} {o' : HO}
theorem HOk.write (ok : HOk P w H h) (mu : Mut (H x)) (he : e = x ∨ H e = some (.own x)) (k : ∀ b u, b ≠ e → h.get? b = some u → h'.get? b = some u) (heo : ∃ u, h'.get? e = some u)
    (new : ObjOk P w (upd H x o') h' x o') : HOk P w (upd H x o') h' := fun b u q => by
  have nown : ∀ c y, H c = some (.own y) → c ≠ x := fun c y r z => by subst z; rw [r] at mu; exact mu
  have ntup : ∀ c xs, H c = some (.tup xs) → c ≠ x := fun c xs r z => by subst z; rw [r] at mu; exact mu
  by_cases hb : b = x
  · subst hb; rw [upd_same] at q; cases q; exact new
  · rw [upd_ne hb] at q
    by_cases hbe : b = e
    · have q' : H b = some (.own x) := by
        rcases he with z | z
        · exact absurd (hbe.trans z) hb
        · rw [hbe]; exact z
      rw [q] at q'; cases q'
      obtain ⟨v, hv⟩ := heo
      exact ⟨v, by rw [hbe]; exact hv⟩
    · refine (ok b u q).stay (fun c v hc r => k c v ?_ r) (fun c r => by rw [upd_ne (nown c b r)]; exact r) fun c xs r => by rw [upd_ne (ntup c xs r)]; exact r
      rcases hc with rfl | hc
      · exact hbe
      · rintro rfl
        rcases he with z | z
        · exact nown c b hc z
        · rw [hc] at z; cases z; exact hb rfl
end
structure Un (fs ex : List Addr) (H H' : Hp) (h h' : Heap) : Prop where
  keep : ∀ b o, h.get? b = some o → H b = none → b ∉ fs → b ∉ ex → h'.get? b = some o
  slot : ∀ b o, h.get? b = some o → H b = none → b ∈ fs → b ∉ ex → ∃ sl, h'.get? b = some { o with slots := sl }
  free : ∀ b o, h.get? b = some o → H b = none → b ∉ ex → H' b = none
  there : ∀ b o, h.get? b = some o → b ∉ ex → ∃ o', h'.get? b = some o'
  tups : ∀ b xs, H b = some (.tup xs) → H' b = some (.tup xs)
  frzs : ∀ b o u, H b = some (.frz o u) → H' b = some (.frz o u)
  tbls : ∀ b ps, H b = some (.tbl ps) → ∃ more, H' b = some (.tbl (ps ++ more))
section
variable {fs fs' ex ex' : List Addr} {H H1 H2 : Hp} {h h1 h2 h' : Heap} {a x e : Addr} {o : HO}
theorem Un.any (u : Un fs ex H H1 h h1) {b : Addr} {ob : Obj} (q : h.get? b = some ob) (n : H b = none) (hx : b ∉ ex) : ∃ sl, h1.get? b = some { ob with slots := sl } := by
  by_cases hb : b ∈ fs
  · exact u.slot b ob q n hb hx
  · exact ⟨ob.slots, u.keep b ob q n hb hx⟩
theorem Un.trans (a : Un fs ex H H1 h h1) (b : Un fs ex H1 H2 h1 h2) : Un fs ex H H2 h h2 where
  keep := fun c ob q n hc hx => b.keep c ob (a.keep c ob q n hc hx) (a.free c ob q n hx) hc hx
  slot := fun c ob q n hc hx => by
    obtain ⟨sl, e1⟩ := a.slot c ob q n hc hx
    obtain ⟨sl', e2⟩ := b.slot c _ e1 (a.free c ob q n hx) hc hx
    exact ⟨sl', e2⟩
  free := fun c ob q n hx => by
    obtain ⟨o', e1⟩ := a.there c ob q hx
    exact b.free c o' e1 (a.free c ob q n hx) hx
  there := fun c ob q hx => by
    obtain ⟨o', e1⟩ := a.there c ob q hx
    exact b.there c o' e1 hx
  tups := fun c xs q => b.tups c xs (a.tups c xs q)
  frzs := fun c ob xs q => b.frzs c ob xs (a.frzs c ob xs q)
  tbls := fun c ps q => by
    obtain ⟨m1, e1⟩ := a.tbls c ps q
    obtain ⟨m2, e2⟩ := b.tbls c _ e1
    exact ⟨m1 ++ m2, by rw [e2, Array.append_assoc]⟩
theorem Un.kept (k : ∀ b u, h.get? b = some u → h'.get? b = some u) : Un fs ex H H h h' :=
  ⟨fun b ob q _ _ _ => k b ob q, fun b ob q _ _ _ => ⟨ob.slots, k b ob q⟩, fun _ _ _ n _ => n, fun b ob q _ => ⟨ob, k b ob q⟩, fun _ _ q => q, fun _ _ _ q => q, fun _ ps q => ⟨#[], by rw [q]; simp⟩⟩
theorem Un.refl : Un fs ex H H h h := Un.kept fun _ _ q => q
theorem Un.laid (k : ∀ b u, h.get? b = some u → h'.get? b = some u) (hp : h.objs.size ≤ a) (hn : H a = none) : Un fs ex H (upd H a o) h h' where
  keep := fun b u q _ _ _ => k b u q
  slot := fun b u q _ _ _ => ⟨u.slots, k b u q⟩
  free := fun b u q n _ => by rw [upd_ne (Nat.ne_of_lt (Nat.lt_of_lt_of_le (Heap.lt_size q) hp))]; exact n
  there := fun b u q _ => ⟨u, k b u q⟩
  tups := fun b xs q => by rw [upd_ne (ne_of_none q hn)]; exact q
  frzs := fun b u xs q => by rw [upd_ne (ne_of_none q hn)]; exact q
  tbls := fun b ps q => ⟨#[], by rw [upd_ne (ne_of_none q hn), q]; simp⟩
theorem Un.write (mu : Mut (H x)) (he : e = x ∨ H e = some (.own x)) (k : ∀ b u, b ≠ e → h.get? b = some u → h'.get? b = some u) (heo : ∃ u, h'.get? e = some u) : Un fs ex H (upd H x o) h h' := by
  have hx : ∀ b, H b = none → b ≠ x := fun b n z => by subst z; rw [n] at mu; exact mu
  have hb : ∀ b, H b = none → b ≠ e := fun b n z => by
    subst z
    rcases he with r | r
    · exact hx b n r
    · rw [n] at r; cases r
  have hm : ∀ b u, H b = some u → ¬ Mut (some u) → b ≠ x := fun b u q nm z => by subst z; rw [q] at mu; exact nm mu
  refine ⟨fun b u q n _ _ => k b u (hb b n) q, fun b u q n _ _ => ⟨u.slots, k b u (hb b n) q⟩, fun b u q n _ => by rw [upd_ne (hx b n)]; exact n, fun b u q _ => ?_,
    fun b xs q => by rw [upd_ne (hm b _ q fun z => z)]; exact q, fun b u xs q => by rw [upd_ne (hm b _ q fun z => z)]; exact q, fun b ps q => ⟨#[], by rw [upd_ne (hm b _ q fun z => z), q]; simp⟩⟩
  by_cases hbe : b = e
  · subst hbe; exact heo
  · exact ⟨u, k b u hbe q⟩
theorem Un.mono (u : Un fs ex H H1 h h1) (hs : ∀ b ∈ fs, b ∈ fs') (hx : ∀ b ∈ ex, b ∈ ex') : Un fs' ex' H H1 h h1 :=
  ⟨fun b ob q n hb he => u.keep b ob q n (fun z => hb (hs b z)) fun z => he (hx b z), fun _ _ q n _ he => u.any q n fun z => he (hx _ z), fun b ob q n he => u.free b ob q n fun z => he (hx b z), fun b ob q he => u.there b ob q fun z => he (hx b z), u.tups, u.frzs, u.tbls⟩
end
def trk (h : Heap) (H : Hp) : List Addr := (List.range h.objs.size).filter fun a => (H a).isSome
def hidT (h : Heap) (H : Hp) : Heap := PySem.W.hideAll h (trk h H)
theorem hidT_size (h : Heap) (H : Hp) : (hidT h H).objs.size = h.objs.size := PySem.W.hideAll_size _ _
theorem hidT_get {h : Heap} {H : Hp} {b : Addr} {o : Obj} (e : h.get? b = some o) (n : H b = none) : (hidT h H).get? b = some o :=
  PySem.W.hideAll_get _ e fun hm => by
    have q : (H b).isSome = true := (List.mem_filter.mp hm).2
    rw [n] at q; simp at q
theorem of_hidT {h : Heap} {H : Hp} {b : Addr} {o : Obj} (e : (hidT h H).get? b = some o) : h.get? b = some o ∧ H b = none := by
  have e' : h.get? b = some o := PySem.W.of_hideAll (trk h H) e
  refine ⟨e', ?_⟩
  cases q : H b with
  | none => rfl
  | some x =>
    have hm : b ∈ trk h H := List.mem_filter.mpr ⟨List.mem_range.mpr (Heap.lt_size e'), by simp [q]⟩
    have z : (hidT h H).get? b = none := PySem.W.hideAll_none (trk h H) hm
    rw [z] at e; cases e
def allNews (g h : Heap) (L : Addr) : List (Addr × Obj) := (List.range h.objs.size).filterMap fun a => if a = L ∨ (g.get? a).isSome = true then none else (h.get? a).map fun o => (a, o)
def rest (g h : Heap) (L d : Addr) : List (Addr × Obj) := (allNews g h L).filter fun p => decide (p.1 ≠ d)
end L2
namespace L2
open PySem PySem.Spec PyProof.Rows
structure Mod (K : PySem.W.Frag) (mg : Str → Option Value) (base : Heap) : Prop where
  kin : K.In base
  glob : base.Ns mainGlobals mg
  blt : ∃ mb, base.Ns builtinsNs mb ∧ ∀ x : Str, x ≠ "__name__" → mb x = bootBuiltins x
  nolimit : base.NoLimit
structure Cx where
  prog : Program
  w : World
  K : PySem.W.Frag
  mg : Str → Option Value
  base : Heap
  A : Around
  N : List Str
  s₀ : Shared
  H₀ : Hp
  env : Env
  outer : List Env
  stack : List Env
  ex : List Addr
  fn : Str → Bool
  calm : Bool
  pn : List (Addr × Obj)
  xe : Value → Shared → Prop
def frs (l : List Env) : List Addr := l.filterMap (·.frame)
abbrev Cx.fs (X : Cx) : List Addr := frs X.outer
def Vis (sc : Scope) (x : Str) : Prop := sc.names.lookup x = some .local ∨ sc.names.lookup x = some .cell ∨ sc.names.lookup x = some .free
def Loc (sc : Scope) (x : Str) : Prop := sc.names.lookup x = some .local ∨ sc.names.lookup x = some .cell
def Look (env : Env) (h : Heap) (m : Str → Option Value) (x : Str) (u : Value) : Prop :=
  (env.kindOf x = some .local ∧ m x = some u) ∨ ((env.kindOf x = some .cell ∨ env.kindOf x = some .free) ∧ ∃ c, env.cells.lookup x = some c ∧ h.IsCell c (some u))
structure Cx.Ok (X : Cx) : Prop where
  mod : Mod X.K X.mg X.base
  kind : X.env.scope.kind = .function
  glob : X.env.globals = mainGlobals
  blt : X.env.builtins = builtinsNs
  above : X.s₀.heap.objs.size ≤ X.env.locals
  inj : ∀ x y c, X.env.cells.lookup x = some c → X.env.cells.lookup y = some c → x = y
  has : ∀ x, (X.env.kindOf x = some .cell ∨ X.env.kindOf x = some .free) → ∃ c, X.env.cells.lookup x = some c
  cab : ∀ x c, X.fn x = true → X.env.cells.lookup x = some c → X.s₀.heap.objs.size ≤ c
  hd : X.calm = true → X.A.handled = none
  frames : X.A.frames = some X.stack
  stk : X.stack = X.outer ∨ (X.stack = X.env :: X.outer ∧ X.env.frame = some X.env.locals)
  exf : ∀ b ∈ X.ex, b ≠ X.env.locals ∧ ∀ x c, X.env.cells.lookup x = some c → c ≠ b
  bs : ∀ b o, X.base.get? b = some o → X.s₀.heap.get? b = some o ∧ X.H₀ b = none
  bsz : X.base.objs.size ≤ X.s₀.heap.objs.size
  noex : ∀ b o, X.base.get? b = some o → b ∉ X.ex
  exfs : ∀ b ∈ X.ex, b ∉ X.fs
  funs : X.s₀.heap.FunFrames X.base X.outer
  frf : ∀ b ∈ X.fs, X.H₀ b = none
structure Inv (X : Cx) (pins : List (Addr × Obj)) (σ : List (Option V)) (H : Hp) (s : Shared) : Prop where
  ok : X.Ok
  os : s.os = X.s₀.os
  bare : AllBare s.gens
  base : Un X.fs X.ex X.H₀ H X.s₀.heap s.heap
  loc : ∃ m, s.heap.Ns X.env.locals m ∧ ∀ (i : Nat) (x : Str) (v : V), X.N[i]? = some x → σ[i]? = some (some v) → Vis X.env.scope x → ∃ u, RelV v u ∧ Look X.env s.heap m x u
  cell : ∀ x c, X.env.cells.lookup x = some c → ∃ v, s.heap.IsCell c v
  free : H X.env.locals = none
  freeC : ∀ x c, X.env.cells.lookup x = some c → H c = none
  pin : ∀ p ∈ X.pn ++ pins, s.heap.get? p.1 = some p.2 ∧ H p.1 = none ∧ p.1 ≠ X.env.locals ∧ p.1 ∉ X.fs ∧ ∀ v, p.2.data ≠ .cell v
  hok : HOk X.prog X.w H s.heap
  len : σ.length = X.N.length
section
variable {X : Cx} {pins : List (Addr × Obj)} {σ : List (Option V)} {H H' : Hp} {s : Shared} {h' : Heap}
theorem Cx.Ok.nofr (ok : X.Ok) {b : Addr} {o : Obj} (e : X.base.get? b = some o) : b ∉ X.fs := fun hb => by
  have := (ok.funs.mem hb).1
  rw [e] at this; cases this
theorem Inv.bs (I : Inv X pins σ H s) : ∀ b o, X.base.get? b = some o → s.heap.get? b = some o ∧ H b = none := fun b o e =>
  ⟨I.base.keep b o (I.ok.bs b o e).1 (I.ok.bs b o e).2 (I.ok.nofr e) (I.ok.noex b o e), I.base.free b o (I.ok.bs b o e).1 (I.ok.bs b o e).2 (I.ok.noex b o e)⟩
theorem Inv.bk (I : Inv X pins σ H s) : ∀ b o, X.base.get? b = some o → s.heap.get? b = some o := fun b o e => (I.bs b o e).1
theorem Inv.mod (I : Inv X pins σ H s) : Mod X.K X.mg X.base := I.ok.mod
theorem Inv.kIn (I : Inv X pins σ H s) : X.K.In s.heap := I.ok.mod.kin.keeps I.bk
theorem Inv.nolimit (I : Inv X pins σ H s) : s.heap.NoLimit := I.ok.mod.nolimit.keeps I.bk
theorem Inv.fr (I : Inv X pins σ H s) : ∃ m, Fr X.base X.env.locals s.heap m :=
  let ⟨m, hn, _⟩ := I.loc
  ⟨m, hn, I.bk, Nat.le_trans I.ok.bsz I.ok.above⟩
theorem Inv.lt (I : Inv X pins σ H s) : X.env.locals < s.heap.objs.size := let ⟨_, hn, _⟩ := I.loc; hn.lt
theorem Inv.sz (I : Inv X pins σ H s) : X.s₀.heap.objs.size ≤ s.heap.objs.size := Nat.le_trans I.ok.above (Nat.le_of_lt I.lt)
theorem Inv.nofs (I : Inv X pins σ H s) {a : Addr} (h : s.heap.objs.size ≤ a) : a ∉ X.fs := fun hb => by
  obtain ⟨_, o, ho, _⟩ := I.ok.funs.mem hb
  exact absurd (Nat.lt_of_lt_of_le (Heap.lt_size ho) (Nat.le_trans I.sz h)) (Nat.lt_irrefl _)
theorem Inv.cne (I : Inv X pins σ H s) : ∀ x c, X.env.cells.lookup x = some c → c ≠ X.env.locals := fun x c e z => by
  obtain ⟨v, o, ho, hd⟩ := I.cell x c e
  obtain ⟨m, ⟨o', es, ep, ho', hd', _⟩, _⟩ := I.loc
  rw [z, ho'] at ho; cases ho; rw [hd'] at hd; cases hd
theorem Inv.funs (I : Inv X pins σ H s) : s.heap.FunFrames X.base X.outer := by
  have all : ∀ (l : List Env), (∀ b ∈ frs l, b ∈ X.fs) → X.s₀.heap.FunFrames X.base l → s.heap.FunFrames X.base l := by
    intro l
    induction l with
    | nil => intro _ _; trivial
    | cons env r ih =>
      intro hs hl
      obtain ⟨hk, ⟨L, o, hf, hn, ho, hd⟩, hr⟩ := hl
      have hL : L ∈ X.fs := hs L (by unfold frs; rw [List.filterMap_cons, hf]; exact List.mem_cons_self)
      obtain ⟨sl, e⟩ := I.base.slot L o ho (I.ok.frf L hL) hL fun z => I.ok.exfs L z hL
      exact ⟨hk, ⟨L, _, hf, hn, e, hd⟩, ih (fun b hb => hs b (by unfold frs; rw [List.filterMap_cons, hf]; exact List.mem_cons_of_mem _ hb)) hr⟩
  exact all X.outer (fun _ hb => hb) I.ok.funs
theorem Inv.stack (I : Inv X pins σ H s) : s.heap.FunFrames X.base X.stack := by
  rcases I.ok.stk with e | ⟨e, hf⟩
  · rw [e]; exact I.funs
  · rw [e]
    obtain ⟨m, hn, _⟩ := I.loc
    refine .cons (by rw [I.ok.kind]; decide) hf hn ?_ I.funs
    exact Heap.get?_none_of_le (Nat.le_trans I.ok.bsz I.ok.above)
theorem Inv.stkSub (I : Inv X pins σ H s) : ∀ b ∈ frs X.stack, b ∈ X.env.locals :: X.fs := fun b hb => by
  rcases I.ok.stk with e | ⟨e, hf⟩
  · rw [e] at hb; exact List.mem_cons_of_mem _ hb
  · rw [e] at hb
    unfold frs at hb
    rw [List.filterMap_cons, hf] at hb
    exact hb
theorem Inv.stkFree (I : Inv X pins σ H s) : ∀ b ∈ frs X.stack, H b = none := fun b hb => by
  rcases List.mem_cons.mp (I.stkSub b hb) with e | hb
  · rw [e]; exact I.free
  · obtain ⟨_, o, ho, _⟩ := I.ok.funs.mem hb
    exact I.base.free b o ho (I.ok.frf b hb) fun z => I.ok.exfs b z hb
theorem Inv.step {g' : Array GenState} {t' : Nat} {d' : Drawn} {ch : List Addr} (I : Inv X pins σ H s)
    (hch : ∀ b ∈ ch, (b ∈ X.ex ∨ X.s₀.heap.objs.size ≤ b) ∧ b ≠ X.env.locals ∧ (∀ x c, X.env.cells.lookup x = some c → c ≠ b) ∧ ∀ p ∈ X.pn ++ pins, p.1 ≠ b)
    (keep : ∀ b o, b ≠ X.env.locals → b ∉ X.fs → b ∉ ch → s.heap.get? b = some o → H b = none → h'.get? b = some o)
    (slot : ∀ b o, b ≠ X.env.locals → b ∈ X.fs → b ∉ ch → s.heap.get? b = some o → H b = none → ∃ sl, h'.get? b = some { o with slots := sl }) (free : ∀ b o, b ∉ ch → s.heap.get? b = some o → H b = none → H' b = none)
    (there : ∀ b o, b ∉ ch → s.heap.get? b = some o → ∃ o', h'.get? b = some o')
    (tups : ∀ b xs, H b = some (.tup xs) → H' b = some (.tup xs)) (frzs : ∀ b o u, H b = some (.frz o u) → H' b = some (.frz o u)) (tbls : ∀ b ps, H b = some (.tbl ps) → ∃ more, H' b = some (.tbl (ps ++ more)))
    (ns : ∀ m, s.heap.Ns X.env.locals m → h'.Ns X.env.locals m) (hok : HOk X.prog X.w H' h') (hg : AllBare g') :
    Inv X pins σ H' { s with heap := h', gens := g', drawn := d', toks := t' } := by
  have neL : ∀ b o, X.s₀.heap.get? b = some o → b ≠ X.env.locals := fun b o e => Nat.ne_of_lt (Nat.lt_of_lt_of_le (Heap.lt_size e) I.ok.above)
  have neC : ∀ b o, X.s₀.heap.get? b = some o → b ∉ X.ex → b ∉ ch := fun b o e hx hb => by
    rcases (hch b hb).1 with z | z
    · exact hx z
    · exact absurd (Nat.lt_of_lt_of_le (Heap.lt_size e) z) (Nat.lt_irrefl _)
  have cellK : ∀ x c, X.env.cells.lookup x = some c → ∀ v, s.heap.IsCell c v → h'.IsCell c v := fun x c e v ⟨o, ho, hd⟩ => by
    have nch : c ∉ ch := fun z => (hch c z).2.2.1 x c e rfl
    by_cases hc : c ∈ X.fs
    · obtain ⟨sl, q⟩ := slot c o (I.cne x c e) hc nch ho (I.freeC x c e)
      exact ⟨_, q, hd⟩
    · exact ⟨o, keep c o (I.cne x c e) hc nch ho (I.freeC x c e), hd⟩
  refine ⟨I.ok, I.os, hg, ⟨fun b o e n hb hx => ?_, fun b o e n hb hx => ?_, fun b o e n hx => ?_, fun b o e hx => ?_, fun b xs e => tups b xs (I.base.tups b xs e), fun b o xs e => frzs b o xs (I.base.frzs b o xs e), fun b ps e => ?_⟩, ?_, fun x c e => ?_, ?_, fun x c e => ?_, fun p hp => ?_, hok, I.len⟩
  · exact keep b o (neL b o e) hb (neC b o e hx) (I.base.keep b o e n hb hx) (I.base.free b o e n hx)
  · obtain ⟨sl, e1⟩ := I.base.slot b o e n hb hx
    obtain ⟨sl', e2⟩ := slot b _ (neL b o e) hb (neC b o e hx) e1 (I.base.free b o e n hx)
    exact ⟨sl', e2⟩
  · obtain ⟨o', e1⟩ := I.base.there b o e hx
    exact free b o' (neC b o e hx) e1 (I.base.free b o e n hx)
  · obtain ⟨o', e1⟩ := I.base.there b o e hx
    exact there b o' (neC b o e hx) e1
  · obtain ⟨m1, e1⟩ := I.base.tbls b ps e
    obtain ⟨m2, e2⟩ := tbls b _ e1
    exact ⟨m1 ++ m2, by rw [e2, Array.append_assoc]⟩
  · obtain ⟨m, hn, hl⟩ := I.loc
    refine ⟨m, ns m hn, fun i x v e1 e2 e3 => ?_⟩
    obtain ⟨u, r, l⟩ := hl i x v e1 e2 e3
    refine ⟨u, r, ?_⟩
    rcases l with l | ⟨k, c, e, z⟩
    · exact .inl l
    · exact .inr ⟨k, c, e, cellK x c e _ z⟩
  · obtain ⟨v, z⟩ := I.cell x c e
    exact ⟨v, cellK x c e v z⟩
  · obtain ⟨m, ⟨o, _, _, ho, _⟩, _⟩ := I.loc
    exact free _ o (fun z => (hch _ z).2.1 rfl) ho I.free
  · obtain ⟨v, o, ho, hd⟩ := I.cell x c e
    exact free c o (fun z => (hch c z).2.2.1 x c e rfl) ho (I.freeC x c e)
  · obtain ⟨e, n, ne, nf, d⟩ := I.pin p hp
    have nch : p.1 ∉ ch := fun z => (hch p.1 z).2.2.2 p hp rfl
    exact ⟨keep p.1 p.2 ne nf nch e n, free p.1 p.2 nch e n, ne, nf, d⟩
theorem Inv.un {t' : Nat} (I : Inv X pins σ H s) (u : Un X.fs [] H H' s.heap h') (hok : HOk X.prog X.w H' h') : Inv X pins σ H' { s with heap := h', toks := t' } := by
  obtain ⟨m, ⟨o, es, ep, ho, r⟩, _⟩ := id I.loc
  obtain ⟨sl, hL⟩ := u.any ho I.free (by simp)
  exact I.step (g' := s.gens) (d' := s.drawn) (ch := []) (fun _ z => nomatch z) (fun b o _ hb _ e n => u.keep b o e n hb (by simp)) (fun b o _ hb _ e n => u.slot b o e n hb (by simp)) (fun b o _ e n => u.free b o e n (by simp)) (fun b o _ e => u.there b o e (by simp)) u.tups u.frzs u.tbls (fun m' hm => by
    obtain ⟨o', es', ep', ho', r'⟩ := hm
    rw [ho] at ho'; cases ho'
    exact ⟨_, es', ep', hL, r'⟩) hok I.bare
theorem Inv.call {g' : Array GenState} {t' : Nat} {d' : Drawn} {ch : List Addr} (I : Inv X pins σ H s) (u : Un (frs X.stack) ch H H' s.heap h') (hok : HOk X.prog X.w H' h') (hg : AllBare g')
    (hch : ∀ b ∈ ch, (b ∈ X.ex ∨ X.s₀.heap.objs.size ≤ b) ∧ b ≠ X.env.locals ∧ (∀ x c, X.env.cells.lookup x = some c → c ≠ b) ∧ ∀ p ∈ X.pn ++ pins, p.1 ≠ b) :
    Inv X pins σ H' { s with heap := h', gens := g', drawn := d', toks := t' } := by
  obtain ⟨m, ⟨o, es, ep, ho, r⟩, _⟩ := id I.loc
  obtain ⟨sl, hL⟩ := u.any ho I.free fun z => (hch _ z).2.1 rfl
  exact I.step (ch := ch) hch (fun b o hL hb hc e n => u.keep b o e n (fun z => (List.mem_cons.mp (I.stkSub b z)).elim hL hb) hc) (fun b o _ _ hc e n => u.any e n hc) (fun b o hc e n => u.free b o e n hc) (fun b o hc e => u.there b o e hc) u.tups u.frzs u.tbls (fun m' hm => by
    obtain ⟨o', es', ep', ho', r'⟩ := hm
    rw [ho] at ho'; cases ho'
    exact ⟨_, es', ep', hL, r'⟩) hok hg
theorem Inv.turned {t' : Nat} {it : Addr} (I : Inv X pins σ H s) (k : ∀ b o, b ≠ it → s.heap.get? b = some o → h'.get? b = some o) (hn : H it = none) (hL : it ≠ X.env.locals)
    (h1 : it ∈ X.ex ∨ X.s₀.heap.objs.size ≤ it) (h2 : ∀ x c, X.env.cells.lookup x = some c → c ≠ it) (h3 : ∀ p ∈ X.pn ++ pins, p.1 ≠ it) : Inv X pins σ H { s with heap := h', toks := t' } := by
  have nit : ∀ b u, H b = some u → b ≠ it := fun b u e z => by rw [z, hn] at e; cases e
  refine I.step (g' := s.gens) (d' := s.drawn) (ch := [it]) (fun b hb => ?_) (fun b o _ _ hc e _ => k b o (fun z => hc (by simp [z])) e) (fun b o _ _ hc e _ => ⟨o.slots, k b o (fun z => hc (by simp [z])) e⟩) (fun _ _ _ _ n => n)
    (fun b o hc e => ⟨o, k b o (fun z => hc (by simp [z])) e⟩) (fun _ _ e => e) (fun _ _ _ e => e) (fun b ps e => ⟨#[], by rw [e]; simp⟩) (fun m hm => ?_) (fun b u e => ?_) I.bare
  · have e : b = it := by simpa using hb
    subst e
    exact ⟨h1, hL, h2, h3⟩
  · obtain ⟨o, es, ep, ho, r⟩ := hm
    exact ⟨o, es, ep, k _ o (Ne.symm hL) ho, r⟩
  · refine (I.hok b u e).stay (fun c v hc q => k c v ?_ q) (fun _ q => q) fun _ _ q => q
    rcases hc with z | z
    · rw [z]; exact nit b u e
    · exact nit c _ z
theorem Inv.tok (I : Inv X pins σ H s) (t : Nat) : Inv X pins σ H { s with toks := t } := I.un (h' := s.heap) (t' := t) Un.refl I.hok
theorem Inv.kept {t' : Nat} (I : Inv X pins σ H s) (k : ∀ b u, s.heap.get? b = some u → h'.get? b = some u) : Inv X pins σ H { s with heap := h', toks := t' } := I.un (Un.kept k) (I.hok.kept k)
theorem Inv.laid {a : Addr} {o : HO} {t' : Nat} (I : Inv X pins σ H s) (k : ∀ b u, s.heap.get? b = some u → h'.get? b = some u) (hp : s.heap.objs.size ≤ a) (new : ObjOk X.prog X.w (upd H a o) h' a o) :
    Inv X pins σ (upd H a o) { s with heap := h', toks := t' } := I.un (Un.laid k hp (I.hok.fresh hp)) (I.hok.laid k hp new)
theorem Inv.write {x e : Addr} {o : HO} {t' : Nat} (I : Inv X pins σ H s) (mu : Mut (H x)) (he : e = x ∨ H e = some (.own x)) (k : ∀ b u, b ≠ e → s.heap.get? b = some u → h'.get? b = some u) (heo : ∃ u, h'.get? e = some u)
    (new : ObjOk X.prog X.w (upd H x o) h' x o) : Inv X pins σ (upd H x o) { s with heap := h', toks := t' } := I.un (Un.write mu he k heo) (I.hok.write mu he k heo new)
theorem Inv.pins_of {pins' : List (Addr × Obj)} (I : Inv X pins σ H s) (h : ∀ p ∈ pins', s.heap.get? p.1 = some p.2 ∧ H p.1 = none ∧ p.1 ≠ X.env.locals ∧ p.1 ∉ X.fs ∧ ∀ v, p.2.data ≠ .cell v) : Inv X pins' σ H s :=
  ⟨I.ok, I.os, I.bare, I.base, I.loc, I.cell, I.free, I.freeC, fun p hp => (List.mem_append.mp hp).elim (fun z => I.pin p (List.mem_append_left _ z)) (h p), I.hok, I.len⟩
theorem nodup_ix {N : List Str} (hN : N.Nodup) {i j : Nat} {x : Str} (a : N[i]? = some x) (b : N[j]? = some x) : i = j := by
  obtain ⟨h1, e1⟩ := List.getElem?_eq_some_iff.mp a
  obtain ⟨h2, e2⟩ := List.getElem?_eq_some_iff.mp b
  exact (List.getElem_inj hN).mp (e1.trans e2.symm)
theorem store_ok2 {M : Model} {A : Around} {E : Value → Shared → Prop} {i : Nat} {x : Str} {v : V} {u : Value} {Q : Unit → Shared → Prop} (I : Inv X pins σ H s) (hN : X.N.Nodup) (hi : X.N[i]? = some x) (hx : Loc X.env.scope x) (r : RelV v u)
    (h : ∀ s', Inv X pins (σ.set i (some v)) H s' → (∃ a, Heap.SameBut a s.heap s'.heap ∧ (a = X.env.locals ∨ X.env.cells.lookup x = some a)) → Q () s') (hf : X.fn x = true ∨ X.env.scope.names.lookup x = some .local := by first | exact .inl rfl | exact .inr rfl | assumption) : wpAny M A (storeName X.env x u) Q E s := by
  obtain ⟨m, hn, hl⟩ := id I.loc
  have hcls : (X.env.scope.kind == .class || (X.env.scope.kind == .module && X.env.locals != X.env.globals)) = false := by rw [I.ok.kind]; rfl
  have hiσ : i < σ.length := by rw [I.len]; exact (List.getElem?_eq_some_iff.mp hi).1
  have cne := I.cne
  have tracked : ∀ {a : Addr} {h' : Heap}, (∃ o, s.heap.get? a = some o ∧ H a = none) → Heap.SameBut a s.heap h' → HOk X.prog X.w H h' := fun {a h'} ha hs b ob e => by
    obtain ⟨_, _, hfree⟩ := ha
    refine (I.hok b ob e).stay (fun c w' hc q => (hs.2 c ?_).trans q) (fun _ q => q) fun _ _ q => q
    rintro rfl
    rcases hc with rfl | hc
    · rw [hfree] at e; cases e
    · rw [hfree] at hc; cases hc
  rcases hx with hk | hk
  · refine wpAny_storeName_local hk hn (fun h' hn' hs => ?_) hcls
    obtain ⟨oL, _, _, hoL, _⟩ := id hn
    refine h _ ⟨I.ok, I.os, I.bare, ⟨fun b o e n hb hx => ?_, fun b o e n hb hx => ?_, I.base.free, fun b o e hx => ?_, I.base.tups, I.base.frzs, I.base.tbls⟩, ⟨_, hn', fun j y v' e1 e2 e3 => ?_⟩, fun y c e => ?_, I.free, I.freeC, fun p hp => ?_, tracked ⟨oL, hoL, I.free⟩ hs, by simpa using I.len⟩ ⟨_, hs, .inl rfl⟩
    · exact (hs.2 b (Nat.ne_of_lt (Nat.lt_of_lt_of_le (Heap.lt_size e) I.ok.above))).trans (I.base.keep b o e n hb hx)
    · obtain ⟨sl, e1⟩ := I.base.slot b o e n hb hx
      exact ⟨sl, (hs.2 b (Nat.ne_of_lt (Nat.lt_of_lt_of_le (Heap.lt_size e) I.ok.above))).trans e1⟩
    · obtain ⟨o', e1⟩ := I.base.there b o e hx
      exact ⟨o', (hs.2 b (Nat.ne_of_lt (Nat.lt_of_lt_of_le (Heap.lt_size e) I.ok.above))).trans e1⟩
    · by_cases hj : j = i
      · subst hj
        rw [hi] at e1; cases e1
        rw [List.getElem?_set_self hiσ] at e2
        cases e2
        exact ⟨u, r, .inl ⟨hk, by simp⟩⟩
      · rw [List.getElem?_set_ne (Ne.symm hj)] at e2
        obtain ⟨u', r', q⟩ := hl j y v' e1 e2 e3
        refine ⟨u', r', ?_⟩
        rcases q with ⟨k, e⟩ | ⟨k, c, e, z⟩
        · refine .inl ⟨k, ?_⟩
          have : y ≠ x := fun e => hj (nodup_ix hN e1 (e ▸ hi))
          simp [this, e]
        · exact .inr ⟨k, c, e, z.sameBut hs (cne y c e)⟩
    · obtain ⟨w', z⟩ := I.cell y c e
      exact ⟨w', z.sameBut hs (cne y c e)⟩
    · obtain ⟨e, n, ne, nf, d⟩ := I.pin p hp
      exact ⟨(hs.2 p.1 ne).trans e, n, ne, nf, d⟩
  · have hfn : X.fn x = true := by
      rcases hf with z | z
      · exact z
      · rw [z] at hk; cases hk
    obtain ⟨c, hc⟩ := I.ok.has x (.inl hk)
    obtain ⟨w', z⟩ := I.cell x c hc
    refine wpAny_storeName_cell I.ok.kind hk hc z (fun h' hc' hs => ?_)
    obtain ⟨oc, hoc, hocd⟩ := id z
    refine h { s with heap := h' } ⟨I.ok, I.os, I.bare, ⟨fun b o e n hb hx => ?_, fun b o e n hb hx => ?_, I.base.free, fun b o e hx => ?_, I.base.tups, I.base.frzs, I.base.tbls⟩, ⟨m, hn.sameBut hs (Ne.symm (cne x c hc)), fun j y v' e1 e2 e3 => ?_⟩, fun y c' e => ?_, I.free, I.freeC, fun p hp => ?_, tracked ⟨oc, hoc, I.freeC x c hc⟩ hs, by simpa using I.len⟩ ⟨c, hs, .inr hc⟩
    · exact (hs.2 b (Nat.ne_of_lt (Nat.lt_of_lt_of_le (Heap.lt_size e) (I.ok.cab x c hfn hc)))).trans (I.base.keep b o e n hb hx)
    · obtain ⟨sl, e1⟩ := I.base.slot b o e n hb hx
      exact ⟨sl, (hs.2 b (Nat.ne_of_lt (Nat.lt_of_lt_of_le (Heap.lt_size e) (I.ok.cab x c hfn hc)))).trans e1⟩
    · obtain ⟨o', e1⟩ := I.base.there b o e hx
      exact ⟨o', (hs.2 b (Nat.ne_of_lt (Nat.lt_of_lt_of_le (Heap.lt_size e) (I.ok.cab x c hfn hc)))).trans e1⟩
    · by_cases hj : j = i
      · subst hj
        rw [hi] at e1; cases e1
        rw [List.getElem?_set_self hiσ] at e2
        cases e2
        exact ⟨u, r, .inr ⟨.inl hk, c, hc, hc'⟩⟩
      · rw [List.getElem?_set_ne (Ne.symm hj)] at e2
        obtain ⟨u', r', q⟩ := hl j y v' e1 e2 e3
        refine ⟨u', r', ?_⟩
        rcases q with q | ⟨k, c', e, z'⟩
        · exact .inl q
        · refine .inr ⟨k, c', e, z'.sameBut hs ?_⟩
          rintro rfl
          exact hj (nodup_ix hN e1 (I.ok.inj _ _ _ e hc ▸ hi))
    · by_cases hcc : c' = c
      · subst hcc; exact ⟨_, hc'⟩
      · obtain ⟨w2, z2⟩ := I.cell y c' e
        exact ⟨w2, z2.sameBut hs hcc⟩
    · obtain ⟨e, n, ne, nf, d⟩ := I.pin p hp
      refine ⟨(hs.2 p.1 ?_).trans e, n, ne, nf, d⟩
      intro q
      rw [q, hoc] at e
      have q' : oc = p.2 := Option.some.inj e
      exact d w' (by rw [← q']; exact hocd)
theorem store_ok {M : Model} {A : Around} {E : Value → Shared → Prop} {i : Nat} {x : Str} {v : V} {u : Value} {Q : Unit → Shared → Prop} (I : Inv X pins σ H s) (hN : X.N.Nodup) (hi : X.N[i]? = some x) (hx : Loc X.env.scope x) (r : RelV v u)
    (h : ∀ s', Inv X pins (σ.set i (some v)) H s' → Q () s') (hf : X.fn x = true ∨ X.env.scope.names.lookup x = some .local := by first | exact .inl rfl | exact .inr rfl | assumption) : wpAny M A (storeName X.env x u) Q E s :=
  store_ok2 I hN hi hx r (fun s' I' _ => h s' I') hf
theorem Inv.call' {s' : Shared} {ch : List Addr} (I : Inv X pins σ H s) (ho : s'.os = s.os) (u : Un (frs X.stack) ch H H' s.heap s'.heap) (hok : HOk X.prog X.w H' s'.heap) (hg : AllBare s'.gens)
    (hch : ∀ b ∈ ch, (b ∈ X.ex ∨ X.s₀.heap.objs.size ≤ b) ∧ b ≠ X.env.locals ∧ (∀ x c, X.env.cells.lookup x = some c → c ≠ b) ∧ ∀ p ∈ X.pn ++ pins, p.1 ≠ b) : Inv X pins σ H' s' := by
  obtain ⟨h', g', d', t', o'⟩ := s'
  have e : o' = s.os := ho
  subst e
  exact I.call (g' := g') (t' := t') (d' := d') u hok hg hch
end
abbrev XK := Value → Option Addr → Hp → Prop
abbrev St := List (Option V)
abbrev VK := V → Hp → Prop
abbrev TE := St → Hp → VK → Prop
abbrev TT := St → Hp → (Bool → Hp → Prop) → Prop
abbrev TA := St → Hp → (List V → Hp → Prop) → Prop
structure Ends where
  nx : St → Hp → Prop
  rt : VK
  bk : St → Hp → Prop := fun _ _ => False
  ct : St → Hp → Prop := fun _ _ => False
abbrev TS := Ends → St → Hp → Prop
def EP (X : Cx) (pins : List (Addr × Obj)) (σ : St) (Q : VK) (u : Value) (s' : Shared) : Prop := ∃ v H', Inv X pins σ H' s' ∧ RelV v u ∧ Q v H'
def TP (X : Cx) (pins : List (Addr × Obj)) (σ : St) (Q : Bool → Hp → Prop) (b : Bool) (s' : Shared) : Prop := ∃ H', Inv X pins σ H' s' ∧ Q b H'
def AP (X : Cx) (pins : List (Addr × Obj)) (σ : St) (Q : List V → Hp → Prop) (us : List Value) (s' : Shared) : Prop := ∃ vs H', Inv X pins σ H' s' ∧ Vals vs us ∧ Q vs H'
def SP (X : Cx) (pins : List (Addr × Obj)) (D : Ends) (f : Flow) (s' : Shared) : Prop :=
  match f with
  | .next => ∃ σ' H', Inv X pins σ' H' s' ∧ D.nx σ' H'
  | .brk => ∃ σ' H', Inv X pins σ' H' s' ∧ D.bk σ' H'
  | .cont => ∃ σ' H', Inv X pins σ' H' s' ∧ D.ct σ' H'
  | .ret u => ∃ v σ' H', Inv X pins σ' H' s' ∧ RelV v u ∧ D.rt v H'
def PE (X : Cx) (e : Expr) (t : TE) : Prop :=
  ∀ (pins : List (Addr × Obj)) (s : Shared) (σ : St) (H : Hp) (Q : VK), Inv X pins σ H s → t σ H Q → wpAny (model X.prog X.w) X.A (eval e X.env) (EP X pins σ Q) X.xe s
def PT (X : Cx) (e : Expr) (t : TT) : Prop :=
  ∀ (pins : List (Addr × Obj)) (s : Shared) (σ : St) (H : Hp) (Q : Bool → Hp → Prop), Inv X pins σ H s → t σ H Q → wpAny (model X.prog X.w) X.A (isTrue e X.env (eval e X.env)) (TP X pins σ Q) X.xe s
def PW (X : Cx) (e : Expr) (t : TT) : Prop :=
  ∀ (whole : Sem Value) (pins : List (Addr × Obj)) (s : Shared) (σ : St) (H : Hp) (Q : Bool → Hp → Prop), Inv X pins σ H s → t σ H Q → wpAny (model X.prog X.w) X.A (isTrue e X.env whole) (TP X pins σ Q) X.xe s
theorem PW.pt {X : Cx} {e : Expr} {t : TT} (h : PW X e t) : PT X e t := h _
def PA (X : Cx) (es : List Expr) (t : TA) : Prop :=
  ∀ (pos : Pos) (pins : List (Addr × Obj)) (s : Shared) (σ : St) (H : Hp) (Q : List V → Hp → Prop), Inv X pins σ H s → t σ H Q → wpAny (model X.prog X.w) X.A (spliced (backTo pos (starEach es X.env))) (AP X pins σ Q) X.xe s
def PS (X : Cx) (st : Stmt) (t : TS) : Prop :=
  ∀ (pins : List (Addr × Obj)) (s : Shared) (σ : St) (H : Hp) (D : Ends), Inv X pins σ H s → t D σ H → wpAny (model X.prog X.w) X.A (exec st X.env) (SP X pins D) X.xe s
def PSs (X : Cx) (st : List Stmt) (t : TS) : Prop :=
  ∀ (pins : List (Addr × Obj)) (s : Shared) (σ : St) (H : Hp) (D : Ends), Inv X pins σ H s → t D σ H → wpAny (model X.prog X.w) X.A (execs st X.env) (SP X pins D) X.xe s
theorem thn {α : Type} {t : Sem α} {Q Q' : α → Shared → Prop} {M : Model} {A : Around} {E : Value → Shared → Prop} {s : Shared} (h : wpAny M A t Q E s) (hQ : ∀ a s, Q a s → Q' a s) : wpAny M A t Q' E s := wpAny_mono h hQ fun _ _ x => x
end L2
namespace L2
open PySem PySem.Spec PyProof.Rows
section
variable {X : Cx}
def tVar (i : Nat) : TE := fun σ H Q => ∃ v, σ[i]? = some (some v) ∧ Q v H
def tC (v : V) : TE := fun _ H Q => Q v H
theorem pe_var {i : Nat} {x : Str} {pos : Pos} (hN : X.N[i]? = some x) (hv : Vis X.env.scope x) (hd : (x == ("__debug__" : Str)) = false := by decide) (hcd : (x == ("__classdict__" : Str)) = false := by decide) : PE X (.Name x pos) (tVar i) := by
  intro pins s σ H Q I h
  obtain ⟨v, e, h⟩ := h
  obtain ⟨m, hn, hl⟩ := I.loc
  obtain ⟨u, r, l⟩ := hl i x v hN e hv
  have fin : EP X pins σ Q u s := ⟨v, H, I, r, h⟩
  rcases l with ⟨hk, hm⟩ | ⟨hk, c, hc, hcell⟩
  · exact wpAny_Name (wpAny_loadName_local I.ok.kind hk hn hm fin) hd
  · rcases hk with hk | hk
    · exact wpAny_Name (wpAny_loadName_cell I.ok.kind hk hc hcell fin) hd
    · exact wpAny_Name (wpAny_loadName_free I.ok.kind hk hc hcell fin hcd) hd
theorem pe_int {i j pos} : PE X (.Constant (.int i) j pos) (tC (.int i)) := fun _ _ _ H _ I h => wpAny_Constant_int ⟨.int i, H, I.tok _, ⟨_, rfl⟩, h⟩
theorem pe_bl {b j pos} : PE X (.Constant (.bool b) j pos) (tC (.bl b)) := fun _ _ _ H _ I h => Constant_bool ⟨.bl b, H, I, rfl, h⟩
theorem pe_non {j pos} : PE X (.Constant .none j pos) (tC .non) := fun _ _ _ H _ I h => Constant_none ⟨.non, H, I, rfl, h⟩
theorem pe_str {x j pos} : PE X (.Constant (.str x) j pos) (tC (.str x)) := fun _ _ _ H _ I h => Calls.Constant_str ⟨.str x, H, I.tok _, ⟨_, rfl⟩, h⟩
def Gl (X : Cx) (x : Str) : Prop := X.env.kindOf x = some .globalImplicit
theorem ld_glob {E : Value → Shared → Prop} {pins : List (Addr × Obj)} {s : Shared} {σ : St} {H : Hp} {x : Str} {u : Value} {pos : Pos} {Q : Value → Shared → Prop} (I : Inv X pins σ H s) (hg : Gl X x) (hm : X.mg x = some u) (h : Q u s)
    (hd : (x == ("__debug__" : Str)) = false := by decide) : wpAny (model X.prog X.w) X.A (eval (.Name x pos) X.env) Q E s :=
  Calls.Name_function_global I.ok.kind hg (Calls.loadGlobal_global (by rw [I.ok.glob]; exact I.mod.glob.keeps I.bk) hm h) hd
theorem ld_blt {E : Value → Shared → Prop} {pins : List (Addr × Obj)} {s : Shared} {σ : St} {H : Hp} {x : Str} {u : Value} {pos : Pos} {Q : Value → Shared → Prop} (I : Inv X pins σ H s) (hg : Gl X x) (hm : X.mg x = none) (hv : bootBuiltins x = some u) (h : Q u s)
    (hn : x ≠ "__name__" := by decide) (hd : (x == ("__debug__" : Str)) = false := by decide) : wpAny (model X.prog X.w) X.A (eval (.Name x pos) X.env) Q E s := by
  obtain ⟨mb, h1, h2⟩ := I.mod.blt
  exact Calls.Name_function_global I.ok.kind hg (Calls.loadGlobal_builtin (by rw [I.ok.glob]; exact I.mod.glob.keeps I.bk) hm (by rw [I.ok.blt]; exact h1.keeps I.bk) ((h2 x hn).trans hv) h) hd
theorem pe_glob {x : Str} {v : V} {u : Value} {pos : Pos} (hg : Gl X x) (hm : X.mg x = some u) (r : RelV v u) (hd : (x == ("__debug__" : Str)) = false := by decide) : PE X (.Name x pos) (tC v) :=
  fun _ _ _ H _ I h => ld_glob I hg hm ⟨v, H, I, r, h⟩ hd
theorem pe_bltn {x : Str} {v : V} {u : Value} {pos : Pos} (hg : Gl X x) (hm : X.mg x = none) (hv : bootBuiltins x = some u) (r : RelV v u) (hn : x ≠ "__name__" := by decide) (hd : (x == ("__debug__" : Str)) = false := by decide) : PE X (.Name x pos) (tC v) :=
  fun _ _ _ H _ I h => ld_blt I hg hm hv ⟨v, H, I, r, h⟩ hn hd
variable {a b : Expr} {ta tb : TE} {pos : Pos}
def tB (t : TE) : TT := fun σ H Q => t σ H fun x H1 => ∃ c, x = .bl c ∧ Q c H1
theorem pt_val {e : Expr} {t : TE} (h : PE X e t) (he : ∀ whole, isTrue e X.env whole = (do let v ← whole; standAt e.pos; holding [v] (truthy v)) := by intro _; rfl) : PT X e (tB t) := by
  intro pins s σ H Q I hw
  refine isTrue_plain (thn (h pins s σ H _ I hw) fun v s1 ⟨x, H1, I1, r1, q1⟩ => ?_) (he _)
  obtain ⟨d, rfl, q⟩ := q1
  cases r1
  exact wpAny_truthy_bool ⟨H1, I1, q⟩
variable {tA tB' : TT} {rest : List Expr}
def tAnd (t u : TT) : TT := fun σ H Q => t σ H fun c H1 => if c = true then u σ H1 Q else Q false H1
def tOr (t u : TT) : TT := fun σ H Q => t σ H fun c H1 => if c = true then Q true H1 else u σ H1 Q
def tNot (t : TT) : TT := fun σ H Q => t σ H fun c H1 => Q (!c) H1
theorem pw_and1 (ha : PT X a tA) : PW X (.BoolOp .And [a] pos) tA := by
  intro wh pins s σ H Q I h
  refine isTrue_and (thn (ha pins s σ H Q I h) fun c s1 e => ?_)
  cases c with
  | true => exact isTrue_and_nil e
  | false => exact e
theorem pw_or1 (ha : PT X a tA) : PW X (.BoolOp .Or [a] pos) tA := by
  intro wh pins s σ H Q I h
  refine isTrue_or (thn (ha pins s σ H Q I h) fun c s1 e => ?_)
  cases c with
  | false => exact isTrue_or_nil e
  | true => exact e
theorem pw_and (ha : PT X a tA) (hb : PW X (.BoolOp .And (b :: rest) pos) tB') : PW X (.BoolOp .And (a :: b :: rest) pos) (tAnd tA tB') := by
  intro wh pins s σ H Q I h
  refine isTrue_and (thn (ha pins s σ H _ I h) fun c s1 ⟨H1, I1, q1⟩ => ?_)
  cases c with
  | true => exact hb wh pins s1 σ H1 Q I1 q1
  | false => exact ⟨H1, I1, q1⟩
theorem pw_or (ha : PT X a tA) (hb : PW X (.BoolOp .Or (b :: rest) pos) tB') : PW X (.BoolOp .Or (a :: b :: rest) pos) (tOr tA tB') := by
  intro wh pins s σ H Q I h
  refine isTrue_or (thn (ha pins s σ H _ I h) fun c s1 ⟨H1, I1, q1⟩ => ?_)
  cases c with
  | true => exact ⟨H1, I1, q1⟩
  | false => exact hb wh pins s1 σ H1 Q I1 q1
theorem pt_not (ha : PT X a tA) : PT X (.UnaryOp .Not a pos) (tNot tA) := by
  intro pins s σ H Q I h
  exact isTrue_not (ha pins s σ H (fun c H1 => Q (!c) H1) I h)
def tAndV (ta tb : TE) : TE := fun σ H Q => ta σ H fun x H1 => ∃ c, x = .bl c ∧ if c = true then tb σ H1 Q else Q (.bl false) H1
def tNotV (ta : TE) : TE := fun σ H Q => ta σ H fun x H1 => ∃ c, x = .bl c ∧ Q (.bl (!c)) H1
theorem pe_one {op} {t : TE} (h : PE X a t) : PE X (.BoolOp op [a] pos) t := fun pins s σ H Q I hw => BoolOp_one (h pins s σ H Q I hw)
theorem pe_and (ha : PE X a ta) (hb : PE X (.BoolOp .And (b :: rest) pos) tb) : PE X (.BoolOp .And (a :: b :: rest) pos) (tAndV ta tb) := by
  intro pins s σ H Q I h
  refine BoolOp_and (thn (ha pins s σ H _ I h) fun v s1 ⟨x, H1, I1, r1, q1⟩ => ?_)
  obtain ⟨c, rfl, q1⟩ := q1
  cases r1
  refine wpAny_truthy_bool ?_
  cases c with
  | true => exact hb pins s1 σ H1 Q I1 q1
  | false => exact ⟨.bl false, H1, I1, rfl, q1⟩
theorem pe_not (ha : PE X a ta) : PE X (.UnaryOp .Not a pos) (tNotV ta) := by
  intro pins s σ H Q I h
  refine UnaryOp_ (thn (ha pins s σ H _ I h) fun v s1 ⟨x, H1, I1, r1, q1⟩ => ?_)
  obtain ⟨c, rfl, q1⟩ := q1
  cases r1
  exact not_of (wpAny_truthy_bool ⟨.bl (!c), H1, I1, rfl, q1⟩)
end
end L2
namespace L2
open PySem PySem.Spec PyProof.Rows
def SqL (K : PySem.W.Frag) (H : Hp) (a : Addr) (xs : List V) : Prop :=
  Rd H a (.lst xs) ∨
    ∃ (o : Obj) (its : Array Value) (n : Nat), K.lookup a = some o ∧ o.cls = .type "list" ∧ o.dict = none ∧ o.data = .seq its n ∧ its.size ≤ sizeLine ∧ Vals xs its.toList
def SqT (K : PySem.W.Frag) (H : Hp) (a : Addr) (xs : List V) : Prop :=
  Rd H a (.tup xs) ∨
    ∃ (o : Obj) (its : Array Value) (n : Nat), K.lookup a = some o ∧ o.cls = .type "tuple" ∧ o.data = .seq its n ∧ its.size ≤ sizeLine ∧ Vals xs its.toList
def absV : Value → Option V
  | .none => some .non
  | .bool b => some (.bl b)
  | .int i _ => some (.int i)
  | .str x _ => some (.str x)
  | .bytes b _ => some (.byt b)
  | .float b _ => some (.flt b)
  | .ref a => some (.ref a)
  | .type n => some (.ty n)
  | _ => none
theorem RelV.abs {x : V} {u : Value} (r : RelV x u) : absV u = some x := by
  cases x with
  | non => cases r; rfl
  | bl _ => cases r; rfl
  | int _ => obtain ⟨t, rfl⟩ := r; rfl
  | str _ => obtain ⟨t, rfl⟩ := r; rfl
  | byt _ => obtain ⟨t, rfl⟩ := r; rfl
  | flt _ => obtain ⟨t, rfl⟩ := r; rfl
  | ref _ => cases r; rfl
  | ty _ => cases r; rfl
theorem RelV.inj {x y : V} {u : Value} (r : RelV x u) (q : RelV y u) : x = y := Option.some.inj (r.abs.symm.trans q.abs)
theorem Vals.inj : ∀ {xs ys : List V} {us : List Value}, Vals xs us → Vals ys us → xs = ys
  | _, _, _, .nil, .nil => rfl
  | _, _, _, .cons r t, .cons r' t' => by rw [r.inj r', Vals.inj t t']
section
variable {X : Cx} {pins : List (Addr × Obj)} {σ : St} {H : Hp} {s : Shared} {a : Addr} {xs ys : List V}
theorem SqL.of {K : PySem.W.Frag} (h : H a = some (.lst xs)) : SqL K H a xs := .inl (.inl h)
theorem SqT.of {K : PySem.W.Frag} (h : H a = some (.tup xs)) : SqT K H a xs := .inl (.inl h)
theorem Inv.list (I : Inv X pins σ H s) (h : SqL X.K H a xs) : ∃ its : List Value, Vals xs its ∧ PlainL s.heap a its.toArray ∧ xs.length ≤ sizeLine := by
  rcases h with h | ⟨o, its, n, hk, hc, hd, hs, hz, r⟩
  · obtain ⟨z, its, n, r, e⟩ := h.ok I.hok
    exact ⟨its, r, ⟨_, n, e, rfl, rfl, rfl⟩, z⟩
  · refine ⟨its.toList, r, ⟨o, n, I.kIn a o hk, hc, hd, by simpa using hs⟩, ?_⟩
    have e := r.length
    simp only [Array.length_toList] at e
    omega
theorem Inv.tuple (I : Inv X pins σ H s) (h : SqT X.K H a xs) : ∃ its : List Value, Vals xs its ∧ IsTup s.heap a its.toArray ∧ xs.length ≤ sizeLine := by
  rcases h with h | ⟨o, its, n, hk, hc, hs, hz, r⟩
  · obtain ⟨z, its, r, p⟩ := h.ok I.hok
    exact ⟨its, r, p, z⟩
  · refine ⟨its.toList, r, ⟨o, I.kIn a o hk, hc, n, by simpa using hs⟩, ?_⟩
    have e := r.length
    simp only [Array.length_toList] at e
    omega
end
abbrev Cx.wish (X : Cx) (E : Value → Shared → Prop) : Cx := { X with xe := E }
abbrev Cx.nox (X : Cx) : Cx := X.wish fun _ _ => False
theorem Cx.Ok.wish {X : Cx} (ok : X.Ok) (E : Value → Shared → Prop) : (X.wish E).Ok :=
  ⟨ok.mod, ok.kind, ok.glob, ok.blt, ok.above, ok.inj, ok.has, ok.cab, ok.hd, ok.frames, ok.stk, ok.exf, ok.bs, ok.bsz, ok.noex, ok.exfs, ok.funs, ok.frf⟩
theorem Cx.Ok.unwish {X : Cx} {E : Value → Shared → Prop} (ok : (X.wish E).Ok) : X.Ok :=
  ⟨ok.mod, ok.kind, ok.glob, ok.blt, ok.above, ok.inj, ok.has, ok.cab, ok.hd, ok.frames, ok.stk, ok.exf, ok.bs, ok.bsz, ok.noex, ok.exfs, ok.funs, ok.frf⟩
section
variable {X : Cx} {pins : List (Addr × Obj)} {σ : St} {H : Hp} {s : Shared} {E : Value → Shared → Prop}
theorem Inv.wish (I : Inv X pins σ H s) (E : Value → Shared → Prop) : Inv (X.wish E) pins σ H s := ⟨I.ok.wish E, I.os, I.bare, I.base, I.loc, I.cell, I.free, I.freeC, I.pin, I.hok, I.len⟩
theorem Inv.unwish (I : Inv (X.wish E) pins σ H s) : Inv X pins σ H s := ⟨I.ok.unwish, I.os, I.bare, I.base, I.loc, I.cell, I.free, I.freeC, I.pin, I.hok, I.len⟩
theorem SP.unwish {D : Ends} {f : Flow} {s' : Shared} (h : SP (X.wish E) pins D f s') : SP X pins D f s' := by
  cases f with
  | next => obtain ⟨σ', H', I, q⟩ := h; exact ⟨σ', H', I.unwish, q⟩
  | brk => obtain ⟨σ', H', I, q⟩ := h; exact ⟨σ', H', I.unwish, q⟩
  | cont => obtain ⟨σ', H', I, q⟩ := h; exact ⟨σ', H', I.unwish, q⟩
  | ret u => obtain ⟨v, σ', H', I, r, q⟩ := h; exact ⟨v, σ', H', I.unwish, r, q⟩
theorem PE.nox {e : Expr} {t : TE} (h : PE X.nox e t) : PE X e t := fun pins s σ H Q I hw =>
  wpAny_mono (h pins s σ H Q (I.wish _) hw) (fun _ _ ⟨v, H', I', r, q⟩ => ⟨v, H', I'.unwish, r, q⟩) fun _ _ z => False.elim z
theorem PT.nox {e : Expr} {t : TT} (h : PT X.nox e t) : PT X e t := fun pins s σ H Q I hw =>
  wpAny_mono (h pins s σ H Q (I.wish _) hw) (fun _ _ ⟨H', I', q⟩ => ⟨H', I'.unwish, q⟩) fun _ _ z => False.elim z
theorem PSs.nox {st : List Stmt} {t : TS} (h : PSs X.nox st t) : PSs X st t := fun pins s σ H D I hw =>
  wpAny_mono (h pins s σ H D (I.wish _) hw) (fun _ _ q => q.unwish) fun _ _ z => False.elim z
end
section
variable {X : Cx} {st : Stmt} {rest : List Stmt} {t u : TS} {e : Expr} {te : TE} {pos : Pos}
def tNext : TS := fun D σ H => D.nx σ H
def tSeq (t u : TS) : TS := fun D σ H => t { D with nx := u D } σ H
theorem pss_nil : PSs X [] tNext := fun _ _ σ H _ I h => wpAny_execs_nil ⟨σ, H, I, h⟩
theorem pss_cons (h1 : PS X st t) (h2 : PSs X rest u) : PSs X (st :: rest) (tSeq t u) := by
  intro pins s σ H D I h
  refine wpAny_execs_cons (thn (h1 pins s σ H { D with nx := u D } I h) fun f s1 q => ?_)
  cases f with
  | next =>
    obtain ⟨σ', H', I', q⟩ := q
    exact h2 pins s1 σ' H' D I' q
  | ret v => exact q
  | brk => exact q
  | cont => exact q
theorem pss_one (h1 : PS X st t) : PSs X [st] t := by
  intro pins s σ H D I h
  refine wpAny_execs_cons (thn (h1 pins s σ H D I h) fun f s1 q => ?_)
  cases f with
  | next => exact wpAny_execs_nil q
  | ret v => exact q
  | brk => exact q
  | cont => exact q
theorem Inv.quiet {pins : List (Addr × Obj)} {σ : St} {H : Hp} {s : Shared} (I : Inv X pins σ H s) : interactive X.env = false := by simp [interactive, I.ok.kind]
def tRet (te : TE) : TS := fun D σ H => te σ H D.rt
theorem ps_ret (he : PE X e te) : PS X (.Return (some e) pos) (tRet te) := by
  intro pins s σ H D I h
  exact wpAny_Return_some (thn (he pins s σ H _ I h) fun v s1 ⟨x, H1, I1, r1, q1⟩ => ⟨x, σ, H1, I1, r1, q1⟩)
def tIfS (c : TT) (t u : TS) : TS := fun D σ H => c σ H fun b H1 => if b = true then t D σ H1 else u D σ H1
theorem ps_if {c : Expr} {a b : List Stmt} {tc : TT} (hc : PT X c tc) (ha : PSs X a t) (hb : PSs X b u) : PS X (.If c a b pos) (tIfS tc t u) := by
  intro pins s σ H D I h
  refine wpAny_If (thn (hc pins s σ H _ I h) fun d s1 ⟨H1, I1, q1⟩ => ?_)
  cases d with
  | true => exact ha pins s1 σ H1 D I1 q1
  | false => exact hb pins s1 σ H1 D I1 q1
def tNever : TS := fun _ _ _ => False
theorem ps_never : PS X st tNever := fun _ _ _ _ _ _ h => h.elim
end
abbrev TG := V → St → Hp → (St → Hp → Prop) → Prop
abbrev TGs := List V → St → Hp → (St → Hp → Prop) → Prop
def PG (X : Cx) (target : Expr) (t : TG) : Prop :=
  ∀ (pins : List (Addr × Obj)) (s : Shared) (σ : St) (H : Hp) (v : V) (u : Value) (Q : St → Hp → Prop), Inv X pins σ H s → RelV v u → t v σ H Q →
    wpAny (model X.prog X.w) X.A (assign target X.env u) (fun _ s' => ∃ σ' H', Inv X pins σ' H' s' ∧ Q σ' H') X.xe s
def PGs (X : Cx) (ts : List Expr) (t : TGs) : Prop :=
  ∀ (pins : List (Addr × Obj)) (s : Shared) (σ : St) (H : Hp) (vs : List V) (us : List Value) (Q : St → Hp → Prop), Inv X pins σ H s → Vals vs us → t vs σ H Q →
    wpAny (model X.prog X.w) X.A (assignInOrder ((assignEach ts X.env).map (·.2)) us) (fun _ s' => ∃ σ' H', Inv X pins σ' H' s' ∧ Q σ' H') X.xe s
abbrev TSet := V → V → V → Hp → (Hp → Prop) → Prop
section
variable {X : Cx} {pos : Pos}
def gName (i : Nat) : TG := fun v σ H Q => Q (σ.set i (some v)) H
theorem pg_name {i : Nat} {x : Str} (hN : X.N.Nodup) (hi : X.N[i]? = some x) (hx : Loc X.env.scope x) (hf : X.fn x = true ∨ X.env.scope.names.lookup x = some .local := by first | exact .inl rfl | exact .inr rfl | assumption) : PG X (.Name x pos) (gName i) := by
  intro pins s σ H v u Q I r h
  exact wpAny_assign_Name (store_ok I hN hi hx r (fun s' I' => ⟨_, H, I', h⟩) hf)
def gSub (to ti : TE) (t : TSet) : TG := fun v σ H Q => to σ H fun o H1 => ti σ H1 fun i H2 => t o i v H2 fun H3 => Q σ H3
def tAsg (te : TE) (g : TG) : TS := fun D σ H => te σ H fun x H1 => g x σ H1 D.nx
theorem ps_set {i : Nat} {x : Str} {e : Expr} {te : TE} {pos' : Pos} (hN : X.N.Nodup) (hi : X.N[i]? = some x) (hx : Loc X.env.scope x) (he : PE X e te) (hs : swapsWith e (some (.Name x pos')) pos.line X.env = pure false := by rfl) (hf : X.fn x = true ∨ X.env.scope.names.lookup x = some .local := by first | exact .inl rfl | exact .inr rfl | assumption) :
    PS X (.Assign [.Name x pos'] e pos) (tAsg te (gName i)) := by
  intro pins s σ H D I h
  refine wpAny_Assign_Name (thn (he pins s σ H _ I h) fun v s1 ⟨y, H1, I1, r1, q1⟩ => ?_) hs
  exact store_ok I1 hN hi hx r1 (fun s2 I2 => ⟨_, H1, I2, q1⟩) hf
end
section
variable {X : Cx} {pos : Pos}
def tWhile (c : TT) (tb : TS) : TS := fun D σ H => ∃ W : Nat → St → Hp → Prop, (∃ m, W m σ H) ∧ ∀ m σ H, W m σ H →
  c σ H fun b H1 => if b = true then ∃ N : St → Hp → Prop, (∀ σ' H', N σ' H' → ∃ m', m' < m ∧ W m' σ' H') ∧ tb { D with nx := N, ct := N, bk := D.nx } σ H1 else D.nx σ H1
theorem ps_while {c : Expr} {body : List Stmt} {tc : TT} {tb : TS} (hp : PassesOwn (model X.prog X.w) X.A X.env X.xe) (hc : PT X c tc) (hb : PSs X body tb) : PS X (.While c body [] pos) (tWhile tc tb) := by
  intro pins s σ H D I h
  obtain ⟨W, ⟨m0, w0⟩, turn⟩ := h
  refine wpAny_While (codeAny_whileLoop (fun n s' => ∃ σ' H', Inv X pins σ' H' s' ∧ W n σ' H') ?_ m0 ⟨σ, H, I, w0⟩)
  rintro n s1 ⟨σ1, H1, I1, w1⟩
  refine wpAny_passesOwn hp (thn (hc pins s1 σ1 H1 _ I1 (turn n σ1 H1 w1)) fun b s2 ⟨H2, I2, q2⟩ => ?_)
  cases b with
  | true =>
    obtain ⟨N, hN, q2⟩ := q2
    rw [if_pos rfl]
    refine wpAny_passesOwn hp (thn (hb pins s2 σ1 H2 _ I2 q2) fun f s3 q3 => ?_)
    cases f with
    | next =>
      obtain ⟨σ3, H3, I3, n3⟩ := q3
      obtain ⟨m', hm, w3⟩ := hN σ3 H3 n3
      exact ⟨m', hm, σ3, H3, I3, w3⟩
    | cont =>
      obtain ⟨σ3, H3, I3, n3⟩ := q3
      obtain ⟨m', hm, w3⟩ := hN σ3 H3 n3
      exact ⟨m', hm, σ3, H3, I3, w3⟩
    | brk => exact q3
    | ret v => exact q3
  | false =>
    rw [if_neg Bool.false_ne_true]
    exact wpAny_execs_nil ⟨σ1, H2, I2, q2⟩
end
structure It where
  go : Nat → Hp → Prop
  yld : Nat → Hp → V → Hp → Prop
  stop : Nat → Hp → Prop
def FpOk (X : Cx) (pins : List (Addr × Obj)) (H : Hp) (b : Addr) : Prop :=
  H b = none ∧ b ≠ X.env.locals ∧ b ∉ X.fs ∧ (b ∈ X.ex ∨ X.s₀.heap.objs.size ≤ b) ∧ (∀ x c, X.env.cells.lookup x = some c → c ≠ b) ∧ ∀ p ∈ X.pn ++ pins, p.1 ≠ b
theorem Inv.fpOk {X : Cx} {pins : List (Addr × Obj)} {σ : St} {H H' : Hp} {s : Shared} {b : Addr} (I : Inv X pins σ H s) (hb : s.heap.objs.size ≤ b) (hn : H' b = none) : FpOk X pins H' b := by
  refine ⟨hn, Nat.ne_of_gt (Nat.lt_of_lt_of_le I.lt hb), I.nofs hb, .inr (Nat.le_trans I.sz hb), fun x c e z => ?_, fun p hp z => ?_⟩
  · obtain ⟨v, q⟩ := I.cell x c e
    exact absurd (Nat.lt_of_lt_of_le q.lt (by rw [z]; exact hb)) (Nat.lt_irrefl _)
  · exact absurd (Nat.lt_of_lt_of_le (Heap.lt_size (I.pin p hp).1) (by rw [z]; exact hb)) (Nat.lt_irrefl _)
structure Turn (P : Program) (w : World) (K : PySem.W.Frag) (tg : Expr) (J : It) (fp : List Addr) (it : Addr) (tn : Nat → Heap → Prop) : Prop where
  mem : it ∈ fp
  obj : ∀ i h, tn i h → ∀ b ∈ fp, ∃ o, h.get? b = some o ∧ ∀ v, o.data ≠ .cell v
  keep : ∀ i h h', tn i h → (∀ b ∈ fp, ∀ o, h.get? b = some o → h'.get? b = some o) → tn i h'
  item : ∀ (X : Cx), X.prog = P → X.w = w → X.K = K → X.calm = true → ∀ (i : Nat) (pins : List (Addr × Obj)) (s : Shared) (σ : St) (H : Hp) (E : Value → Shared → Prop), Inv X pins σ H s → (∀ b ∈ fp, FpOk X pins H b) → tn i s.heap → J.go i H →
    wpAny (model P w) X.A (pyNext (.ref it)) (fun r s1 => ∃ u, r = some u ∧
      wpAny (model P w) X.A (letOwnedTupleGo tg (.ref it) u) (fun _ s2 => ∃ x H', Inv X pins σ H' s2 ∧ RelV x u ∧ J.yld i H x H' ∧ tn (i + 1) s2.heap ∧ ∀ b ∈ fp, H' b = none) E s1) E s
  done : ∀ (X : Cx), X.prog = P → X.w = w → X.K = K → X.calm = true → ∀ (i : Nat) (pins : List (Addr × Obj)) (s : Shared) (σ : St) (H : Hp) (E : Value → Shared → Prop), Inv X pins σ H s → (∀ b ∈ fp, FpOk X pins H b) → tn i s.heap → J.stop i H →
    wpAny (model P w) X.A (pyNext (.ref it)) (fun r s1 => r = none ∧ Inv X pins σ H s1) E s
  self : ∀ (A : Around) (i : Nat) (s : Shared) (Q : Value → Shared → Prop) (E : Value → Shared → Prop), tn i s.heap → Q (.ref it) s → wpAny (model P w) A (pyIter (.ref it)) Q E s
abbrev TI := St → Hp → (It → Hp → Prop) → Prop
def PIE (X : Cx) (pins : List (Addr × Obj)) (σ : St) (tg : Expr) (R : It → Hp → Prop) (itv : Value) (s2 : Shared) : Prop :=
  ∃ (it : Addr) (fp : List Addr) (tn : Nat → Heap → Prop) (J : It) (H' : Hp), itv = .ref it ∧ Inv X pins σ H' s2 ∧ Turn X.prog X.w X.K tg J fp it tn ∧ tn 0 s2.heap ∧ (∀ b ∈ fp, FpOk X pins H' b) ∧ R J H'
def PI (X : Cx) (tg iter : Expr) (wi : TI) : Prop :=
  ∀ (pins : List (Addr × Obj)) (s : Shared) (σ : St) (H : Hp) (R : It → Hp → Prop), Inv X pins σ H s → wi σ H R →
    wpAny (model X.prog X.w) X.A (eval iter X.env) (fun v s1 => wpAny (model X.prog X.w) X.A (pyIter v) (PIE X pins σ tg R) X.xe s1) X.xe s
theorem go_of {M : Model} {A : Around} {E : Value → Shared → Prop} {s : Shared} {tg : Expr} {it : Addr} {u : Value} {o : Obj} {n : String} {vs : Array Value} {Q : Unit → Shared → Prop} (ho : s.heap.get? it = some o) (hc : o.cls = .type n) (hd : o.data = .fields vs)
    (hn : ["enumerate", "zip", "dict_itemiterator", "dict_reverseitemiterator", "odict_iterator", "itertools.zip_longest", "itertools.pairwise"].contains n = false) (hQ : Q () s) : wpAny M A (letOwnedTupleGo tg (.ref it) u) Q E s := by
  unfold letOwnedTupleGo
  cases tg <;> first
    | exact wpAny_pure hQ
    | (cases u <;> first
        | exact wpAny_pure hQ
        | (refine wpAny_bind (wpAny_load ho ?_)
           rw [hc, hd]
           show wpAny M A (if (["enumerate", "zip", "dict_itemiterator", "dict_reverseitemiterator", "odict_iterator", "itertools.zip_longest", "itertools.pairwise"].contains n && vs[0]? == some (rawInt _)) = true then _ else _) Q E s
           rw [if_neg (by intro h; rw [hn, Bool.false_and] at h; cases h)]
           exact wpAny_pure hQ))
def Itr (lo : Int) (n : Nat) : It := ⟨fun i _ => i < n, fun i H x H' => H' = H ∧ x = .int (lo + i), fun i _ => n ≤ i⟩
theorem turn_range {P : Program} {w : World} {K : PySem.W.Frag} {tg : Expr} (it : Addr) (lo : Int) (n : Nat) : Turn P w K tg (Itr lo n) [it] it (fun i h => IsRangeIter h it (lo + (i : Nat) * 1) ((n : Int) - (i : Nat)) 1) where
  mem := by simp
  obj := fun i h st b hb => by
    have e : b = it := by simpa using hb
    subst e
    exact ⟨_, st, fun v z => by
      have z' : Data.fields _ = Data.cell v := z
      cases z'⟩
  keep := fun i h h' st k => k it (by simp) _ st
  item := by
    intro X hP hw hK hc i pins s σ H E I hf st hg
    subst hP hw hK
    obtain ⟨f0, f1, f2, f3, f4, f5⟩ := hf it (by simp)
    have W := Walks.range (prog := X.prog) (w := X.w) (I.ok.hd hc) it lo 1 n
    refine W.item i s _ _ hg st fun v h' tk hv st' kk => ?_
    obtain ⟨t, rfl⟩ := hv
    have I1 : Inv X pins σ H { s with heap := h', toks := tk } := I.turned (fun b o hb e => kk b o (by simpa using hb) e) f0 f1 f3 f4 f5
    refine ⟨_, rfl, go_of (s := { s with heap := h', toks := tk }) (n := "range_iterator") st' rfl rfl (by decide) ⟨.int (lo + i), H, I1, ⟨t, ?_⟩, ⟨rfl, rfl⟩, st', fun b hb => (hf b hb).1⟩⟩
    rw [Int.mul_one]
  done := by
    intro X hP hw hK hc i pins s σ H E I hf st hg
    subst hP hw hK
    obtain ⟨f0, f1, f2, f3, f4, f5⟩ := hf it (by simp)
    exact wpAny_pyNext_range_end (I.ok.hd hc) st (by have : n ≤ i := hg; omega) fun h' eb => ⟨rfl, I.turned (t' := s.toks) (fun b o hb e => eb b o hb e) f0 f1 f3 f4 f5⟩
  self := fun _ _ _ _ _ st h => wpAny_pyIter_rangeiter st h
end L2
namespace L2
open PySem PySem.Spec PyProof.Rows
section
variable {X : Cx} {tg : Expr}
theorem range_it {pins : List (Addr × Obj)} {σ : St} {H : Hp} {s : Shared} {R : It → Hp → Prop} {E : Value → Shared → Prop} {lo hi : Int} {t u v : Tok} {tk : Nat} (I : Inv X pins σ H s) (h1 : -(2 ^ 62) ≤ lo) (h2 : lo < 2 ^ 62) (h3 : -(2 ^ 62) ≤ hi) (h4 : hi < 2 ^ 62)
    (q : R (Itr lo (hi - lo).toNat) H) : wpAny (model X.prog X.w) X.A (pyIter (.ref s.heap.objs.size)) (PIE X pins σ tg R) E { s with heap := s.heap.push { cls := .type "range", data := .fields #[.int lo t, .int hi u, .int 1 v] }, toks := tk } := by
  refine wpAny_pyIter_range (IsRange.new ..) (small_one h1 h2 h3 h4) ?_
  have I1 : Inv X pins σ H { s with heap := s.heap.push { cls := .type "range", data := .fields #[.int lo t, .int hi u, .int 1 v] }, toks := tk } := I.kept fun b o e => Heap.get?_push_of_some _ e
  refine ⟨(s.heap.push { cls := .type "range", data := .fields #[.int lo t, .int hi u, .int 1 v] }).objs.size, [(s.heap.push { cls := .type "range", data := .fields #[.int lo t, .int hi u, .int 1 v] }).objs.size], _, _, H, rfl,
    I1.kept (t' := tk) fun b o e => Heap.get?_push_of_some _ e, turn_range _ lo (hi - lo).toNat, ?_, fun b hb => ?_, q⟩
  · have e1 : lo + ((0 : Nat) : Int) * 1 = lo := by simp
    have e2 : (((hi - lo).toNat : Nat) : Int) - ((0 : Nat) : Int) = Builtin.Range.rangeSize lo hi 1 := by rw [rangeSize_one]; split <;> omega
    show IsRangeIter _ _ (lo + ((0 : Nat) : Int) * 1) ((((hi - lo).toNat : Nat) : Int) - ((0 : Nat) : Int)) 1
    rw [e1, e2]
    exact Heap.get?_push_size _ rfl
  · have e : b = (s.heap.push { cls := .type "range", data := .fields #[.int lo t, .int hi u, .int 1 v] }).objs.size := by simpa using hb
    subst e
    exact I1.fpOk (Nat.le_refl _) (I1.hok.fresh (Nat.le_refl _))
def iRng1 (ta : TA) : TI := fun σ H R => ta σ H fun vs H1 => ∃ j : Int, vs = [.int j] ∧ -(2 ^ 62) ≤ j ∧ j < 2 ^ 62 ∧ R (Itr 0 j.toNat) H1
theorem pi_range1 {a : Expr} {ta : TA} {p pos : Pos} (hg : Gl X "range") (hm : X.mg "range" = none) (ha : PA X [a] ta) (hs : starEach [a] X.env = [(false, eval a X.env)] := by rfl) : PI X tg (.Call (.Name "range" p) [a] [] pos) (iRng1 ta) := by
  intro pins s σ H R I h
  refine Call_ (ld_blt I hg hm boot_range (PyProof.Rows.callWith_type1 (thn (ha pos pins s σ H _ I h) fun us s1 ⟨vs, H1, I1, r1, q1⟩ => ?_) hs rfl))
  obtain ⟨j, e, q1, q2, q⟩ := q1
  subst e
  cases r1 with
  | cons r rr =>
    cases rr
    obtain ⟨t, rfl⟩ := r
    exact call_range_1 (range_it I1 (by omega) (by omega) q1 q2 (by simpa using q))
def tFor (wi : TI) (g : TG) (tb : TS) : TS := fun D σ H => wi σ H fun J H1 => ∃ W : Nat → Nat → St → Hp → Prop, (∃ m, W 0 m σ H1) ∧ ∀ i m σ H, W i m σ H →
  (J.stop i H ∧ D.nx σ H) ∨ (J.go i H ∧ ∃ N : St → Hp → Prop, (∀ σ' H', N σ' H' → ∃ m', m' < m ∧ W (i + 1) m' σ' H') ∧ ∀ x H', J.yld i H x H' → g x σ H' fun σ2 H2 => tb { D with nx := N, ct := N, bk := D.nx } σ2 H2)
def pinsAt (fp : List Addr) (h : Heap) : List (Addr × Obj) := fp.filterMap fun b => (h.get? b).map fun o => (b, o)
theorem mem_pinsAt {fp : List Addr} {h : Heap} {b : Addr} {o : Obj} (hb : b ∈ fp) (e : h.get? b = some o) : (b, o) ∈ pinsAt fp h := List.mem_filterMap.mpr ⟨b, hb, by rw [e]; rfl⟩
theorem of_pinsAt {fp : List Addr} {h : Heap} {p : Addr × Obj} (hp : p ∈ pinsAt fp h) : p.1 ∈ fp ∧ h.get? p.1 = some p.2 := by
  obtain ⟨b, hb, e⟩ := List.mem_filterMap.mp hp
  cases q : h.get? b with
  | none => rw [q] at e; cases e
  | some o =>
    rw [q] at e
    have e' : (b, o) = p := Option.some.inj e
    subst e'
    exact ⟨hb, q⟩
theorem Inv.pinned {pins : List (Addr × Obj)} {σ : St} {H : Hp} {s : Shared} {fp : List Addr} (I : Inv X pins σ H s) (hf : ∀ b ∈ fp, FpOk X pins H b) (ho : ∀ b ∈ fp, ∃ o, s.heap.get? b = some o ∧ ∀ v, o.data ≠ .cell v) : Inv X (pins ++ pinsAt fp s.heap) σ H s :=
  I.pins_of fun p hp => (List.mem_append.mp hp).elim (fun z => I.pin p (List.mem_append_right _ z)) fun z => by
    obtain ⟨hb, e⟩ := of_pinsAt z
    obtain ⟨f0, f1, f2, _⟩ := hf p.1 hb
    obtain ⟨o, e', d⟩ := ho p.1 hb
    rw [e] at e'; cases e'
    exact ⟨e, f0, f1, f2, d⟩
theorem Inv.unpinned {pins pl : List (Addr × Obj)} {σ : St} {H : Hp} {s : Shared} (I : Inv X (pins ++ pl) σ H s) : Inv X pins σ H s := I.pins_of fun p hp => I.pin p (List.mem_append_right _ (List.mem_append_left _ hp))
theorem ps_for {iter : Expr} {body : List Stmt} {wi : TI} {g : TG} {tb : TS} {pos : Pos} (hp : PassesOwn (model X.prog X.w) X.A X.env X.xe) (hc : X.calm = true) (hi : PI X tg iter wi) (hg : PG X tg g) (hb : PSs X body tb)
    (hs : ∀ x, foldedSetIterable iter X.env x = pure x := by intro _; rfl) : PS X (.For tg iter body [] pos) (tFor wi g tb) := by
  intro pins s σ H D I h
  refine wpAny_For (thn (hi pins s σ H _ I h) fun v s1 h1 => thn h1 fun itv s2 h2 => ?_) hs
  obtain ⟨it, fp, tn, J, H2, e, I2, T, st2, f2, W, ⟨m0, w0⟩, turn⟩ := h2
  subst e
  have stat : ∀ {H' : Hp}, (∀ b ∈ fp, H' b = none) → ∀ b ∈ fp, FpOk X pins H' b := fun hn b hb => ⟨hn b hb, (f2 b hb).2⟩
  refine codeAny_forLoop_any (fun n s' => ∃ i σ' H', Inv X pins σ' H' s' ∧ tn i s'.heap ∧ (∀ b ∈ fp, H' b = none) ∧ W i n σ' H') ?_ m0 ⟨0, σ, H2, I2, st2, fun b hb => (f2 b hb).1, w0⟩
  rintro n s3 ⟨i, σ3, H3, I3, st3, fr3, w3⟩
  rcases turn i n σ3 H3 w3 with ⟨stop, qn⟩ | ⟨go, N, hN, step⟩
  · refine wpAny_passesOwn hp (thn (T.done X rfl rfl rfl hc i pins s3 σ3 H3 X.xe I3 (stat fr3) st3 stop) fun r s4 ⟨hr, I4⟩ => ?_)
    subst hr
    exact wpAny_execs_nil ⟨σ3, H3, I4, qn⟩
  · refine wpAny_passesOwn hp (thn (T.item X rfl rfl rfl hc i pins s3 σ3 H3 X.xe I3 (stat fr3) st3 go) fun r s4 ⟨u, hr, h4⟩ => ?_)
    subst hr
    refine wpAny_passesOwn hp (thn h4 fun _ s5 ⟨x, H5, I5, r5, y5, st5, fr5⟩ => ?_)
    have I5' := I5.pinned (stat fr5) (T.obj _ _ st5)
    refine wpAny_passesOwn hp (thn (hg _ s5 σ3 H5 x u _ I5' r5 (step x H5 y5)) fun _ s6 ⟨σ6, H6, I6, q6⟩ => ?_)
    refine wpAny_passesOwn hp (thn (hb _ s6 σ6 H6 _ I6 q6) fun f s7 q7 => ?_)
    have again : ∀ {σ7 : St} {H7 : Hp}, Inv X (pins ++ pinsAt fp s5.heap) σ7 H7 s7 → N σ7 H7 → ∃ m, m < n ∧ ∃ i σ' H', Inv X pins σ' H' s7 ∧ tn i s7.heap ∧ (∀ b ∈ fp, H' b = none) ∧ W i m σ' H' := fun {σ7 H7} I7 n7 => by
      obtain ⟨m', hm, w7⟩ := hN σ7 H7 n7
      refine ⟨m', hm, i + 1, σ7, H7, I7.unpinned, T.keep _ _ _ st5 fun b hb o e => (I7.pin (b, o) (List.mem_append_right _ (List.mem_append_right _ (mem_pinsAt hb e)))).1, fun b hb => ?_, w7⟩
      obtain ⟨o, e, d⟩ := T.obj _ _ st5 b hb
      exact (I7.pin (b, o) (List.mem_append_right _ (List.mem_append_right _ (mem_pinsAt hb e)))).2.1
    cases f with
    | next => obtain ⟨σ7, H7, I7, n7⟩ := q7; exact again I7 n7
    | cont => obtain ⟨σ7, H7, I7, n7⟩ := q7; exact again I7 n7
    | brk => obtain ⟨σ7, H7, I7, q7⟩ := q7; exact ⟨σ7, H7, I7.unpinned, q7⟩
    | ret v => obtain ⟨x7, σ7, H7, I7, r7, q7⟩ := q7; exact ⟨x7, σ7, H7, I7.unpinned, r7, q7⟩
end
end L2
namespace L2
open PySem PySem.Spec PyProof.Rows
abbrev R2 := V → V → Hp → VK → Prop
def OpR (X : Cx) (f : Value → Value → Sem Value) (r : R2) : Prop :=
  ∀ (pins : List (Addr × Obj)) (s : Shared) (σ : St) (H : Hp) (x y : V) (v u : Value) (Q : VK), Inv X pins σ H s → RelV x v → RelV y u → r x y H Q →
    wpAny (model X.prog X.w) X.A (f v u) (EP X pins σ Q) X.xe s
def UnR (X : Cx) (f : Value → Sem Value) (r : V → Hp → VK → Prop) : Prop :=
  ∀ (pins : List (Addr × Obj)) (s : Shared) (σ : St) (H : Hp) (x : V) (v : Value) (Q : VK), Inv X pins σ H s → RelV x v → r x H Q →
    wpAny (model X.prog X.w) X.A (f v) (EP X pins σ Q) X.xe s
def CallR (X : Cx) (f : Value) (r : List V → Hp → VK → Prop) : Prop :=
  ∀ (pins : List (Addr × Obj)) (s : Shared) (σ : St) (H : Hp) (xs : List V) (us : List Value) (Q : VK), Inv X pins σ H s → Vals xs us → r xs H Q →
    wpAny (model X.prog X.w) X.A (call f us) (EP X pins σ Q) X.xe s
def tOp (r : R2) (ta tb : TE) : TE := fun σ H Q => ta σ H fun x H1 => tb σ H1 fun y H2 => r x y H2 Q
def tUn (r : V → Hp → VK → Prop) (ta : TE) : TE := fun σ H Q => ta σ H fun x H1 => r x H1 Q
def rI (C : Int → Int → Prop) (g : Int → Int → V) : R2 := fun x y H Q => ∃ i j, x = .int i ∧ y = .int j ∧ C i j ∧ Q (g i j) H
def rI0 (g : Int → Int → V) : R2 := fun x y H Q => ∃ i j, x = .int i ∧ y = .int j ∧ Q (g i j) H
def rU (g : Int → V) : V → Hp → VK → Prop := fun x H Q => ∃ i, x = .int i ∧ Q (g i) H
section
variable {X : Cx} {a b c : Expr} {ta tb tc : TE} {pos : Pos}
theorem binT (ha : PE X a ta) (hb : PE X b tb) {pins : List (Addr × Obj)} {s : Shared} {σ : St} {H : Hp} {R : V → V → Hp → Prop} (I : Inv X pins σ H s)
    (h : ta σ H fun x H1 => tb σ H1 fun y H2 => R x y H2) {Q : Value → Shared → Prop} {f : Value → Value → Sem Value}
    (hf : ∀ v u s2 x y H2, Inv X pins σ H2 s2 → RelV x v → RelV y u → R x y H2 → wpAny (model X.prog X.w) X.A (f v u) Q X.xe s2) :
    wpAny (model X.prog X.w) X.A (eval a X.env) (fun v s₁ => wpAny (model X.prog X.w) X.A (eval b X.env) (fun u s₂ => wpAny (model X.prog X.w) X.A (f v u) Q X.xe s₂) X.xe s₁) X.xe s := by
  refine thn (ha pins s σ H _ I h) fun v s1 ⟨x, H1, I1, r1, q1⟩ => ?_
  refine thn (hb pins s1 σ H1 _ I1 q1) fun u s2 ⟨y, H2, I2, r2, q2⟩ => ?_
  exact hf v u s2 x y H2 I2 r1 r2 q2
theorem pe_op {op : Operator} {r : R2} (ho : OpR X (binaryOp op) r) (ha : PE X a ta) (hb : PE X b tb) : PE X (.BinOp a op b pos) (tOp r ta tb) := by
  intro pins s σ H Q I h
  exact wpAny_BinOp (binT ha hb I h fun v u s2 x y H2 I2 rx ry q => ho pins s2 σ H2 x y v u Q I2 rx ry q)
theorem pe_un {op : UnaryOp} {r : V → Hp → VK → Prop} (ho : UnR X (unaryOp op) r) (ha : PE X a ta) : PE X (.UnaryOp op a pos) (tUn r ta) := by
  intro pins s σ H Q I h
  exact UnaryOp_ (thn (ha pins s σ H _ I h) fun v s1 ⟨x, H1, I1, r1, q1⟩ => ho pins s1 σ H1 x v Q I1 r1 q1)
theorem opI {f : Value → Value → Sem Value} {C : Int → Int → Prop} {g : Int → Int → Int}
    (rule : ∀ (i j : Int) (t u : Tok) (s : Shared) (Q : Value → Shared → Prop) (E : Value → Shared → Prop), C i j → Q (.int (g i j) s.toks) { s with toks := s.toks + 1 } → wpAny (model X.prog X.w) X.A (f (.int i t) (.int j u)) Q E s) :
    OpR X f (rI C fun i j => .int (g i j)) := by
  intro pins s σ H x y v u Q I rx ry h
  obtain ⟨i, j, rfl, rfl, hc, q⟩ := h
  obtain ⟨t, rfl⟩ := rx
  obtain ⟨t', rfl⟩ := ry
  exact rule i j t t' s _ _ hc ⟨.int (g i j), H, I.tok _, ⟨_, rfl⟩, q⟩
theorem opI0 {f : Value → Value → Sem Value} {g : Int → Int → Int}
    (rule : ∀ (i j : Int) (t u : Tok) (s : Shared) (Q : Value → Shared → Prop) (E : Value → Shared → Prop), Q (.int (g i j) s.toks) { s with toks := s.toks + 1 } → wpAny (model X.prog X.w) X.A (f (.int i t) (.int j u)) Q E s) :
    OpR X f (rI0 fun i j => .int (g i j)) := by
  intro pins s σ H x y v u Q I rx ry h
  obtain ⟨i, j, rfl, rfl, q⟩ := h
  obtain ⟨t, rfl⟩ := rx
  obtain ⟨t', rfl⟩ := ry
  exact rule i j t t' s _ _ ⟨.int (g i j), H, I.tok _, ⟨_, rfl⟩, q⟩
theorem opB0 {f : Value → Value → Sem Value} {g : Int → Int → Bool}
    (rule : ∀ (i j : Int) (t u : Tok) (s : Shared) (Q : Value → Shared → Prop) (E : Value → Shared → Prop), Q (.bool (g i j)) s → wpAny (model X.prog X.w) X.A (f (.int i t) (.int j u)) Q E s) :
    OpR X f (rI0 fun i j => .bl (g i j)) := by
  intro pins s σ H x y v u Q I rx ry h
  obtain ⟨i, j, rfl, rfl, q⟩ := h
  obtain ⟨t, rfl⟩ := rx
  obtain ⟨t', rfl⟩ := ry
  exact rule i j t t' s _ _ ⟨.bl (g i j), H, I, rfl, q⟩
def CPow (i j : Int) : Prop := 0 ≤ j ∧ j ≤ 1000000 ∧ i.natAbs < 2 ^ 64
def CMul (i j : Int) : Prop := (-(2 ^ 64) < i ∧ i < 2 ^ 64) ∨ (-(2 ^ 64) < j ∧ j < 2 ^ 64)
theorem CMul.ok {i j : Int} (h : CMul i j) : IntMulOk i j := by
  rcases h with ⟨h1, h2⟩ | ⟨h1, h2⟩
  · exact .of_left (intBits_le_64 h1 h2)
  · exact .of_right (intBits_le_64 h1 h2)
theorem op_add : OpR X (binaryOp .Add) (rI0 fun i j => .int (i + j)) := opI0 fun _ _ _ _ _ _ _ q => add_int q
theorem op_sub : OpR X (binaryOp .Sub) (rI0 fun i j => .int (i - j)) := opI0 fun _ _ _ _ _ _ _ q => sub_int q
theorem op_modN : OpR X (binaryOp .Mod) (rI (fun _ j => j ≠ 0) fun i j => .int (i.fmod j)) := opI fun _ _ _ _ _ _ _ hc q => mod_int' hc q
theorem op_pow : OpR X (binaryOp .Pow) (rI CPow fun i j => .int (i ^ j.toNat)) := opI fun _ _ _ _ _ _ _ hc q => pow_int_small hc.1 hc.2.1 hc.2.2 q
theorem unI {f : Value → Sem Value} {g : Int → Int}
    (rule : ∀ (i : Int) (t : Tok) (s : Shared) (Q : Value → Shared → Prop) (E : Value → Shared → Prop), Q (.int (g i) s.toks) { s with toks := s.toks + 1 } → wpAny (model X.prog X.w) X.A (f (.int i t)) Q E s) :
    UnR X f (rU fun i => .int (g i)) := by
  intro pins s σ H x v Q I rx h
  obtain ⟨i, rfl, q⟩ := h
  obtain ⟨t, rfl⟩ := rx
  exact rule i t s _ _ ⟨.int (g i), H, I.tok _, ⟨_, rfl⟩, q⟩
theorem un_neg : UnR X (unaryOp .USub) (rU fun i => .int (-i)) := unI fun _ _ _ _ _ q => neg_int q
end
section
variable {X : Cx} {a b c : Expr} {ta tb tc : TE} {pos : Pos}
theorem op_lt : OpR X (compareOp .Lt) (rI0 fun i j => .bl (decide (i < j))) := opB0 fun _ _ _ _ _ _ _ q => lt_int q
theorem op_gt : OpR X (compareOp .Gt) (rI0 fun i j => .bl (decide (j < i))) := opB0 fun _ _ _ _ _ _ _ q => gt_int q
theorem op_ge : OpR X (compareOp .GtE) (rI0 fun i j => .bl (decide (j ≤ i))) := opB0 fun _ _ _ _ _ _ _ q => ge_int q
theorem OpR.or {f : Value → Value → Sem Value} {r r' : R2} (h : OpR X f r) (h' : OpR X f r') : OpR X f (fun x y H Q => r x y H Q ∨ r' x y H Q) := by
  intro pins s σ H x y v u Q I rx ry q
  rcases q with q | q
  · exact h pins s σ H x y v u Q I rx ry q
  · exact h' pins s σ H x y v u Q I rx ry q
theorem nomark (b : Expr) {op : CmpOp} (h : op ≠ .In := by decide) (h2 : op ≠ .NotIn := by decide) : behindInMarks op b = false := by
  have e1 : (op == CmpOp.In) = false := by cases op <;> first | rfl | exact absurd rfl h
  have e2 : (op == CmpOp.NotIn) = false := by cases op <;> first | rfl | exact absurd rfl h2
  cases b <;> simp [behindInMarks, e1, e2]
theorem pe_cmpR {op : CmpOp} {r : R2} (ho : OpR X (compareOp op) r) (ha : PE X a ta) (hb : PE X b tb) (hm : behindInMarks op b = false) : PE X (.Compare a [op] [b] pos) (tOp r ta tb) := by
  intro pins s σ H Q I h
  exact wpAny_Compare1 (binT ha hb I h fun v u s2 x y H2 I2 rx ry q => ho pins s2 σ H2 x y v u Q I2 rx ry q) hm
def tTest (t : TE) : TT := fun σ H Q => t σ H fun x H' => ∃ k, x = .bl k ∧ Q k H'
theorem pt_cmpR {op : CmpOp} {r : R2} (ho : OpR X (compareOp op) r) (ha : PE X a ta) (hb : PE X b tb) (hm : behindInMarks op b = false) : PT X (.Compare a [op] [b] pos) (tTest (tOp r ta tb)) := by
  intro pins s σ H Q I h
  refine wpAny_isTrue_Compare1 (thn (ha pins s σ H _ I h) fun v s1 ⟨x, H1, I1, r1, q1⟩ => thn (hb pins s1 σ H1 _ I1 q1) fun u s2 ⟨y, H2, I2, r2, q2⟩ =>
    thn (ho pins s2 σ H2 x y v u _ I2 r1 r2 q2) fun c s3 ⟨z, H3, I3, r3, k, e, q3⟩ => ?_) hm
  subst e
  cases r3
  exact wpAny_truthy_bool ⟨H3, I3, q3⟩
theorem line63 : (sizeLine : Nat) < 2 ^ 63 := by rw [sizeLine_eq]; decide
theorem vals1 {x : V} {us : List Value} (r : Vals [x] us) : ∃ u, us = [u] ∧ RelV x u := by
  cases r with
  | cons r1 r2 => cases r2; exact ⟨_, rfl, r1⟩
theorem vals2 {x y : V} {us : List Value} (r : Vals [x, y] us) : ∃ u w', us = [u, w'] ∧ RelV x u ∧ RelV y w' := by
  cases r with
  | cons r1 r2 =>
    cases r2 with
    | cons r3 r4 => cases r4; exact ⟨_, _, rfl, r1, r3⟩
theorem call_abs : CallR X (.builtin "abs") (fun xs H Q => ∃ i, xs = [.int i] ∧ Q (.int (if i < 0 then -i else i)) H) := by
  intro pins s σ H xs us Q I r h
  obtain ⟨i, rfl, q⟩ := h
  obtain ⟨u, rfl, t, rfl⟩ := vals1 r
  exact call_abs_int fun u tk => ⟨.int (if i < 0 then -i else i), H, I.tok _, ⟨_, rfl⟩, q⟩
end
end L2
namespace L2
open PySem PySem.Spec PyProof.Rows
structure ObjM (h : Heap) (x dx C : Addr) (mA : Str → Option Value) : Prop where
  obj : h.get? x = some (PySem.W.instObj C dx)
  ns : h.Ns1 dx mA
  ne : dx ≠ x
theorem lookIn_ns {h : Heap} {dx : Addr} {mA : Str → Option Value} (n : h.Ns1 dx mA) : ∃ od, h.get? dx = some od ∧ ∀ name, PySem.W.lookIn name od = some (mA name) := by
  obtain ⟨o, es, ep, ho, hd, hk, _, hm⟩ := n
  refine ⟨o, ho, fun name => ?_⟩
  have e := hm name
  unfold nsFind findBy at e
  rw [← Array.find?_toList] at e
  unfold PySem.W.lookIn
  rw [hd]
  dsimp only
  split
  · rename_i y q
    rw [q] at e
    exact congrArg some e
  · rename_i q
    rw [q] at e
    have a : es.toList.any (·.refKey) = false := by
      rw [List.any_eq_false]
      intro y hy
      obtain ⟨z, t, hkey⟩ := hk y (Array.mem_toList_iff.mp hy)
      simp [DictEntry.refKey, hkey]
    have a' : ¬ es.toList.any (·.refKey) = true := by rw [a]; exact Bool.false_ne_true
    rw [if_neg a']
    exact congrArg some e
theorem ObjM.look {h : Heap} {x dx C : Addr} {mA : Str → Option Value} (I : ObjM h x dx C mA) : ∃ od, PySem.W.InstAt h x (PySem.W.instObj C dx) C (some od) ∧ ∀ name, PySem.W.lookIn name od = some (mA name) :=
  let ⟨od, ho, hl⟩ := lookIn_ns I.ns
  ⟨od, ⟨I.obj, rfl, rfl, ho⟩, hl⟩
section
variable {prog : Program} {w : World} {A : Around} {E : Value → Shared → Prop} {s : Shared} {K : PySem.W.Frag} {x dx C f : Addr} {mA : Str → Option Value} {name : Str} {v : Value}
end
section
variable {P : Program} {w : World} {H H' : Hp} {h h' : Heap} {a C dx : Addr} {fs fs' : List (Str × V)}
theorem ins_get (hok : HOk P w H h) (e : H a = some (.ins C dx fs)) : ∃ mA, ObjM h a dx C mA ∧ (∀ f, RelO (fs.lookup f) (mA f)) ∧ PySem.Within mA (fs.map (·.1)) ∧ fs.length ≤ 1000 ∧ H dx = some (.own a) := by
  obtain ⟨d, z, ne, ob, mA, n, r, q⟩ := (show ObjOk P w H h a (.ins C dx fs) from hok a _ e)
  exact ⟨mA, ⟨ob, n, ne⟩, r, q, z, d⟩
end
structure Cls (K : PySem.W.Frag) (C : Addr) : Prop where
  pg : PySem.W.plainGet K C Str.empty = true
  hd : PySem.W.hasDictIn K C = true
  po : PySem.W.plainOver K C = true
  sa : PySem.W.findIn K (.ref C) "__setattr__" = some (some (.builtin "object.__setattr__"))
theorem Cls.get {K : PySem.W.Frag} {C : Addr} (c : Cls K C) (f : Str) : PySem.W.plainGet K C f = true := c.pg
structure Con (K : PySem.W.Frag) (C : Addr) (f : Str) (v : V) (u : Value) : Prop where
  at_ : PySem.W.findIn K (.ref C) f = some (some u)
  rel : RelV v u
  get : PySem.W.specialIn K u "__get__" = some none
  cp : PySem.W.copiedNames.contains f = false
structure Meth (K : PySem.W.Frag) (C : Addr) (m : Str) (f : Addr) : Prop where
  at_ : PySem.W.findIn K (.ref C) m = some (some (.ref f))
  fn : PySem.W.isFn K (.ref f) = true
  kp : PySem.W.keepIn K (.ref f) = true
section
variable {X : Cx} {pins : List (Addr × Obj)} {σ : St} {H : Hp} {s : Shared} {a C dx : Addr} {fs : List (Str × V)} {f : Str} {v : V} {A : Around} {E : Value → Shared → Prop}
theorem Inv.made (I : Inv X pins σ H s) : Inv X pins σ (upd (upd H s.heap.objs.size (.own (s.heap.objs.size + 1))) (s.heap.objs.size + 1) (.ins C s.heap.objs.size []))
    { s with heap := (s.heap.push PySem.W.emptyDict).push (PySem.W.instObj C s.heap.objs.size) } := by
  have e1 : (s.heap.push PySem.W.emptyDict).get? s.heap.objs.size = some PySem.W.emptyDict := Heap.get?_push_size s.heap rfl
  have e2 : ((s.heap.push PySem.W.emptyDict).push (PySem.W.instObj C s.heap.objs.size)).get? (s.heap.objs.size + 1) = some (PySem.W.instObj C s.heap.objs.size) := by
    have := Heap.get?_push_size (s.heap.push PySem.W.emptyDict) (o := PySem.W.instObj C s.heap.objs.size) rfl
    rwa [Heap.size_push] at this
  have e3 : (s.heap.push PySem.W.emptyDict).Ns s.heap.objs.size (fun _ => none) := ⟨PySem.W.emptyDict, #[], _, e1, rfl, (fun e he => absurd he (by simp)), fun _ => rfl⟩
  have I1 := I.laid (a := s.heap.objs.size) (o := .own (s.heap.objs.size + 1)) (h' := s.heap.push PySem.W.emptyDict) (t' := s.toks) (fun b u q => Heap.get?_push_of_some _ q) (Nat.le_refl _) ⟨_, e1⟩
  refine I1.laid (a := s.heap.objs.size + 1) (o := .ins C s.heap.objs.size []) (t' := s.toks) (fun b u q => Heap.get?_push_of_some _ q) (Nat.le_of_eq (Heap.size_push _ _)) ?_
  have ne : s.heap.objs.size ≠ s.heap.objs.size + 1 := Nat.ne_of_lt (Nat.lt_succ_self _)
  refine ⟨by rw [upd_ne ne, upd_same], Nat.zero_le _, ne, e2, fun _ => none, (Heap.Ns1.of_empty e3).at fun o q => Heap.get?_push_of_some _ q, fun _ => True.intro, fun y hy => absurd rfl hy⟩
end
section
variable {X : Cx} {o e value : Expr} {f : Str} {pos pos' tpos : Pos} {ta tv : TE}
end
section
variable {X : Cx} {pins : List (Addr × Obj)} {σ : St} {H : Hp} {s : Shared} {A : Around} {E : Value → Shared → Prop} {Q : Value → Shared → Prop} {c : Value} {b : Bool}
inductive TyOf (K : PySem.W.Frag) (H : Hp) : V → Value → Prop where
  | non : TyOf K H .non (.type "NoneType")
  | bl (x : Bool) : TyOf K H (.bl x) (.type "bool")
  | int (i : Int) : TyOf K H (.int i) (.type "int")
  | str (x : Str) : TyOf K H (.str x) (.type "str")
  | flt (x : UInt64) : TyOf K H (.flt x) (.type "float")
  | lst {a : Addr} {xs : List V} (e : H a = some (.lst xs)) : TyOf K H (.ref a) (.type "list")
  | frz {a : Addr} {o : Obj} {xs : List V} (e : H a = some (.frz o (.lst xs))) : TyOf K H (.ref a) (.type "list")
  | tup {a : Addr} {xs : List V} (e : H a = some (.tup xs)) : TyOf K H (.ref a) (.type "tuple")
  | dK {a : Addr} {kvs : List (Key × V)} (e : H a = some (.dK kvs)) : TyOf K H (.ref a) (.type "dict")
  | dT {a : Addr} {kvs : List (List Key × V)} (e : H a = some (.dT kvs)) : TyOf K H (.ref a) (.type "dict")
  | ins {a C dx : Addr} {fs : List (Str × V)} (e : H a = some (.ins C dx fs)) (cl : Cls K C) (ha : PySem.W.findIn K (.ref C) "__class__" = some (some (.builtin "object.__class__")))
      (hn : PySem.W.specialIn K (.builtin "object.__class__") "__get__" = some (some (.builtin "getset_descriptor.__get__"))) (htk : PySem.W.takesIn K (.builtin "object.__class__") = some true)
      (hm : PySem.W.mroIn K C (.type "object") = some true) : TyOf K H (.ref a) (.ref C)
theorem isinst_ok {x : V} {u t : Value} (I : Inv X pins σ H s) (rx : RelV x u) (ty : TyOf X.K H x t) (e : PySem.W.kitOne X.K t c = some b) (h : ∀ tk, Q (.bool b) { s with toks := tk }) :
    wpAny (model X.prog X.w) A (call (.builtin "isinstance") [u, c]) Q E s := by
  cases ty with
  | non => cases (show u = Value.none from rx); exact PySem.W.kia_one PySem.W.kitx_none I.kIn True.intro e (fun z => nomatch z) h
  | bl y => cases (show u = Value.bool y from rx); exact PySem.W.kia_one PySem.W.kitx_bool I.kIn True.intro e (fun z => nomatch z) h
  | int i => obtain ⟨t, q⟩ := (show ∃ t, u = Value.int i t from rx); cases q; exact PySem.W.kia_one PySem.W.kitx_int I.kIn True.intro e (fun z => nomatch z) h
  | str y => obtain ⟨t, q⟩ := (show ∃ t, u = Value.str y t from rx); cases q; exact PySem.W.kia_one PySem.W.kitx_str I.kIn True.intro e (fun z => nomatch z) h
  | flt y => obtain ⟨t, q⟩ := (show ∃ t, u = Value.float y t from rx); cases q; exact PySem.W.kia_one PySem.W.kitx_float I.kIn True.intro e (fun z => nomatch z) h
  | @lst a xs ea =>
    cases (show u = Value.ref a from rx)
    obtain ⟨_, _, n, _, h1⟩ := (show ObjOk X.prog X.w H s.heap a (.lst xs) from I.hok a _ ea)
    exact PySem.W.kia_one PySem.W.kitx_list I.kIn ⟨_, h1, rfl⟩ e (fun z => nomatch z) h
  | @frz a ob xs ea =>
    cases (show u = Value.ref a from rx)
    obtain ⟨_, _, _, n, _, h1⟩ := (show ObjOk X.prog X.w H s.heap a (.frz ob (.lst xs)) from I.hok a _ ea)
    exact PySem.W.kia_one PySem.W.kitx_list I.kIn ⟨_, h1, rfl⟩ e (fun z => nomatch z) h
  | @tup a xs ea =>
    cases (show u = Value.ref a from rx)
    obtain ⟨_, _, _, p⟩ := (show ObjOk X.prog X.w H s.heap a (.tup xs) from I.hok a _ ea)
    obtain ⟨o, h1, h2, _⟩ := p
    exact PySem.W.kia_one PySem.W.kitx_tuple I.kIn ⟨o, h1, h2⟩ e (fun z => nomatch z) h
  | @dK a kvs ea =>
    cases (show u = Value.ref a from rx)
    obtain ⟨_, _, vs, _, p⟩ := (show ObjOk X.prog X.w H s.heap a (.dK kvs) from I.hok a _ ea)
    obtain ⟨o, es, ep, h1, h2, _⟩ := p
    exact PySem.W.kia_one PySem.W.kitx_dict I.kIn ⟨o, h1, h2.1⟩ e (fun z => nomatch z) h
  | @dT a kvs ea =>
    cases (show u = Value.ref a from rx)
    obtain ⟨_, _, xs, _, o, es, ep, h1, h2, _⟩ := (show ObjOk X.prog X.w H s.heap a (.dT kvs) from I.hok a _ ea)
    exact PySem.W.kia_one PySem.W.kitx_dict I.kIn ⟨o, h1, h2.1⟩ e (fun z => nomatch z) h
  | @ins a C dx fs ea cl ha hn htk hm =>
    cases (show u = Value.ref a from rx)
    obtain ⟨mA, O, _⟩ := ins_get I.hok ea
    obtain ⟨od, J, _⟩ := O.look
    exact PySem.W.kia_one (PySem.W.kitx_own (cl.get _) cl.hd ha hn htk hm) I.kIn J e (fun z => nomatch z) h
end
end L2
namespace L2
open PySem PySem.Spec PyProof.Rows
structure Room (k : Nat) (A : Around) : Prop where
  hd : A.handled = none
  dp : A.depth + 3 * k + 5 < recursionLimit
  un : A.units + 16 * k + 200 < cLine
theorem Room.mono {j k : Nat} {A : Around} (r : Room k A) (h : j ≤ k) : Room j A := ⟨r.hd, by have := r.dp; omega, by have := r.un; omega⟩
theorem Room.deeper {k : Nat} {A : Around} (r : Room (k + 1) A) (env : Env) : Room k (A.deeper env) :=
  ⟨r.hd, by have := r.dp; show A.depth + 1 + 3 * k + 5 < _; omega, by have := r.un; show A.units + 3 + 16 * k + 200 < _; omega⟩
theorem make_depth {A : Around} {C : Addr} {us : List Value} {kw : List (Str × Value)} : (A.under (.builtin "type.__call__" ⟨.ref C :: us, kw⟩)).depth = A.depth + 1 := by
  first | rfl | simp [Around.under, Code.weight, Code.isCreation, Code.isGuard, Code.isCaller, Code.frames, Code.isFrame, guardIds]
theorem make_units {A : Around} {C : Addr} {us : List Value} {kw : List (Str × Value)} : (A.under (.builtin "type.__call__" ⟨.ref C :: us, kw⟩)).units = A.units + 1 := by
  first | rfl | simp [Around.under, Code.cUnits, Code.frames, Code.isFrame]
theorem Room.make {k : Nat} {A : Around} (r : Room (k + 1) A) (C : Addr) (us : List Value) (kw : List (Str × Value)) : Room k (A.under (.builtin "type.__call__" ⟨.ref C :: us, kw⟩)) :=
  ⟨r.hd, by have := r.dp; rw [make_depth]; omega, by have := r.un; rw [make_units]; omega⟩
theorem Room.depth {k : Nat} {A : Around} (r : Room k A) : A.depth < recursionLimit := by have := r.dp; omega
theorem Room.units {k : Nat} {A : Around} (r : Room k A) : A.units + 64 < cLine := by have := r.un; omega
def tNil : TA := fun _ H Q => Q [] H
def tCons (ta : TE) (tr : TA) : TA := fun σ H Q => ta σ H fun x H1 => tr σ H1 fun xs H2 => Q (x :: xs) H2
section
variable {X : Cx} {e : Expr} {es : List Expr} {te : TE} {t : TA} {pos : Pos}
theorem pa_nil : PA X [] tNil := fun _ _ _ _ H Q I h => Calls.spliced_nil ⟨[], H, I, .nil, h⟩
theorem pa_cons (ha : PE X e te) (hr : PA X es t) (hs : starEach (e :: es) X.env = (false, eval e X.env) :: starEach es X.env := by rfl) : PA X (e :: es) (tCons te t) := by
  intro pos pins s σ H Q I h
  rw [hs]
  show wpAny _ _ (spliced ((false, eval e X.env) :: backTo pos (starEach es X.env))) _ _ s
  refine Calls.spliced_cons (thn (ha pins s σ H _ I h) fun u s1 ⟨x, H1, I1, r1, q1⟩ => ?_)
  exact thn (hr pos pins s1 σ H1 _ I1 q1) fun us s2 ⟨xs, H2, I2, r2, q2⟩ => ⟨x :: xs, H2, I2, .cons r1 r2, q2⟩
def tTup (t : TA) : TE := fun σ H Q => t σ H fun xs H1 => xs.length ≤ sizeLine ∧ ∀ p, H1 p = none → Q (.ref p) (upd H1 p (.tup xs))
def tLst (t : TA) : TE := fun σ H Q => t σ H fun xs H1 => xs.length ≤ sizeLine ∧ ∀ p, H1 p = none → Q (.ref p) (upd H1 p (.lst xs))
theorem pe_tup {x1} (h : PA X es t) : PE X (.Tuple es x1 pos) (tTup t) := by
  intro pins s σ H Q I hq
  refine wpAny_Tuple_spliced (thn (h pos pins s σ H _ I hq) fun us s1 ⟨xs, H1, I1, r, z, q⟩ => ⟨by rw [← r.length]; exact z, ?_⟩)
  have hf : H1 s1.heap.objs.size = none := I1.hok.fresh (Nat.le_refl _)
  refine ⟨.ref s1.heap.objs.size, upd H1 s1.heap.objs.size (.tup xs), I1.laid (t' := s1.toks) (fun b u e => Heap.get?_push_of_some _ e) (Nat.le_refl _) ?_, rfl, q _ hf⟩
  exact ⟨z, us, r, ⟨_, Heap.get?_push_size _ rfl, rfl, _, rfl⟩⟩
theorem pe_lst (h : PA X es t) : PE X (.List es pos) (tLst t) := by
  intro pins s σ H Q I hq
  refine wpAny_List_spliced (thn (h pos pins s σ H _ I hq) fun us s1 ⟨xs, H1, I1, r, z, q⟩ => ⟨by rw [← r.length]; exact z, ?_⟩)
  have hf : H1 s1.heap.objs.size = none := I1.hok.fresh (Nat.le_refl _)
  refine ⟨.ref s1.heap.objs.size, upd H1 s1.heap.objs.size (.lst xs), I1.laid (t' := s1.toks) (fun b u e => Heap.get?_push_of_some _ e) (Nat.le_refl _) ?_, rfl, q _ hf⟩
  exact ⟨z, us, 0, r, Heap.get?_push_size _ rfl⟩
end
abbrev Sp := List V → Hp → VK → XK → Prop
abbrev CXT := List Env → Hp → Shared → XK → Value → Shared → Prop
structure Env0 (P : Program) (w : World) (K : PySem.W.Frag) (mg : Str → Option Value) (base : Heap) (A : Around) (outer : List Env) (s : Shared) (H : Hp) : Prop where
  frames : A.frames = some outer
  mod : Mod K mg base
  bs : ∀ b o, base.get? b = some o → s.heap.get? b = some o ∧ H b = none
  bsz : base.objs.size ≤ s.heap.objs.size
  funs : s.heap.FunFrames base outer
  frf : ∀ b ∈ frs outer, H b = none
  hok : HOk P w H s.heap
  bare : AllBare s.gens
def CE (outer : List Env) (P : Program) (w : World) (H : Hp) (s : Shared) (Q : VK) (u : Value) (s' : Shared) : Prop :=
  ∃ v H', s'.os = s.os ∧ AllBare s'.gens ∧ Un (frs outer) [] H H' s.heap s'.heap ∧ HOk P w H' s'.heap ∧ RelV v u ∧ Q v H'
def CR (CX : CXT) (outer : List Env) (P : Program) (w : World) (H : Hp) (s : Shared) (Q : VK) (E : XK) (r : Result) (s' : Shared) : Prop :=
  match r with
  | .ok (.ret u) => CE outer P w H s Q u s'
  | .ok _ => False
  | .error e => CX outer H s E e s'
structure FnOk (P : Program) (w : World) (K : PySem.W.Frag) (mg : Str → Option Value) (base : Heap) (CX : CXT) (k : Nat) (f : Addr) (fd : FuncData) (ps : List Str) (sp : Sp) : Prop where
  len : ∀ vs H Q E, sp vs H Q E → vs.length = ps.length
  run : ∀ (A : Around) (outer : List Env) (s : Shared) (H : Hp) (args : Args) (us : List Value) (vs : List V) (Q : VK) (E : XK), Room k A → Env0 P w K mg base A outer s H → BindsTo s fd args (ps.zip us) → Vals vs us → sp vs H Q E →
    codeAny (model P w) A (.call (.ref f) args) (CR CX outer P w H s Q E) s
theorem FnOk.mono {P : Program} {w : World} {K : PySem.W.Frag} {mg : Str → Option Value} {base : Heap} {CX : CXT} {j k : Nat} {f : Addr} {fd : FuncData} {ps : List Str} {sp : Sp} (F : FnOk P w K mg base CX j f fd ps sp) (h : j ≤ k) :
    FnOk P w K mg base CX k f fd ps sp := ⟨F.len, fun A outer s H args us vs Q E hr => F.run A outer s H args us vs Q E (hr.mono h)⟩
theorem FnOk.imp {P : Program} {w : World} {K : PySem.W.Frag} {mg : Str → Option Value} {base : Heap} {CX : CXT} {k : Nat} {f : Addr} {fd : FuncData} {ps : List Str} {sp sp' : Sp} (F : FnOk P w K mg base CX k f fd ps sp)
    (h : ∀ vs H Q E, sp' vs H Q E → sp vs H Q E) : FnOk P w K mg base CX k f fd ps sp' :=
  ⟨fun vs H Q E q => F.len vs H Q E (h _ _ _ _ q), fun A outer s H args us vs Q E hr he hb hv hs => F.run A outer s H args us vs Q E hr he hb hv (h _ _ _ _ hs)⟩
theorem Env0.make {P : Program} {w : World} {K : PySem.W.Frag} {mg : Str → Option Value} {base : Heap} {A : Around} {outer : List Env} {s : Shared} {H : Hp} (e : Env0 P w K mg base A outer s H) (C : Addr) (us : List Value) (kw : List (Str × Value)) :
    Env0 P w K mg base (A.under (.builtin "type.__call__" ⟨.ref C :: us, kw⟩)) outer s H := ⟨by first | exact e.frames | (simpa [Around.under, Code.envs, Code.isFrame, pushEnvs] using e.frames), e.mod, e.bs, e.bsz, e.funs, e.frf, e.hok, e.bare⟩
section
variable {X : Cx} {pins : List (Addr × Obj)} {σ : St} {H : Hp} {s s' : Shared}
theorem Inv.env0 (I : Inv X pins σ H s) : Env0 X.prog X.w X.K X.mg X.base X.A X.stack s H :=
  ⟨I.ok.frames, I.ok.mod, I.bs, Nat.le_trans I.ok.bsz I.sz, I.stack, I.stkFree, I.hok, I.bare⟩
theorem Inv.after {Q : VK} {u : Value} (I : Inv X pins σ H s) (h : CE X.stack X.prog X.w H s Q u s') : EP X pins σ Q u s' := by
  obtain ⟨v, H', os, bare, un, hok, r, q⟩ := h
  obtain ⟨hh, g, d, t, os'⟩ := s'
  obtain rfl : os' = s.os := os
  exact ⟨v, H', I.call (h' := hh) (g' := g) (d' := d) (t' := t) (ch := []) un hok bare (fun b z => absurd z (by simp)), r, q⟩
end
def tCall (sp : Sp) (dvs : List V) (E : XK) (t : TA) : TE := fun σ H Q => t σ H fun vs H1 => sp (vs ++ dvs) H1 Q E
def Binds (K : PySem.W.Frag) (fd : FuncData) (ps : List Str) (ds : List Value) : Prop :=
  ∀ (s : Shared) (us : List Value), K.In s.heap → (us ++ ds).length = ps.length → BindsTo s fd ⟨us, []⟩ (ps.zip (us ++ ds))
theorem Binds.all {K : PySem.W.Frag} {fd : FuncData} {ps : List Str} (h : ∀ us : List Value, us.length = ps.length → bindArgs fd ⟨us, []⟩ = pure (ps.zip us)) : Binds K fd ps [] := fun s us _ hl => by
  rw [List.append_nil] at hl ⊢
  exact .of_eq (h us hl)
def Passes (CX : CXT) (X : Cx) (E : XK) : Prop := ∀ (pins : List (Addr × Obj)) (σ : St) (H : Hp) (s : Shared) (e : Value) (s' : Shared), Inv X pins σ H s → CX X.stack H s E e s' → X.xe e s'
section
variable {X : Cx} {CX : CXT} {k : Nat} {f C : Addr} {fd : FuncData} {ps : List Str} {sp : Sp} {dvs : List V} {ds : List Value} {E : XK} {x m : Str} {p pos apos : Pos} {e o : Expr} {es : List Expr} {ta : TE} {t : TA}
theorem run_fn {pins : List (Addr × Obj)} {σ : St} {H : Hp} {s : Shared} {Q : VK} {us : List Value} {vs : List V} (F : FnOk X.prog X.w X.K X.mg X.base CX k f fd ps sp) (hr : Room k X.A) (hb : Binds X.K fd ps ds) (hd : Vals dvs ds) (hx : Passes CX X E)
    (I : Inv X pins σ H s) (r : Vals vs us) (h : sp (vs ++ dvs) H Q E) : wpAny (model X.prog X.w) X.A (call (.ref f) us) (EP X pins σ Q) X.xe s := by
  have r2 : Vals (vs ++ dvs) (us ++ ds) := r.append hd
  have hl : (us ++ ds).length = ps.length := by rw [← r2.length]; exact F.len _ _ _ _ h
  refine wpAny_call (codeAny_mono (F.run X.A X.stack s H ⟨us, []⟩ (us ++ ds) (vs ++ dvs) Q E hr I.env0 (hb s us I.kIn hl) r2 h) fun r s' hq => ?_)
  cases r with
  | error e => exact hx pins σ H s e s' I hq
  | ok fl =>
    cases fl with
    | ret u => exact I.after hq
    | next => exact False.elim hq
    | brk => exact False.elim hq
    | cont => exact False.elim hq
theorem pe_call (F : FnOk X.prog X.w X.K X.mg X.base CX k f fd ps sp) (hr : Room k X.A) (hg : Gl X x) (hm : X.mg x = some (.ref f)) (hk : PySem.W.keepIn X.K (.ref f) = true) (hb : Binds X.K fd ps ds) (hd : Vals dvs ds) (hx : Passes CX X E)
    (ha : PA X (e :: es) t) (hdb : (x == ("__debug__" : Str)) = false := by decide) (he : starEach (e :: es) X.env = (false, eval e X.env) :: starEach es X.env := by rfl) (hpl : (backTo pos (starEach es X.env)).any (·.1) = false := by rfl) :
    PE X (.Call (.Name x p) (e :: es) [] pos) (tCall sp dvs E t) := by
  intro pins s σ H Q I h
  refine wpAny_Call_Name_kw (ld_glob I hg hm ?_ hdb)
  refine PySem.W.callWith_K (h₀ := X.base) I.ok.mod.kin hk (thn (ha pos pins s σ H _ I h) fun us s1 ⟨vs, H1, I1, r, q⟩ => ⟨I1.kIn, ?_⟩) he hpl
  exact run_fn F hr hb hd hx I1 r q
structure Mk (K : PySem.W.Frag) (C f : Addr) : Prop where
  makes : PySem.W.makesIn K C = true
  init : PySem.W.findIn K (.ref C) "__init__" = some (some (.ref f))
  fn : PySem.W.isFn K (.ref f) = true
  kp : PySem.W.keepIn K (.ref C) = true
end
def PK (X : Cx) (kws : List Keyword) (t : TA) : Prop :=
  ∀ (pos : Pos) (pins : List (Addr × Obj)) (s : Shared) (σ : St) (H : Hp) (Q : List V → Hp → Prop), Inv X pins σ H s → t σ H Q → wpAny (model X.prog X.w) X.A (evalAll ((backToKw pos (keywordEach kws X.env)).map (·.2))) (AP X pins σ Q) X.xe s
section
variable {X : Cx} {CX : CXT} {k : Nat} {f C : Addr} {fd : FuncData} {ps ks : List Str} {sp : Sp} {E : XK} {x m : Str} {p pos apos kpos : Pos} {e o : Expr} {es : List Expr} {kws : List Keyword} {te ta : TE} {t tk : TA} {nm : Option Str}
theorem pk_nil : PK X [] tNil := fun _ _ _ _ H Q I h => wpAny_evalAll_nil ⟨[], H, I, .nil, h⟩
theorem pk_cons (ha : PE X e te) (hr : PK X kws t) : PK X (⟨nm, e, kpos⟩ :: kws) (tCons te t) := by
  intro pos pins s σ H Q I h
  show wpAny _ _ (evalAll ((do let v ← eval e X.env; standAt pos; pure v) :: (backToKw pos (keywordEach kws X.env)).map (·.2))) _ _ s
  refine wpAny_evalAll_cons (wpAny_bind (thn (ha pins s σ H _ I h) fun u s1 ⟨x, H1, I1, r1, q1⟩ => wpAny_bind (wpAny_standAt (wpAny_pure ?_))))
  exact thn (hr pos pins s1 σ H1 _ I1 q1) fun us s2 ⟨xs, H2, I2, r2, q2⟩ => ⟨x :: xs, H2, I2, .cons r1 r2, q2⟩
structure KBinds (K : PySem.W.Frag) (fd : FuncData) (ps ks : List Str) (g : List Value → List Value → List Value) (gV : List V → List V → List V) : Prop where
  to : ∀ (s : Shared) (us ws : List Value), K.In s.heap → (g us ws).length = ps.length → BindsTo s fd ⟨us, ks.zip ws⟩ (ps.zip (g us ws))
  rel : ∀ {vs : List V} {us : List Value} {zs : List V} {ws : List Value}, Vals vs us → Vals zs ws → Vals (gV vs zs) (g us ws)
def tCallK (sp : Sp) (gV : List V → List V → List V) (E : XK) (t tk : TA) : TE := fun σ H Q => t σ H fun vs H1 => tk σ H1 fun zs H2 => sp (gV vs zs) H2 Q E
variable {g : List Value → List Value → List Value} {gV : List V → List V → List V}
theorem run_fnk {pins : List (Addr × Obj)} {σ : St} {H : Hp} {s : Shared} {Q : VK} {us ws : List Value} {vs zs : List V} (F : FnOk X.prog X.w X.K X.mg X.base CX k f fd ps sp) (hr : Room k X.A) (hb : KBinds X.K fd ps ks g gV) (hx : Passes CX X E)
    (I : Inv X pins σ H s) (r : Vals vs us) (rz : Vals zs ws) (h : sp (gV vs zs) H Q E) : wpAny (model X.prog X.w) X.A (call (.ref f) us (ks.zip ws)) (EP X pins σ Q) X.xe s := by
  have r2 := hb.rel r rz
  have hl : (g us ws).length = ps.length := by rw [← r2.length]; exact F.len _ _ _ _ h
  refine wpAny_call (codeAny_mono (F.run X.A X.stack s H ⟨us, ks.zip ws⟩ (g us ws) (gV vs zs) Q E hr I.env0 (hb.to s us ws I.kIn hl) r2 h) fun r s' hq => ?_)
  cases r with
  | error e => exact hx pins σ H s e s' I hq
  | ok fl =>
    cases fl with
    | ret u => exact I.after hq
    | next => exact False.elim hq
    | brk => exact False.elim hq
    | cont => exact False.elim hq
theorem pe_callK (F : FnOk X.prog X.w X.K X.mg X.base CX k f fd ps sp) (hr : Room k X.A) (hg : Gl X x) (hm : X.mg x = some (.ref f)) (hk : PySem.W.keepIn X.K (.ref f) = true) (hb : KBinds X.K fd ps ks g gV) (hx : Passes CX X E)
    (ha : PA X (e :: es) t) (hkw : PK X kws tk) (hall : (backToKw pos (keywordEach kws X.env)).all (·.1.isSome) = true := by rfl) (hks : (backToKw pos (keywordEach kws X.env)).filterMap (·.1) = ks := by rfl)
    (hdb : (x == ("__debug__" : Str)) = false := by decide) (he : starEach (e :: es) X.env = (false, eval e X.env) :: starEach es X.env := by rfl)
    (hpl : ((backTo pos (starEach (e :: es) X.env)).any (·.1) || (backToKw pos (keywordEach kws X.env)).any (·.1.isNone)) = false := by rfl) :
    PE X (.Call (.Name x p) (e :: es) kws pos) (tCallK sp gV E t tk) := by
  intro pins s σ H Q I h
  refine wpAny_Call_Name_kw (ld_glob I hg hm ?_ hdb)
  refine PySem.W.callWith_KW (h₀ := X.base) I.ok.mod.kin hk hall (thn (ha pos pins s σ H _ I h) fun us s1 ⟨vs, H1, I1, r, q⟩ => ?_) hpl he
  refine thn (hkw pos pins s1 σ H1 _ I1 q) fun ws s2 ⟨zs, H2, I2, rz, q2⟩ => ⟨I2.kIn, ?_⟩
  rw [hks]
  exact run_fnk F hr hb hx I2 r rz q2
end
structure FnScope (N P : List Str) (sc : Scope) : Prop where
  kind : sc.kind = .function
  co : sc.isCoroutine = false
  gen : sc.isGenerator = false
  nd : N.Nodup
  pre : N.take P.length = P
  par : ∀ x ∈ P, sc.names.lookup x = some .local ∨ sc.names.lookup x = some .cell
  nofree : ∀ y ∈ sc.names, y.2 ≠ .free
theorem bindL_out {kindOf : Str → Option NameKind} {x : Str} : ∀ {binds : List (Str × Value)} {m : Str → Option Value}, (∀ v, (x, v) ∉ binds) → bindL kindOf binds m x = m x
  | [], _, _ => rfl
  | (n, v) :: r, m, h => by
    unfold bindL
    rw [bindL_out fun w hw => h w (List.mem_cons_of_mem _ hw)]
    split
    · have : x ≠ n := by rintro rfl; exact h v List.mem_cons_self
      simp [this]
    · rfl
theorem bindC_out {kindOf : Str → Option NameKind} {x : Str} : ∀ {binds : List (Str × Value)} {m : Str → Option Value}, (∀ v, (x, v) ∉ binds) → bindC kindOf binds m x = m x
  | [], _, _ => rfl
  | (n, v) :: r, m, h => by
    unfold bindC
    rw [bindC_out fun w hw => h w (List.mem_cons_of_mem _ hw)]
    split
    · rfl
    · have : x ≠ n := by rintro rfl; exact h v List.mem_cons_self
      simp [this]
theorem bindL_get {kindOf : Str → Option NameKind} {x : Str} {v : Value} : ∀ {P : List Str} {vs : List Value} {i : Nat} {m : Str → Option Value}, P.Nodup → P[i]? = some x → vs[i]? = some v → kindOf x = some .local →
    bindL kindOf (P.zip vs) m x = some v
  | [], _, _, _, _, h, _, _ => by simp at h
  | _ :: _, [], _, _, _, _, h, _ => by simp at h
  | p :: P, w :: vs, 0, m, nd, h1, h2, hk => by
    simp at h1 h2; subst h1; subst h2
    show bindL kindOf ((p, w) :: P.zip vs) m p = _
    unfold bindL
    rw [bindL_out fun v hv => (List.nodup_cons.mp nd).1 (List.of_mem_zip hv).1, if_pos hk]
    simp
  | p :: P, w :: vs, i + 1, m, nd, h1, h2, hk => by
    show bindL kindOf ((p, w) :: P.zip vs) m x = _
    unfold bindL
    exact bindL_get (i := i) (List.nodup_cons.mp nd).2 (by simpa using h1) (by simpa using h2) hk
theorem bindC_get {kindOf : Str → Option NameKind} {x : Str} {v : Value} : ∀ {P : List Str} {vs : List Value} {i : Nat} {m : Str → Option Value}, P.Nodup → P[i]? = some x → vs[i]? = some v → kindOf x ≠ some .local →
    bindC kindOf (P.zip vs) m x = some v
  | [], _, _, _, _, h, _, _ => by simp at h
  | _ :: _, [], _, _, _, _, h, _ => by simp at h
  | p :: P, w :: vs, 0, m, nd, h1, h2, hk => by
    simp at h1 h2; subst h1; subst h2
    show bindC kindOf ((p, w) :: P.zip vs) m p = _
    unfold bindC
    rw [bindC_out fun v hv => (List.nodup_cons.mp nd).1 (List.of_mem_zip hv).1, if_neg hk]
    simp
  | p :: P, w :: vs, i + 1, m, nd, h1, h2, hk => by
    show bindC kindOf ((p, w) :: P.zip vs) m x = _
    unfold bindC
    exact bindC_get (i := i) (List.nodup_cons.mp nd).2 (by simpa using h1) (by simpa using h2) hk
def start (N : List Str) (vs : List V) : St := vs.map some ++ List.replicate (N.length - vs.length) none
def cxOf (CX : CXT) (P : Program) (w : World) (K : PySem.W.Frag) (mg : Str → Option Value) (base : Heap) (N : List Str) (qual : Str) (scope : Scope) (f : Addr) (cd : Value) (A : Around) (outer : List Env) (s : Shared) (H : Hp) (E : XK) : Cx where
  prog := P
  w := w
  K := K
  mg := mg
  base := base
  A := A.deeper (envOfC qual scope s.heap.objs.size f cd)
  N := N
  s₀ := s
  H₀ := H
  env := envOfC qual scope s.heap.objs.size f cd
  outer := outer
  stack := envOfC qual scope s.heap.objs.size f cd :: outer
  ex := []
  calm := true
  fn := fun _ => true
  pn := []
  xe := fun e s' => wpAny (model P w) (A.deeper (envOfC qual scope s.heap.objs.size f cd)) (leaving (envOfC qual scope s.heap.objs.size f cd) e) (fun _ s'' => CX outer H s E e s'') (fun e' s'' => CX outer H s E e' s'') s'
theorem cell_has {sc : Scope} {n : Nat} {x : Str} (h : sc.names.lookup x = some .cell) : ∃ c, (cellsFrom n sc.names []).lookup x = some c := by
  have q := PySem.W.cellsFrom_some sc.names n [] (.inl h)
  exact Option.isSome_iff_exists.mp q
theorem inv_start {CX : CXT} {P : Program} {w : World} {K : PySem.W.Frag} {mg : Str → Option Value} {base : Heap} {N ps : List Str} {qual : Str} {scope : Scope} {f : Addr} {cd : Value} {A : Around} {outer : List Env} {s s1 : Shared} {H : Hp} {E : XK} {us : List Value} {vs : List V}
    (S : FnScope N ps scope) (hd : A.handled = none) (e0 : Env0 P w K mg base A outer s H) (hl : vs.length = ps.length) (r : Vals vs us)
    (x : InCallC s s.heap.objs.size (bindL (envOfC qual scope s.heap.objs.size f cd).kindOf (ps.zip us) fun _ => none) (cellsFrom (s.heap.objs.size + 1) scope.names []) (bindC (envOfC qual scope s.heap.objs.size f cd).kindOf (ps.zip us) fun _ => none) s1) :
    Inv (cxOf CX P w K mg base N qual scope f cd A outer s H E) [] (start N vs) H s1 := by
  have hpl : ps.length ≤ N.length := by have := congrArg List.length S.pre; rw [List.length_take] at this; omega
  obtain ⟨h1, tk, rfl, hk⟩ := x.done
  have noA : ∀ b : Addr, b ∉ (cxOf CX P w K mg base N qual scope f cd A outer s H E).ex := fun b z => absurd (show b ∈ ([] : List Addr) from z) (by simp)
  refine ⟨⟨e0.mod, S.kind, rfl, rfl, Nat.le_refl _, fun y z c h1 h2 => ?_, fun y hy => ?_, fun y c _ h => ?_, fun _ => hd, Around.frames_deeper e0.frames, .inr ⟨rfl, rfl⟩, fun b z => absurd z (noA b), e0.bs, e0.bsz, fun b _ _ => noA b, fun b z => absurd z (noA b), e0.funs, e0.frf⟩,
    rfl, e0.bare, Un.kept hk, ⟨_, x.toInCall.ns, fun i y v h1 h2 h3 => ?_⟩, fun y c h => ⟨_, x.cell y c h⟩, e0.hok.fresh (Nat.le_refl _), fun y c h => ?_, fun p hp => absurd (show p ∈ ([] : List (Addr × Obj)) from hp) (by simp), e0.hok.kept hk, ?_⟩
  · exact name_of_addr x.apart (PySem.mem_of_lookup h1) (PySem.mem_of_lookup h2)
  · have hy : scope.names.lookup y = some .cell ∨ scope.names.lookup y = some .free := hy
    rcases hy with hy | hy
    · exact cell_has hy
    · exact absurd rfl (S.nofree _ (PySem.mem_of_lookup hy))
  · exact Nat.le_of_lt (x.above y c (PySem.mem_of_lookup h))
  · have hi : i < vs.length := by
      unfold start at h2
      by_cases hi : i < vs.length
      · exact hi
      · rw [List.getElem?_append_right (by simpa using hi)] at h2
        rw [List.getElem?_replicate] at h2
        split at h2 <;> cases h2
    have ha : vs[i]? = some v := by
      unfold start at h2
      rw [List.getElem?_append_left (by simpa using hi), List.getElem?_map] at h2
      cases e : vs[i]? with
      | none => rw [e] at h2; cases h2
      | some a => rw [e] at h2; cases h2; rfl
    obtain ⟨u, hu, rv⟩ := r.get ha
    have hp : ps[i]? = some y := by
      rw [← S.pre, List.getElem?_take_of_lt (by omega)]; exact h1
    have ndP : ps.Nodup := by rw [← S.pre]; exact S.nd.sublist (List.take_sublist _ _)
    refine ⟨u, rv, ?_⟩
    rcases S.par y (List.mem_of_getElem? hp) with k | k
    · exact .inl ⟨k, bindL_get ndP hp hu k⟩
    · obtain ⟨c, e⟩ := cell_has (n := s.heap.objs.size + 1) k
      refine .inr ⟨.inl k, c, e, ?_⟩
      have q := x.cell y c e
      rw [bindC_get ndP hp hu (by show scope.names.lookup y ≠ _; rw [k]; decide)] at q
      exact q
  · exact e0.hok.fresh (Nat.le_of_lt (x.above y c (PySem.mem_of_lookup h)))
  · unfold start
    show _ = N.length
    rw [List.length_append, List.length_map, List.length_replicate]
    omega
theorem fn_of {CX : CXT} {P : Program} {w : World} {K : PySem.W.Frag} {mg : Str → Option Value} {base : Heap} {k : Nat} {f : Addr} {name qual : Str} {params : Arguments} {body : List Stmt} {scope : Scope} {dV kV doc pm cdv ct oc : Value} {an od : Option Addr}
    {osl : Array (Option Value)} {N ps : List Str} {sp : Sp} (lk : K.lookup f = some ⟨oc, od, .func (PySem.W.fnOf name qual params body scope dV kV doc pm an cdv ct), osl⟩) (hcd : PySem.W.codeIn K cdv qual = true) (S : FnScope N ps scope)
    (len : ∀ vs H Q E, sp vs H Q E → vs.length = ps.length)
    (hbody : ∀ (A : Around) (outer : List Env) (s : Shared) (H : Hp) (vs : List V) (Q : VK) (E : XK), Room k (A.deeper (envOfC qual scope s.heap.objs.size f cdv)) → sp vs H Q E →
      ∃ t, PSs (cxOf CX P w K mg base N qual scope f cdv A outer s H E) body t ∧ t { nx := fun _ H' => Q .non H', rt := Q } (start N vs) H) :
    FnOk P w K mg base CX (k + 1) f (PySem.W.fnOf name qual params body scope dV kV doc pm an cdv ct) ps sp := by
  refine ⟨len, fun A outer s H args us vs Q E hr e0 hb r hsp => ?_⟩
  have hl := len _ _ _ _ hsp
  have KX : K.In s.heap := e0.mod.kin.keeps fun b o e => (e0.bs b o e).1
  have lim : s.heap.NoLimit := e0.mod.nolimit.keeps fun b o e => (e0.bs b o e).1
  have hkind : ∀ y ∈ ps.zip us, scope.names.lookup y.1 = some .local ∨ (scope.names.lookup y.1 = some .cell ∧ ((cellsFrom (s.heap.objs.size + 1) scope.names []).lookup y.1).isSome = true) := fun ⟨n, v⟩ hy => by
    rcases S.par n (List.of_mem_zip hy).1 with q | q
    · exact .inl q
    · exact .inr ⟨q, PySem.W.cellsFrom_some _ _ _ (.inl q)⟩
  refine codeAny_call_function hr.depth (KX _ _ lk) rfl S.co S.gen rfl (PySem.W.codeRec_of KX hcd) (hb _ _ _ _ ?_)
  refine wpAny_newFunctionEnv_cells S.kind hkind fun env he s1 x => ?_
  subst he
  refine ⟨lim.keeps x.toInCall.keep, codeAny_func ?_⟩
  obtain ⟨t, ht, hq⟩ := hbody A outer s H vs Q E (hr.deeper _) hsp
  have I : Inv (cxOf CX P w K mg base N qual scope f cdv A outer s H E) [] (start N vs) H s1 := inv_start S hr.hd e0 hl r x
  refine wpAny_mono (ht [] s1 (start N vs) H _ I hq) (fun fl s' hs => ?_) fun e s' hs => hs
  have fin : ∀ {σ' : St} {H' : Hp} {v : V} {u : Value}, Inv (cxOf CX P w K mg base N qual scope f cdv A outer s H E) [] σ' H' s' → RelV v u → Q v H' → CE outer P w H s Q u s' :=
    fun {σ' H' v u} J rv q => ⟨v, H', J.os, J.bare, J.base, J.hok, rv, q⟩
  cases fl with
  | ret u =>
    obtain ⟨v, σ', H', J, rv, q⟩ := hs
    exact fin J rv q
  | next =>
    obtain ⟨σ', H', J, q⟩ := hs
    exact fin (v := V.non) (u := Value.none) J rfl q
  | brk =>
    obtain ⟨_, _, _, q⟩ := hs
    exact False.elim q
  | cont =>
    obtain ⟨_, _, _, q⟩ := hs
    exact False.elim q
end L2
namespace L2
open PySem PySem.Spec PyProof.Rows
section
variable {X : Cx} {x : Str} {p pos : Pos} {e : Expr} {es : List Expr} {t : TA} {id T : String} {r : List V → Hp → VK → Prop}
def tCB (r : List V → Hp → VK → Prop) (t : TA) : TE := fun σ H Q => t σ H fun vs H1 => r vs H1 Q
theorem pe_callB (hc : CallR X (.builtin id) r) (hg : Gl X x) (hm : X.mg x = none) (hv : bootBuiltins x = some (.builtin id)) (ha : PA X (e :: es) t) (hn : x ≠ "__name__" := by decide) (hdb : (x == ("__debug__" : Str)) = false := by decide)
    (he : starEach (e :: es) X.env = (false, eval e X.env) :: starEach es X.env := by rfl) (hpl : (backTo pos (starEach es X.env)).any (·.1) = false := by rfl) : PE X (.Call (.Name x p) (e :: es) [] pos) (tCB r t) := by
  intro pins s σ H Q I h
  refine wpAny_Call_Name_kw (ld_blt I hg hm hv ?_ hn hdb)
  exact PyProof.Rows.callWith_builtin1 (thn (ha pos pins s σ H _ I h) fun us s1 ⟨vs, H1, I1, r1, q1⟩ => hc pins s1 σ H1 vs us Q I1 r1 q1) he hpl
end
end L2
namespace HT
open PySem PyProof.Rows
section
open PySem.SeqAt
open PySem.AutoSeq1 (wpAny_loadPart')
open PySem.MeetsSeq PySem.MeetsSeq2 PySem.MeetsSeq3
end
section
variable {prog : Program} {w : World} {A : Around} {E : Value → Shared → Prop} {s : Shared}
end
end HT
namespace L2
open PySem PySem.Spec PyProof.Rows
abbrev TO := St → Hp → (Option Int → Hp → Prop) → Prop
def PO (X : Cx) (e : Option Expr) (t : TO) : Prop :=
  ∀ (pins : List (Addr × Obj)) (s : Shared) (σ : St) (H : Hp) (Q : Option Int → Hp → Prop), Inv X pins σ H s → t σ H Q →
    wpAny (model X.prog X.w) X.A (evalPart e X.env) (fun u s' => ∃ o H', Inv X pins σ H' s' ∧ IsPart u o ∧ Q o H') X.xe s
section
variable {X : Cx} {e : Expr} {te : TE} {lo hi : Option Expr} {tl th : TO} {pos p2 : Pos}
def SlR (X : Cx) (r : V → Option Int → Option Int → Hp → VK → Prop) : Prop :=
  ∀ (pins : List (Addr × Obj)) (s : Shared) (σ : St) (H : Hp) (x : V) (v vl vu : Value) (lo hi : Option Int) (sl : Addr) (Q : VK), Inv X pins σ H s → RelV x v → s.heap.IsSliceOf sl vl vu .none → IsPart vl lo → IsPart vu hi → r x lo hi H Q →
    ∃ T id, typeLookup (.type T) "__getitem__" = pure (some (.builtin id)) ∧ s.TypeIs v T ∧ wpAny (model X.prog X.w) X.A (getItem v (.ref sl)) (EP X pins σ Q) X.xe s
theorem SlR.or {r r' : V → Option Int → Option Int → Hp → VK → Prop} (h : SlR X r) (h' : SlR X r') : SlR X (fun x lo hi H Q => r x lo hi H Q ∨ r' x lo hi H Q) := by
  intro pins s σ H x v vl vu lo hi sl Q I rx hs pl pu q
  rcases q with q | q
  · exact h pins s σ H x v vl vu lo hi sl Q I rx hs pl pu q
  · exact h' pins s σ H x v vl vu lo hi sl Q I rx hs pl pu q
end
end L2
namespace L2
open PySem PySem.Spec PyProof.Rows
def ixN (n : Nat) (i : Int) : Option Nat := if 0 ≤ i then (if i < n then some i.toNat else none) else if -(n : Int) ≤ i then some (i + n).toNat else none
def atI {α : Type} (xs : List α) (i : Int) : Option α := (ixN xs.length i).bind fun j => xs[j]?
theorem ixN_seq {n : Nat} {i : Int} {j : Nat} (h : ixN n i = some j) : seqIndex? i n = some j ∧ j < n ∧ -(n : Int) ≤ i ∧ i < n := by
  unfold ixN at h
  by_cases h0 : 0 ≤ i
  · rw [if_pos h0] at h
    by_cases h1 : i < n
    · rw [if_pos h1] at h
      have e : i.toNat = j := Option.some.inj h
      exact ⟨by rw [seqIndex_of h0 h1, e], by omega, by omega, h1⟩
    · rw [if_neg h1] at h; cases h
  · rw [if_neg h0] at h
    by_cases h1 : -(n : Int) ≤ i
    · rw [if_pos h1] at h
      have e : (i + n).toNat = j := Option.some.inj h
      exact ⟨by rw [seqIndex_neg (by omega) h1, e], by omega, h1, by omega⟩
    · rw [if_neg h1] at h; cases h
theorem atI_get {α : Type} {xs : List α} {i : Int} {v : α} (h : atI xs i = some v) : ∃ j, seqIndex? i xs.length = some j ∧ xs[j]? = some v ∧ j < xs.length ∧ -(xs.length : Int) ≤ i ∧ i < xs.length := by
  unfold atI at h
  cases e : ixN xs.length i with
  | none => rw [e] at h; cases h
  | some j =>
    rw [e] at h
    obtain ⟨h1, h2, h3, h4⟩ := ixN_seq e
    exact ⟨j, h1, h, h2, h3, h4⟩
def PlainIx (b : Expr) : Prop := ∀ o i, subscripted b false o i = operate [o, i] (getItem o i)
def IxR (X : Cx) (r : R2) : Prop :=
  ∀ (value slice : Expr) (pins : List (Addr × Obj)) (s : Shared) (σ : St) (H : Hp) (x y : V) (v u : Value) (Q : VK), Inv X pins σ H s → RelV x v → RelV y u → r x y H Q →
    subscripted slice false v u = operate [v, u] (getItem v u) → wpAny (model X.prog X.w) X.A (subscriptTail value slice v u) (EP X pins σ Q) X.xe s
def MtR (X : Cx) (id : String) (r : V → List V → Hp → VK → Prop) : Prop :=
  ∀ (pins : List (Addr × Obj)) (s : Shared) (σ : St) (H : Hp) (x : V) (xs : List V) (v : Value) (us : List Value) (Q : VK), Inv X pins σ H s → RelV x v → Vals xs us → r x xs H Q →
    wpAny (model X.prog X.w) X.A (call (.builtin id) (v :: us)) (EP X pins σ Q) X.xe s
section
variable {X : Cx} {a b : Expr} {ta tb : TE} {pos : Pos}
theorem IxR.or {r r' : R2} (h : IxR X r) (h' : IxR X r') : IxR X (fun x y H Q => r x y H Q ∨ r' x y H Q) := by
  intro value slice pins s σ H x y v u Q I rx ry q hs
  rcases q with q | q
  · exact h value slice pins s σ H x y v u Q I rx ry q hs
  · exact h' value slice pins s σ H x y v u Q I rx ry q hs
theorem MtR.or {id : String} {r r' : V → List V → Hp → VK → Prop} (h : MtR X id r) (h' : MtR X id r') : MtR X id (fun x xs H Q => r x xs H Q ∨ r' x xs H Q) := by
  intro pins s σ H x xs v us Q I rx rs q
  rcases q with q | q
  · exact h pins s σ H x xs v us Q I rx rs q
  · exact h' pins s σ H x xs v us Q I rx rs q
theorem pe_ix {r : R2} (hr : IxR X r) (ha : PE X a ta) (hb : PE X b tb) (hs : PlainIx b) : PE X (.Subscript a b pos) (tOp r ta tb) := by
  intro pins s σ H Q I h
  exact Subscript_ (binT ha hb I h fun v u s2 x y H2 I2 rx ry q => hr a b pins s2 σ H2 x y v u Q I2 rx ry q (hs _ _))
def rIxL (K : PySem.W.Frag) : R2 := fun x y H Q => ∃ p xs i v, x = .ref p ∧ y = .int i ∧ SqL K H p xs ∧ atI xs i = some v ∧ Q v H
def rIxT (K : PySem.W.Frag) : R2 := fun x y H Q => ∃ p xs i v, x = .ref p ∧ y = .int i ∧ SqT K H p xs ∧ atI xs i = some v ∧ Q v H
def rIxS : R2 := fun x y H Q => ∃ z i c, x = .str z ∧ y = .int i ∧ z.length ≤ sizeLine ∧ atI z.cps.toList i = some c ∧ Q (.str ⟨#[c]⟩) H
theorem ix_list : IxR X (rIxL X.K) := by
  intro value slice pins s σ H x y v u Q I rx ry h hs
  obtain ⟨p, xs, i, z, rfl, rfl, hq, he, q⟩ := h
  cases rx
  obtain ⟨t, rfl⟩ := ry
  obtain ⟨its, r, pl, hz⟩ := I.list hq
  obtain ⟨j, h1, h2, h3, h4, h5⟩ := atI_get he
  obtain ⟨w, ew, rw'⟩ := r.get h2
  have hl := r.length
  have hn := line63
  have fin : EP X pins σ Q w s := ⟨z, H, I, rw', q⟩
  by_cases h0 : 0 ≤ i
  · have hj : i.toNat = j := by
      rw [seqIndex_of h0 h5] at h1
      exact Option.some.inj h1
    exact item_listR pl.isList h0 (by omega) (by rw [hj]; simpa using ew) fin hs
  · have hj : (i + (its.toArray.size : Int)).toNat = j := by
      rw [seqIndex_neg (by omega) h4] at h1
      rw [List.size_toArray, ← hl]
      exact Option.some.inj h1
    exact subscriptTail_builtinR (x := w) pl.isList.typeIs slot_list_getitem.lookup
      (wpAny_getItem_list_neg (Q := fun r s' => r = w ∧ EP X pins σ Q r s') pl.isList (by omega) (by rw [List.size_toArray] <;> omega) (by omega) (by rw [hj]; simpa using ew) ⟨rfl, fin⟩) hs
theorem ix_tup : IxR X (rIxT X.K) := by
  intro value slice pins s σ H x y v u Q I rx ry h hs
  obtain ⟨p, xs, i, z, rfl, rfl, hq, he, q⟩ := h
  cases rx
  obtain ⟨t, rfl⟩ := ry
  obtain ⟨its, r, pl, hz⟩ := I.tuple hq
  obtain ⟨j, h1, h2, h3, h4, h5⟩ := atI_get he
  obtain ⟨w, ew, rw'⟩ := r.get h2
  have hl := r.length
  have hn := line63
  have fin : EP X pins σ Q w s := ⟨z, H, I, rw', q⟩
  exact subscriptTail_builtinR (x := w) pl.typeIs slot_tuple_getitem.lookup
    (getItem_tuple (j := j) (Q := fun r s' => r = w ∧ EP X pins σ Q r s') pl (by omega) (by omega) (by rw [List.size_toArray, ← hl]; exact h1) (by simpa using ew) ⟨rfl, fin⟩) hs
theorem ix_str : IxR X rIxS := by
  intro value slice pins s σ H x y v u Q I rx ry h hs
  obtain ⟨z, i, c, rfl, rfl, hz, he, q⟩ := h
  obtain ⟨t, rfl⟩ := rx
  obtain ⟨t', rfl⟩ := ry
  obtain ⟨j, h1, h2, h3, h4, h5⟩ := atI_get he
  have hl : z.cps.toList.length = z.length := by simp [Str.length]
  rw [hl] at h1 h4 h5
  have hn := line63
  exact tail_any (typeIs_str s z t) slot_str_getitem.lookup (getItem_str (c := c) (by
    have e1 : decide (i < -(2 ^ 63 : Int)) = false := decide_eq_false (by omega)
    have e2 : decide (i ≥ 2 ^ 63) = false := decide_eq_false (by omega)
    rw [e1, e2, Bool.or_false]) (by rw [h1]; simpa using h2) ⟨.str ⟨#[c]⟩, H, I.tok _, ⟨_, rfl⟩, q⟩) hs
def rIx (K : PySem.W.Frag) : R2 := fun x y H Q => rIxL K x y H Q ∨ rIxT K x y H Q ∨ rIxS x y H Q
theorem ix_seq : IxR X (rIx X.K) := ix_list.or (ix_tup.or ix_str)
theorem Inv.lst {pins : List (Addr × Obj)} {σ : St} {H : Hp} {s : Shared} {p : Addr} {xs : List V} (I : Inv X pins σ H s) (h : H p = some (.lst xs)) :
    ∃ (its : List Value) (n : Nat), Vals xs its ∧ s.heap.get? p = some { cls := .type "list", data := .seq its.toArray n } ∧ xs.length ≤ sizeLine := by
  obtain ⟨z, its, n, r, e⟩ := I.hok p _ h
  exact ⟨its, n, r, e, z⟩
theorem call_len_seq : CallR X (.builtin "len") (fun xs H Q => ∃ p ys, xs = [.ref p] ∧ (SqL X.K H p ys ∨ SqT X.K H p ys) ∧ Q (.int ys.length) H) := by
  intro pins s σ H xs us Q I r h
  obtain ⟨p, ys, rfl, hq, q⟩ := h
  obtain ⟨u, rfl, rx⟩ := vals1 r
  cases rx
  have hn := line63
  rcases hq with hq | hq
  · obtain ⟨its, r', pl, hz⟩ := I.list hq
    have hlen := r'.length
    exact Calls.call_len_list pl.isList (by simp only [List.size_toArray] <;> omega) ⟨.int ys.length, H, I.tok _, ⟨s.toks + 1, by rw [List.size_toArray, hlen]⟩, q⟩
  · obtain ⟨its, r', pl, hz⟩ := I.tuple hq
    have hlen := r'.length
    exact len_tuple pl (by simp only [List.size_toArray] <;> omega) ⟨.int ys.length, H, I.tok _, ⟨s.toks + 1, by rw [List.size_toArray, hlen]⟩, q⟩
theorem CallR.or {f : Value} {r r' : List V → Hp → VK → Prop} (h : CallR X f r) (h' : CallR X f r') : CallR X f (fun xs H Q => r xs H Q ∨ r' xs H Q) := by
  intro pins s σ H xs us Q I rs q
  rcases q with q | q
  · exact h pins s σ H xs us Q I rs q
  · exact h' pins s σ H xs us Q I rs q
variable {o e : Expr} {es : List Expr} {to : TE} {t : TA} {name : Str} {apos cpos : Pos} {T id : String} {r : V → List V → Hp → VK → Prop}
/- xs.append(e), list.index on a module's tuple .. are MtR facts of 06m -/
end
end L2
namespace L2
open PySem PySem.Spec PyProof.Rows
theorem Vals.one : ∀ {x : V} {us : List Value}, Vals [x] us → ∃ u, us = [u] ∧ RelV x u
  | _, _, .cons r .nil => ⟨_, rfl, r⟩
theorem Vals.two : ∀ {x y : V} {us : List Value}, Vals [x, y] us → ∃ u v, us = [u, v] ∧ RelV x u ∧ RelV y v
  | _, _, _, .cons r (.cons q .nil) => ⟨_, _, rfl, r, q⟩
theorem Vals.zero : ∀ {us : List Value}, Vals [] us → us = []
  | _, .nil => rfl
section
variable {X : Cx} {pins : List (Addr × Obj)} {σ : St} {H : Hp} {s : Shared} {l b : Addr} {xs ys zs : List V}
theorem Inv.lnew {its : List Value} {t' : Nat} (I : Inv X pins σ H s) (hv : Vals ys its) (hz : ys.length ≤ sizeLine) :
    Inv X pins σ (upd H s.heap.objs.size (.lst ys)) { s with heap := s.heap.push { cls := .type "list", data := .seq its.toArray }, toks := t' } :=
  I.laid (fun _ _ q => Heap.get?_push_of_some _ q) (Nat.le_refl _) ⟨hz, its, 0, hv, Heap.get?_push_size _ rfl⟩
theorem Inv.fresh (I : Inv X pins σ H s) : H s.heap.objs.size = none := I.hok.fresh (Nat.le_refl _)
end
section
variable {X : Cx}
end
section
variable {prog : Program} {w : World} {A : Around} {E : Value → Shared → Prop} {s : Shared}
set_option maxRecDepth 100000 in
end
section
variable {X : Cx}
end
end L2
namespace Att
open PySem PySem.W PySem.Calls PyProof.Rows
theorem ints_of_wellAll {P : Params} {h : Heap} : ∀ (ns : List Int) (vs : List Value), WellAll P h vs (ns.map WData.int) → IntsAre vs ns := by
  intro ns
  induction ns with
  | nil =>
    intro vs w
    rw [List.map_nil] at w
    cases w
    exact .nil
  | cons n ns ih =>
    intro vs w
    rw [List.map_cons] at w
    cases w with
    | cons a b =>
      cases a
      exact .cons _ _ (ih _ b)
theorem script_of {l : OpenLaw} {n : Nat} (hn : l.most = some n) {P : Params} {h : Heap} {args : List WData} {vals : List Value}
    (hpre : l.row.toRowW.claim.pre args = true) (hwl : WellAll P h vals args) :
    ∃ a vs ns, vals = [Value.ref a] ∧ args = [WData.list (ns.map WData.int)] ∧ h.get? a = some { cls := .type "list", data := .seq vs.toArray } ∧ IntsAre vs ns ∧ ns.length ≤ n := by
  have hsh : WShape.hasAll [] args [.list .int] = true := (pre_splitW hpre).1
  have hc : l.pre.holds [] { args := args } = true := (pre_splitW hpre).2
  obtain ⟨d, r, rfl, h1, h2⟩ := hasAllW_cons hsh
  obtain rfl := hasAllW_nil h2
  obtain ⟨xs, rfl, h3⟩ := hasW_list h1
  obtain ⟨ns, rfl⟩ := items_int h3
  have hlen : ns.length ≤ n := by
    unfold OpenLaw.pre at hc
    have h4 : (WTm.not (.lt (.lit (.int (n : Int))) (.len (.arg 0)))).holds [] { args := [.list (ns.map .int)] } = true := by
      have h4 := (holds_andW hc).1
      rw [hn] at h4
      exact h4
    have h5 := condW_of h4 (w_not (w_lt w_lit (w_len_list (w_arg rfl))))
    rw [List.length_map] at h5
    refine Nat.le_of_not_lt fun q => ?_
    have q' : (n : Int) < ((ns.length : Nat) : Int) := by omega
    first
      | (rw [decide_eq_true q'] at h5; exact absurd h5 (by decide))
      | (simp at h5; omega)
  cases hwl with
  | cons w1 w2 =>
    cases w2
    cases w1 with
    | list ho hall => exact ⟨_, _, ns, rfl, rfl, ho, ints_of_wellAll ns _ hall, hlen⟩
theorem post_true (l : OpenLaw) (args : List WData) : l.row.toRowW.claim.post args (.bool true) args = true :=
  postW_of (r := l.row.toRowW) (X := (true == true))
    (show WShape.has [] (.bool true) .bool = true by first | rfl | decide | simp [WShape.has, WShape.arms, WShape.armsAll])
    (show (WTm.eq .res (.lit (.bool true))).value [] { args := args, res := some (.bool true), after := args } = some (.bool (true == true)) from w_eq_bool (w_res rfl) w_lit) rfl
theorem attach_call {l : OpenLaw} {n : Nat} {q : Program} {loose : List Str} {XP : (Str → Option Value) → Heap → Prop} {YP : World → Heap → Prop} {d : DefRec}
    (hn : l.most = some n) (hdf : d.params.defaults = [])
    (call : ∀ (w : World) (s₀ s₁ : Shared) (mg mb : Str → Option Value) (fa : Addr) (o : Obj) (pm cd doc : Value) (a : Addr) (vs : List Value) (ns : List Int),
      Ground q loose [] XP w s₀ mg mb s₁.heap → YP w s₁.heap →
      s₁.heap.get? fa = some o → o.data = .func (docDef d.name d.params d.body d.scope pm cd doc) → s₁.heap.CodeRec cd d.name → mg d.name = some (.ref fa) →
      s₁.heap.get? a = some { cls := .type "list", data := .seq vs.toArray } → IntsAre vs ns → ns.length ≤ n → s₁.gens = #[] →
      codeAny (model l.prog w) callerA (.call (.ref fa) ⟨[.ref a], []⟩) (fun r s' => r = .ok (.ret (.bool true)) ∧ OldK s₁.heap s'.heap ∧ s'.os = s₁.os ∧ AllBare s'.gens) s₁) :
    WalkO q loose XP YP l.row.toRowW d [] (fun f vs => PySem.call f vs) := by
  intro w s₀ s₁ mg mb G Y fa o pm cd doc dV kV ho hd hcd hD hmg hg args vals as hpre hlay hrd hwl hlo
  obtain rfl : dV = .none := Dflts.none hD hdf
  obtain rfl : kV = .none := Dflts.noKw hD
  obtain ⟨a, vs, ns, rfl, rfl, hobj, hints, hlen⟩ := script_of hn hpre hwl
  refine enter_call (codeAny_mono (call w s₀ s₁ mg mb fa o pm cd doc a vs ns G Y ho (fd_plain hd) hcd hmg hobj hints hlen hg) fun r s' hq => ?_)
  obtain ⟨rfl, h2, h3, h4⟩ := hq
  exact ⟨.inl ⟨.bool true, .bool true, [], rfl, fun _ => rfl, .bool true, post_true l _, fun _ => ⟨List.Pairwise.nil, fun _ hm => (nomatch hm)⟩⟩, h2, h3, h4⟩
section
variable {prog : Program} {w : World} {A : Around} {E : Value → Shared → Prop} {s : Shared} {K : Frag}
end
end Att
namespace L2
open PySem PySem.Spec PyProof.Rows
theorem vals_ints : ∀ {vs : List Value} {ns : List Int}, IntsAre vs ns → Vals (ns.map V.int) vs
  | _, _, .nil => .nil
  | _, _, .cons n t h => .cons ⟨t, rfl⟩ (vals_ints h)
def Only (H : Hp) : Prop := ∀ b, H b = none ∨ ∃ o xs, H b = some (.frz o (.lst xs))
theorem law_call {P : Program} {w : World} {K : PySem.W.Frag} {mg mb : Str → Option Value} {CX : CXT} {k : Nat} {fa a : Addr} {fd : FuncData} {x : Str} {sp : Sp} {s₁ : Shared} {vs : List Value} {ns : List Int}
    (KX : K.In s₁.heap) (hns : s₁.heap.Ns mainGlobals mg) (hb : s₁.heap.Ns builtinsNs mb) (hbb : ∀ x : Str, x ≠ "__name__" → mb x = bootBuiltins x) (hlim : s₁.heap.NoLimit) (hg : s₁.gens = #[])
    (ha : s₁.heap.get? a = some { cls := .type "list", data := .seq vs.toArray }) (hi : IntsAre vs ns) (hl : ns.length ≤ sizeLine) (hr : Room k callerA)
    (F : ∀ base : Heap, K.In base → base.Ns mainGlobals mg → FnOk P w K mg base CX k fa fd [x] sp) (hbind : ∀ (s : Shared) (u : Value), BindsTo s fd ⟨[u], []⟩ [(x, u)])
    (hsp : ∀ H : Hp, Only H → SqL K H a (ns.map V.int) → sp [.ref a] H (fun v _ => v = .bl true) fun _ _ _ => False)
    (hCX : ∀ H e s', CX [] H s₁ (fun _ _ _ => False) e s' → False) :
    codeAny (model P w) callerA (.call (.ref fa) ⟨[.ref a], []⟩) (fun r s' => r = .ok (.ret (.bool true)) ∧ OldK s₁.heap s'.heap ∧ s'.os = s₁.os ∧ AllBare s'.gens) s₁ := by
  have rv := vals_ints hi
  have lenV := hi.length
  have core : ∀ H : Hp, Only H → SqL K H a (ns.map V.int) → HOk P w H s₁.heap → (∀ b, H b ≠ none → b = a) → (H a ≠ none → K.lookup a = none) →
      codeAny (model P w) callerA (.call (.ref fa) ⟨[.ref a], []⟩) (fun r s' => r = .ok (.ret (.bool true)) ∧ OldK s₁.heap s'.heap ∧ s'.os = s₁.os ∧ AllBare s'.gens) s₁ := by
    intro H hO hS hok hA hK
    have base_of : ∀ {b : Addr} {o : Obj}, s₁.heap.get? b = some o → H b = none → (hidT s₁.heap H).get? b = some o := fun e n => hidT_get e n
    have noA : ∀ {b : Addr} {o : Obj} {es : Array DictEntry} {ep : Nat}, s₁.heap.get? b = some o → o.data = .dict es ep → H b = none := fun {b o es ep} e d => by
      cases q : H b with
      | none => rfl
      | some u =>
        have e' : b = a := hA b (by rw [q]; simp)
        subst e'
        rw [ha] at e; cases e
        have d' : Data.seq vs.toArray _ = Data.dict es ep := d
        cases d'
    have nsK : ∀ {b : Addr} {m : Str → Option Value}, s₁.heap.Ns b m → (hidT s₁.heap H).Ns b m := fun {b m} ⟨o, es, ep, e, d, r⟩ => ⟨o, es, ep, base_of e (noA e d), d, r⟩
    have hKb : K.In (hidT s₁.heap H) := fun b o e => base_of (KX b o e) (by
      cases q : H b with
      | none => rfl
      | some u =>
        have e' : b = a := hA b (by rw [q]; simp)
        subst e'
        rw [hK (by rw [q]; simp)] at e; cases e)
    have hM : Mod K mg (hidT s₁.heap H) := ⟨hKb, nsK hns, ⟨mb, nsK hb, hbb⟩, let ⟨mc, h1, h2⟩ := hlim; ⟨mc, nsK h1, h2⟩⟩
    have e0 : Env0 P w K mg (hidT s₁.heap H) callerA [] s₁ H := ⟨rfl, hM, fun b o e => of_hidT e, Nat.le_of_eq (hidT_size _ _), trivial, fun b hb => absurd (show b ∈ ([] : List Addr) from hb) (by simp), hok, .of_eq hg⟩
    refine codeAny_mono ((F _ hKb (nsK hns)).run callerA [] s₁ H ⟨[.ref a], []⟩ [.ref a] [.ref a] _ _ hr e0 (hbind s₁ (.ref a)) (.cons rfl .nil) (hsp H hO hS)) fun r s' h => ?_
    cases r with
    | error e => exact (hCX H e s' h).elim
    | ok fl =>
      cases fl with
      | next => exact False.elim h
      | brk => exact False.elim h
      | cont => exact False.elim h
      | ret u =>
        obtain ⟨v, H', os, bare, un, hok', r', q⟩ := h
        have q' : v = .bl true := q
        subst q'
        obtain rfl : u = Value.bool true := r'
        refine ⟨rfl, OldK.of_keep fun b o e => ?_, os, bare⟩
        cases q : H b with
        | none => exact un.keep b o e q (by intro z; exact absurd (show b ∈ ([] : List Addr) from z) (by simp)) (by simp)
        | some u =>
          rcases hO b with z | ⟨ob, xs, z⟩
          · rw [q] at z; cases z
          · have z2 := un.frzs b ob _ z
            obtain ⟨e1, _⟩ := hok b _ z
            obtain ⟨e2, _⟩ := hok' b _ z2
            rw [e] at e1; cases e1
            exact e2
  cases hk : K.lookup a with
  | some o =>
    have e := KX a o hk
    rw [ha] at e
    cases e
    refine core (fun _ => none) (fun _ => .inl rfl) (.inr ⟨_, vs.toArray, _, hk, rfl, rfl, rfl, by rw [List.size_toArray, lenV]; exact hl, by simpa using rv⟩) (fun b u z => by have z' : (none : Option HO) = some u := z; cases z') (fun b z => absurd rfl z) fun z => absurd rfl z
  | none =>
    refine core (fun b => if b = a then some (.frz { cls := .type "list", data := .seq vs.toArray } (.lst (ns.map V.int))) else none) (fun b => ?_) (.inl (.inr ⟨{ cls := .type "list", data := .seq vs.toArray }, if_pos rfl⟩)) (fun b u z => ?_) (fun b z => ?_) fun _ => hk
    · by_cases hb : b = a
      · exact .inr ⟨_, _, if_pos hb⟩
      · exact .inl (if_neg hb)
    · by_cases hb : b = a
      · have z' := (if_pos hb).symm.trans z
        cases z'
        subst hb
        exact ⟨ha, by rw [List.length_map]; exact hl, vs, _, rv, ha⟩
      · have z' := (if_neg hb).symm.trans z
        cases z'
    · by_cases hb : b = a
      · exact hb
      · exact absurd (if_neg hb) z
end L2
namespace L2
open PySem PySem.Spec PyProof.Rows
abbrev KOf {K : PySem.W.Frag} {h : Heap} (_ : K.In h) : PySem.W.Frag := K
theorem walk_of {l : PySem.W.OpenLaw} {n k : Nat} {q : Program} {loose : List Str} {XP : (Str → Option Value) → Heap → Prop} {YP : World → Heap → Prop} {d : DefRec} {K : Params → PySem.W.Frag} {CX : World → CXT} {sp : World → Sp} {x : Str}
    (hn : l.most = some n) (hn2 : n ≤ sizeLine) (hdf : d.params.defaults = []) (hr : Room k callerA)
    (hY : ∀ (w : World) (h : Heap), YP w h → (K w.params).In h)
    (F : ∀ (w : World) (mg : Str → Option Value) (fa : Addr) (h : Heap), (K w.params).In h → h.Ns mainGlobals mg → mg d.name = some (.ref fa) →
      ∃ fd : FuncData, (∀ (s : Shared) (u : Value), BindsTo s fd ⟨[u], []⟩ [(x, u)]) ∧
        ∀ base : Heap, (K w.params).In base → base.Ns mainGlobals mg → FnOk l.prog w (K w.params) mg base (CX w) k fa fd [x] (sp w))
    (hsp : ∀ (w : World) (H : Hp) (a : Addr) (ns : List Int), ns.length ≤ n → Only H → SqL (K w.params) H a (ns.map V.int) → sp w [.ref a] H (fun v _ => v = .bl true) fun _ _ _ => False)
    (hCX : ∀ (w : World) (H : Hp) (s : Shared) (e : Value) (s' : Shared), CX w [] H s (fun _ _ _ => False) e s' → False) :
    PySem.W.WalkO q loose XP YP l.row.toRowW d [] (fun f vs => PySem.call f vs) := by
  refine Att.attach_call hn hdf fun w s₀ s₁ mg mb fa o pm cd doc a vs ns G Y ho hd hcd hmg hobj hints hlen hg => ?_
  have KX := hY w _ Y
  obtain ⟨fd, hb, hF⟩ := F w mg fa _ KX G.T.g hmg
  exact law_call KX G.T.g G.T.b G.T.builtins G.T.nolimit hg hobj hints (Nat.le_trans hlen hn2) hr hF hb (fun H hO hS => hsp w H a ns hlen hO hS) fun H e s' => hCX w H s₁ e s'
theorem walk_ofK {l : PySem.W.OpenLaw} {n k : Nat} {q : Program} {loose : List Str} {XP : (Str → Option Value) → Heap → Prop} {YP : World → Heap → Prop} {d : DefRec} {K : Params → PySem.W.Frag} {CX : CXT} {sp : PySem.W.Frag → Sp} {x : Str}
    (hn : l.most = some n) (hn2 : n ≤ sizeLine) (hdf : d.params.defaults = []) (hr : Room k callerA)
    (hY : ∀ (w : World) (h : Heap), YP w h → (K w.params).In h)
    (F : ∀ (w : World) (mg : Str → Option Value) (fa : Addr) (h : Heap), (K w.params).In h → h.Ns mainGlobals mg → mg d.name = some (.ref fa) →
      ∃ fd : FuncData, (∀ (s : Shared) (u : Value), BindsTo s fd ⟨[u], []⟩ [(x, u)]) ∧
        ∀ base : Heap, (K w.params).In base → base.Ns mainGlobals mg → FnOk l.prog w (K w.params) mg base CX k fa fd [x] (sp (K w.params)))
    (hsp : ∀ (K : PySem.W.Frag) (H : Hp) (a : Addr) (ns : List Int), ns.length ≤ n → Only H → SqL K H a (ns.map V.int) → sp K [.ref a] H (fun v _ => v = .bl true) fun _ _ _ => False)
    (hCX : ∀ (H : Hp) (s : Shared) (e : Value) (s' : Shared), CX [] H s (fun _ _ _ => False) e s' → False) :
    PySem.W.WalkO q loose XP YP l.row.toRowW d [] (fun f vs => PySem.call f vs) :=
  walk_of (K := K) (CX := fun _ => CX) (sp := fun w => sp (K w.params)) hn hn2 hdf hr hY F (fun w H a ns h1 h2 h3 => hsp (K w.params) H a ns h1 h2 h3) fun _ H s e s' => hCX H s e s'
end L2
/- THE LAST THEOREM (shape; LID, My.* are yours):
   My.Adr: a structure of the addresses that your layer names (classes, functions); My.Txt K t: a structure (Prop) of the equations over K;
   My.txt_mk : {K} {implicit addresses ..} (e1 : nsIn K mainGlobals "law" = some (some (.ref f))) (e2 : K.lookup f = some ⟨oc, od, .func (fnOf "law" "law" params body scope dV kV doc pm an cdv ct), sl⟩) (e3 : codeIn K cdv "law" = true) .. : ∃ t, My.Txt K t
set_option maxRecDepth 100000 in
set_option maxHeartbeats 0 in
(the tactic k_is has no namespace: write k_is) -/
namespace L2
open PySem PySem.Spec PyProof.Rows
def defArgs (s : Stmt) : Arguments := match s with
  | .FunctionDef _ a _ _ _ _ _ _ _ _ => a
  | _ => { posonlyargs := [], args := [], vararg := none, kwonlyargs := [], kw_defaults := [], kwarg := none, defaults := [] }
def defBody (s : Stmt) : List Stmt := match s with
  | .FunctionDef _ _ b _ _ _ _ _ _ _ => b
  | _ => []
def defScope (s : Stmt) : Scope := match s with
  | .FunctionDef _ _ _ _ _ _ sc _ _ _ => sc
  | _ => { kind := .function, names := [], isGenerator := false, isCoroutine := false }
abbrev CX0 : CXT := fun _ _ _ _ _ _ => False
abbrev E0 : XK := fun _ _ _ => False
theorem pass0 {X : Cx} : Passes CX0 X E0 := fun _ _ _ _ _ _ _ h => h.elim
structure Fun (K : PySem.W.Frag) (x qual : Str) (st : Stmt) (f : Addr) (fd : FuncData) : Prop where
  ex : ∃ (oc : Value) (od : Option Addr) (kV doc pm : Value) (an : Option Addr) (cdv ct : Value) (osl : Array (Option Value)),
    fd = PySem.W.fnOf x qual (defArgs st) (defBody st) (defScope st) .none kV doc pm an cdv ct ∧ K.lookup f = some ⟨oc, od, .func fd, osl⟩ ∧ PySem.W.codeIn K cdv qual = true
  kp : PySem.W.keepIn K (.ref f) = true
section
variable {P : Program} {w : World} {K : PySem.W.Frag} {mg : Str → Option Value} {base : Heap}
theorem Fun.ok {x qual : Str} {st : Stmt} {f : Addr} {fd : FuncData} {N ps : List Str} {k : Nat} {sp : Sp} (F : Fun K x qual st f fd) (S : FnScope N ps (defScope st)) (len : ∀ vs H Q E, sp vs H Q E → vs.length = ps.length)
    (hbody : ∀ (cdv : Value) (A : Around) (outer : List Env) (s : Shared) (H : Hp) (vs : List V) (Q : VK) (E : XK), Room k (A.deeper (envOfC qual (defScope st) s.heap.objs.size f cdv)) → sp vs H Q E →
      ∃ t, PSs (cxOf CX0 P w K mg base N qual (defScope st) f cdv A outer s H E).nox (defBody st) t ∧ t { nx := fun _ H' => Q .non H', rt := Q } (start N vs) H) : FnOk P w K mg base CX0 (k + 1) f fd ps sp := by
  obtain ⟨oc, od, kV, doc, pm, an, cdv, ct, osl, rfl, lk, hcd⟩ := F.ex
  refine fn_of lk hcd S len fun A outer s H vs Q E hr hsp => ?_
  obtain ⟨t, h, q⟩ := hbody cdv A outer s H vs Q E hr hsp
  exact ⟨t, h.nox, q⟩
theorem Fun.binds {x qual : Str} {st : Stmt} {f : Addr} {fd : FuncData} {ps : List Str} (F : Fun K x qual st f fd)
    (h : ∀ (kV doc pm : Value) (an : Option Addr) (cdv ct : Value) (us : List Value), us.length = ps.length → bindArgs (PySem.W.fnOf x qual (defArgs st) (defBody st) (defScope st) .none kV doc pm an cdv ct) ⟨us, []⟩ = pure (ps.zip us)) : Binds K fd ps [] := by
  obtain ⟨oc, od, kV, doc, pm, an, cdv, ct, osl, rfl, lk, hcd⟩ := F.ex
  exact .all (h kV doc pm an cdv ct)
end
theorem small1000 {n : Nat} (h : n ≤ 1000) : n < sizeLine := Nat.lt_of_le_of_lt h (by decide)
section
variable {X : Cx}
end
theorem iteF {A B : Prop} (h : B) : if false = true then A else B := by
  rw [if_neg Bool.false_ne_true]
  exact h
theorem iteT {A B : Prop} (h : A) : if true = true then A else B := by
  rw [if_pos rfl]
  exact h
def Same (H H' : Hp) : Prop := ∀ b o, H b = some o → H' b = some o
theorem Same.refl (H : Hp) : Same H H := fun _ _ h => h
theorem Same.trans {H H1 H2 : Hp} (a : Same H H1) (b : Same H1 H2) : Same H H2 := fun c o h => b c o (a c o h)
theorem Same.free {H H' : Hp} (e : Same H H') {l : Addr} (h : H' l = Option.none) : H l = Option.none := by
  cases q : H l with
  | none => rfl
  | some o =>
    rw [e l o q] at h
    cases h
theorem Same.seq {K : PySem.W.Frag} {H H' : Hp} {a : Addr} {xs : List V} (e : Same H H') (h : SqL K H a xs) : SqL K H' a xs := by
  rcases h with (h | ⟨o, h⟩) | h
  · exact .inl (.inl (e _ _ h))
  · exact .inl (.inr ⟨o, e _ _ h⟩)
  · exact .inr h
end L2
namespace My
open PySem PySem.Spec PyProof.Rows L2
abbrev St := L2.St
theorem same_new {H : Hp} {p : Addr} (h : H p = none) (o : HO) : Same H (upd H p o) := fun b u q => by rw [upd_ne (ne_of_none q h)]; exact q
theorem same_tup {K : PySem.W.Frag} {H H' : Hp} {a : Addr} {xs : List V} (e : Same H H') (h : SqT K H a xs) : SqT K H' a xs := by
  rcases h with (h | ⟨o, h⟩) | h
  · exact .inl (.inl (e _ _ h))
  · exact .inl (.inr ⟨o, e _ _ h⟩)
  · exact .inr h
structure Df (K : PySem.W.Frag) (mg : Str → Option Value) (x : Str) (st : Stmt) (ps : List Str) : Prop where
  ex : ∃ (f : Addr) (fd : FuncData), Fun K x x st f fd ∧ Binds K fd ps [] ∧ mg x = some (.ref f)
structure Has (P : Program) (w : World) (K : PySem.W.Frag) (mg : Str → Option Value) (base : Heap) (n : Nat) (x : Str) (ps : List Str) (sp : Sp) : Prop where
  ex : ∃ (f : Addr) (fd : FuncData), FnOk P w K mg base CX0 n f fd ps sp ∧ Binds K fd ps [] ∧ PySem.W.keepIn K (.ref f) = true ∧ mg x = some (.ref f)
section
variable {P : Program} {w : World} {K : PySem.W.Frag} {mg : Str → Option Value} {base : Heap} {x : Str} {ps N : List Str} {sp : Sp} {st : Stmt} {k n : Nat}
theorem Has.mono (h : Has P w K mg base k x ps sp) (l : k ≤ n) : Has P w K mg base n x ps sp := by
  obtain ⟨f, fd, F, b, kp, m⟩ := h.ex
  exact ⟨f, fd, F.mono l, b, kp, m⟩
theorem Df.has (D : Df K mg x st ps) (S : FnScope N ps (defScope st)) (len : ∀ vs H Q E, sp vs H Q E → vs.length = ps.length)
    (hbody : ∀ (f : Addr) (cdv : Value) (A : Around) (outer : List Env) (s : Shared) (H : Hp) (vs : List V) (Q : VK) (E : XK), Room k (A.deeper (envOfC x (defScope st) s.heap.objs.size f cdv)) → sp vs H Q E →
      ∃ t, PSs (cxOf CX0 P w K mg base N x (defScope st) f cdv A outer s H E).nox (defBody st) t ∧ t { nx := fun _ H' => Q .non H', rt := Q } (start N vs) H) : Has P w K mg base (k + 1) x ps sp := by
  obtain ⟨f, fd, F, b, m⟩ := D.ex
  exact ⟨f, fd, F.ok S len (hbody f), b, F.kp, m⟩
end
section
variable {X : Cx} {x : Str} {ps : List Str} {sp : Sp} {n : Nat} {p pos : Pos} {e : Expr} {es : List Expr} {t : TA}
theorem pe_callH (h : Has X.prog X.w X.K X.mg X.base n x ps sp) (hr : Room n X.A) (ha : PA X (e :: es) t) (hg : Gl X x := by rfl) (hdb : (x == ("__debug__" : Str)) = false := by decide)
    (he : starEach (e :: es) X.env = (false, eval e X.env) :: starEach es X.env := by rfl) (hpl : (backTo pos (starEach es X.env)).any (·.1) = false := by rfl) :
    PE X (.Call (.Name x p) (e :: es) [] pos) (tCall sp [] E0 t) := by
  obtain ⟨f, fd, F, b, kp, m⟩ := h.ex
  exact pe_call F hr hg m kp b .nil pass0 ha hdb he hpl
end
mutual
inductive RdV (K : PySem.W.Frag) (H : Hp) : V → PyData → Prop
  | non : RdV K H .non .none
  | bl (b : Bool) : RdV K H (.bl b) (.bool b)
  | int (i : Int) : RdV K H (.int i) (.int i)
  | str (x : Str) : RdV K H (.str x) (.str x)
  | lst {a : Addr} {xs : List V} {ds : List PyData} : SqL K H a xs → RdVs K H xs ds → RdV K H (.ref a) (.list ds)
  | tup {a : Addr} {xs : List V} {ds : List PyData} : SqT K H a xs → RdVs K H xs ds → RdV K H (.ref a) (.tuple ds)
inductive RdVs (K : PySem.W.Frag) (H : Hp) : List V → List PyData → Prop
  | nil : RdVs K H [] []
  | cons {v : V} {d : PyData} {vs : List V} {ds : List PyData} : RdV K H v d → RdVs K H vs ds → RdVs K H (v :: vs) (d :: ds)
end
section
variable {X : Cx} {pins : List (Addr × Obj)} {σ : St} {H : Hp} {s : Shared}
mutual
theorem RdV.reads (I : Inv X pins σ H s) : ∀ {v : V} {d : PyData}, RdV X.K H v d → ∀ {u : Value}, RelV v u → ∃ as, Reads s.heap u d as
  | _, _, .non, _, r => by cases r; exact ⟨_, .none⟩
  | _, _, .bl b, _, r => by cases r; exact ⟨_, .bool b⟩
  | _, _, .int i, _, r => by obtain ⟨t, rfl⟩ := r; exact ⟨_, .int i t⟩
  | _, _, .str x, _, r => by obtain ⟨t, rfl⟩ := r; exact ⟨_, .str x t⟩
  | _, _, .lst h q, _, r => by
    cases r
    obtain ⟨its, rv, ⟨o, n, e, c, _, d⟩, _⟩ := I.list h
    obtain ⟨as, z⟩ := RdVs.reads I q rv
    exact ⟨_, .list e c d (by simpa using z)⟩
  | _, _, .tup h q, _, r => by
    cases r
    obtain ⟨its, rv, ⟨o, e, c, n, d⟩, _⟩ := I.tuple h
    obtain ⟨as, z⟩ := RdVs.reads I q rv
    exact ⟨_, .tuple e c d (by simpa using z)⟩
theorem RdVs.reads (I : Inv X pins σ H s) : ∀ {vs : List V} {ds : List PyData}, RdVs X.K H vs ds → ∀ {us : List Value}, Vals vs us → ∃ as, ReadsAll s.heap us ds as
  | _, _, .nil, _, r => by cases r; exact ⟨_, .nil⟩
  | _, _, .cons h q, _, r => by
    cases r with
    | cons r1 r2 =>
      obtain ⟨as, z⟩ := RdV.reads I h r1
      obtain ⟨bs, y⟩ := RdVs.reads I q r2
      exact ⟨_, .cons z y⟩
end
end
section
variable {X : Cx}
def rEqD (K : PySem.W.Frag) : R2 := fun x y H Q => ∃ da db, RdV K H x da ∧ RdV K H y db ∧ SeqAt.shaped da = true ∧ SeqAt.shaped db = true ∧ Q (.bl (PyData.eqv da db)) H
def rNeD (K : PySem.W.Frag) : R2 := fun x y H Q => ∃ da db, RdV K H x da ∧ RdV K H y db ∧ SeqAt.shaped da = true ∧ SeqAt.shaped db = true ∧ Q (.bl (!PyData.eqv da db)) H
theorem op_eqD (hu : X.A.units + 64 < cLine) : OpR X (compareOp .Eq) (rEqD X.K) := by
  intro pins s σ H x y v u Q I rx ry h
  obtain ⟨da, db, ha, hb, sa, sb, q⟩ := h
  obtain ⟨as, za⟩ := ha.reads I rx
  obtain ⟨bs, zb⟩ := hb.reads I ry
  exact SeqAt.compareEq_shaped za zb sa sb hu ⟨.bl _, H, I, rfl, q⟩
theorem op_neD (hu : X.A.units + 64 < cLine) : OpR X (compareOp .NotEq) (rNeD X.K) := by
  intro pins s σ H x y v u Q I rx ry h
  obtain ⟨da, db, ha, hb, sa, sb, q⟩ := h
  obtain ⟨as, za⟩ := ha.reads I rx
  obtain ⟨bs, zb⟩ := hb.reads I ry
  exact SeqAt.compareNe_shaped za zb sa sb hu ⟨.bl _, H, I, rfl, q⟩
end
def TyN (H : Hp) (x : V) (T : String) : Prop := match x with
  | .non => T = "NoneType"
  | .bl _ => T = "bool"
  | .int _ => T = "int"
  | .str _ => T = "str"
  | .ref a => (T = "list" ∧ ∃ xs, H a = some (.lst xs)) ∨ (T = "tuple" ∧ ∃ xs, H a = some (.tup xs)) ∨ (T = "dict" ∧ ∃ kvs, H a = some (.dK kvs))
  | _ => False
def isT (c T : String) : Bool := T == c || (T == "bool" && c == "int")
section
variable {K : PySem.W.Frag}
theorem kit_nn (h : c = "int" ∨ c = "bool" ∨ c = "tuple" ∨ c = "list" ∨ c = "str") (g : T = "NoneType" ∨ T = "bool" ∨ T = "int" ∨ T = "str" ∨ T = "list" ∨ T = "tuple" ∨ T = "dict") :
    PySem.W.kitOne K (.type T) (.type c) = some (isT c T) := by
  rcases h with rfl | rfl | rfl | rfl | rfl <;> rcases g with rfl | rfl | rfl | rfl | rfl | rfl | rfl <;> kernel_rfl
theorem TyN.cases {H : Hp} {x : V} {T : String} (h : TyN H x T) : T = "NoneType" ∨ T = "bool" ∨ T = "int" ∨ T = "str" ∨ T = "list" ∨ T = "tuple" ∨ T = "dict" := by
  cases x with
  | non => exact .inl h
  | bl _ => exact .inr (.inl h)
  | int _ => exact .inr (.inr (.inl h))
  | str _ => exact .inr (.inr (.inr (.inl h)))
  | ref a =>
    rcases h with ⟨h, _⟩ | ⟨h, _⟩ | ⟨h, _⟩
    · exact .inr (.inr (.inr (.inr (.inl h))))
    · exact .inr (.inr (.inr (.inr (.inr (.inl h)))))
    · exact .inr (.inr (.inr (.inr (.inr (.inr h)))))
  | byt _ => exact False.elim h
  | flt _ => exact False.elim h
  | ty _ => exact False.elim h
theorem TyN.of {H : Hp} {x : V} {T : String} (h : TyN H x T) : TyOf K H x (.type T) := by
  cases x with
  | non => cases h; exact .non
  | bl b => cases h; exact .bl b
  | int i => cases h; exact .int i
  | str i => cases h; exact .str i
  | ref a =>
    rcases h with ⟨rfl, xs, h⟩ | ⟨rfl, xs, h⟩ | ⟨rfl, xs, h⟩
    · exact .lst h
    · exact .tup h
    · exact .dK h
  | byt _ => exact False.elim h
  | flt _ => exact False.elim h
  | ty _ => exact False.elim h
end
section
variable {X : Cx}
end
theorem big {X : Cx} {pins : List (Addr × Obj)} {σ : St} {H : Hp} {s : Shared} (I : Inv X pins σ H s) : sysModules < s.heap.objs.size := by
  have h : mainGlobals < s.heap.objs.size := (I.mod.glob.keeps I.bk).lt
  exact Nat.lt_trans (by decide) h
theorem dk_empty {P : Program} {w : World} {H : Hp} (h : Heap) (hb : sysModules < h.objs.size) : ObjOk P w H (h.push { cls := .type "dict", data := .dict #[] }) h.objs.size (.dK []) :=
  ⟨Nat.zero_le _, beq_eq_false_iff_ne.mpr (Ne.symm (Nat.ne_of_lt hb)), [], .nil, Heap.DictOf.new h⟩
def tDNewK : TE := fun _ H Q => ∀ p, H p = none → Q (.ref p) (upd H p (.dK []))
theorem pe_dnewK {X : Cx} {pos : Pos} : PE X (.Dict [] [] pos) tDNewK := fun pins s σ H Q I h =>
  wpAny_Dict_empty ⟨.ref s.heap.objs.size, _, I.laid (a := s.heap.objs.size) (o := .dK []) (t' := s.toks) (fun _ _ q => Heap.get?_push_of_some _ q) (Nat.le_refl _) (dk_empty s.heap (big I)), rfl, h _ (I.hok.fresh (Nat.le_refl _))⟩
theorem sz {n : Nat} (h : n ≤ 1000 := by decide) : n ≤ sizeLine := Nat.le_of_lt (small1000 h)
end My
namespace My
open PySem PySem.Spec PyProof.Rows L2
section
variable {X : Cx} {a b c d : Expr} {ta tb tc td : TE} {pos : Pos}
end
structure Blt (mg : Str → Option Value) : Prop where
  len_ : mg "len" = none
  range_ : mg "range" = none
  abs_ : mg "abs" = none
  isinstance_ : mg "isinstance" = none
  int_ : mg "int" = none
  bool_ : mg "bool" = none
  tuple_ : mg "tuple" = none
  max_ : mg "max" = none
  min_ : mg "min" = none
end My
namespace My
open PySem PySem.Spec PyProof.Rows L2
abbrev cx (P : Program) (w : World) (K : PySem.W.Frag) (mg : Str → Option Value) (base : Heap) (N : List Str) (x : Str) (st : Stmt) (f : Addr) (cdv : Value) (A : Around) (outer : List Env) (s : Shared) (H : Hp) (E : XK) : Cx :=
  (cxOf CX0 P w K mg base N x (defScope st) f cdv A outer s H E).nox
end My
namespace My
open PySem PySem.Spec PyProof.Rows L2
abbrev blk (X : Cx) (N' : List Str) (scope : Scope) (cl : List (Str × Addr)) (C : Addr) (s3 : Shared) (H3 : Hp) (fp : List Addr) : Cx :=
  { X with N := N', s₀ := s3, H₀ := H3, env := compEnvC scope cl C X.env, outer := X.stack, ex := fp, fn := fun _ => false, xe := fun _ _ => False }
section
variable {X : Cx} {pins : List (Addr × Obj)} {σ : St} {H : Hp} {s : Shared}
end
end My
namespace My
open PySem PySem.Spec PyProof.Rows L2
section
variable {X : Cx} {pins : List (Addr × Obj)} {σ : St} {H : Hp}
theorem inv_back {N' : List Str} {scope : Scope} {cl : List (Str × Addr)} {pins' : List (Addr × Obj)} {σ' : St} {H3 H' : Hp} {s3 s' : Shared} {fp : List Addr} (I3 : Inv X pins σ H3 s3) (hf : ∀ b ∈ fp, FpOk X pins H3 b)
    (I' : Inv (blk X N' scope cl s3.heap.objs.size s3 H3 fp) pins' σ' H' s') : Inv X pins σ H' s' ∧ FpOk X pins H' s3.heap.objs.size := by
  have fr : H' s3.heap.objs.size = none := I'.free
  refine ⟨?_, I3.fpOk (Nat.le_refl _) fr⟩
  have os : s'.os = s3.os := I'.os
  have u : Un (frs X.stack) fp H3 H' s3.heap s'.heap := I'.base
  have ho := I'.hok
  have hb := I'.bare
  obtain ⟨hh, g, d, t, os'⟩ := s'
  obtain rfl : os' = s3.os := os
  exact I3.call (h' := hh) (g' := g) (d' := d) (t' := t) (ch := fp) u ho hb fun b hb' => ⟨(hf b hb').2.2.2.1, (hf b hb').2.1, (hf b hb').2.2.2.2.1, (hf b hb').2.2.2.2.2⟩
end
def PTs (X : Cx) (ifs : List Expr) (t : TT) : Prop :=
  ∀ (pins : List (Addr × Obj)) (s : Shared) (σ : St) (H : Hp) (Q : Bool → Hp → Prop), Inv X pins σ H s → t σ H Q →
    wpAny (model X.prog X.w) X.A (forIn ifs true fun c r => if r = true then do let ok ← isTrue c X.env (eval c X.env); pure (ForInStep.yield ok) else pure (ForInStep.yield r)) (TP X pins σ Q) X.xe s
def tYes : TT := fun _ H Q => Q true H
section
variable {X : Cx} {elt tg iter : Expr} {ifs : List Expr} {scope : Scope} {pos : Pos} {T V : List Str} {ix : List Nat} {wi : TI} {g : TG} {tt : TT} {te : TE}
end
section
variable {X : Cx} {K : PySem.W.Frag}
end
end My
namespace D3
open PySem
abbrev D := PyData
inductive U where
  | d (x : D)
  | x (c f : Str) (v : D)
abbrev DS := List (Option U)
inductive Oc where
  | nx (δ : DS)
  | rt (d : D)
  | bk (δ : DS)
  | ct (δ : DS)
  | ex (c f : Str) (v : D)
abbrev FE := DS → Option D
abbrev FA := DS → Option (List D)
abbrev FT := DS → Option Bool
abbrev FS := DS → Option Oc
abbrev FG := D → DS → Option DS
mutual
def flat : D → Bool
  | .none => true
  | .bool _ => true
  | .int _ => true
  | .str _ => true
  | .list _ => false
  | .tuple xs => flats xs
  | .dict _ => false
def flats : List D → Bool
  | [] => true
  | x :: r => flat x && flats r
end
mutual
def nl : D → Nat
  | .none => 0
  | .bool _ => 0
  | .int _ => 0
  | .str _ => 0
  | .list xs => nls xs + 1
  | .tuple xs => nls xs
  | .dict _ => 1
def nls : List D → Nat
  | [] => 0
  | x :: r => nl x + nls r
end
def fl1 : D → Bool
  | .list xs => flats xs
  | d => flat d
def dVar (i : Nat) : FE := fun δ => match δ[i]? with
  | some (some (.d x)) => some x
  | _ => none
def dC (d : D) : FE := fun _ => some d
def dOp (g : D → D → Option D) (fa fb : FE) : FE := fun δ => (fa δ).bind fun x => (fb δ).bind fun y => g x y
def dUn (g : D → Option D) (fa : FE) : FE := fun δ => (fa δ).bind g
def dNil : FA := fun _ => some []
def dCons (fa : FE) (fr : FA) : FA := fun δ => (fa δ).bind fun x => (fr δ).bind fun r => some (x :: r)
def dTup (fa : FA) : FE := fun δ => (fa δ).bind fun l => if l.length ≤ sizeLine then some (.tuple l) else none
def dLst (fa : FA) : FE := fun δ => (fa δ).bind fun l => if l.length ≤ sizeLine then some (.list l) else none
def dCall (F : List D → Option D) (fa : FA) : FE := fun δ => (fa δ).bind F
def dFlat (fa : FE) : FE := fun δ => (fa δ).bind fun d => if flat d = true then some d else none
def dN1 (fa : FE) : FE := fun δ => (fa δ).bind fun d => if decide (nl d ≤ 1) = true then some d else none
def dFl1 (fa : FE) : FE := fun δ => (fa δ).bind fun d => if fl1 d = true then some d else none
def dAnd (fa fb : FE) : FE := fun δ => (fa δ).bind fun x => match x with
  | .bool true => fb δ
  | .bool false => some (.bool false)
  | _ => none
def dOr (fa fb : FE) : FE := fun δ => (fa δ).bind fun x => match x with
  | .bool true => some (.bool true)
  | .bool false => fb δ
  | _ => none
def dNot (fa : FE) : FE := fun δ => (fa δ).bind fun x => match x with
  | .bool b => some (.bool (!b))
  | _ => none
def dIf (c : FT) (fa fb : FE) : FE := fun δ => (c δ).bind fun b => if b = true then fa δ else fb δ
def tBool (fa : FE) : FT := fun δ => (fa δ).bind fun x => match x with
  | .bool b => some b
  | _ => none
def tAnd (a b : FT) : FT := fun δ => (a δ).bind fun x => if x = true then b δ else some false
def tOr (a b : FT) : FT := fun δ => (a δ).bind fun x => if x = true then some true else b δ
def tNot (a : FT) : FT := fun δ => (a δ).map fun x => !x
def sNil : FS := fun δ => some (.nx δ)
def sSeq (a b : FS) : FS := fun δ => (a δ).bind fun o => match o with
  | .nx δ' => b δ'
  | o => some o
def sSet (i : Nat) (fe : FE) : FS := fun δ => (fe δ).bind fun d => some (.nx (δ.set i (some (.d d))))
def sIf (c : FT) (a b : FS) : FS := fun δ => (c δ).bind fun t => if t = true then a δ else b δ
def sRet (fe : FE) : FS := fun δ => (fe δ).bind fun d => some (.rt d)
def sRetN : FS := fun _ => some (.rt .none)
def sExpr (fe : FE) : FS := fun δ => (fe δ).bind fun _ => some (.nx δ)
def sBk : FS := fun δ => some (.bk δ)
def sCt : FS := fun δ => some (.ct δ)
def gN (i : Nat) : FG := fun d δ => some (δ.set i (some (.d d)))
def gsNil : List D → DS → Option DS := fun l δ => match l with
  | [] => some δ
  | _ => none
def gsCons (g : FG) (r : List D → DS → Option DS) : List D → DS → Option DS := fun l δ => match l with
  | d :: l' => (g d δ).bind fun δ' => r l' δ'
  | [] => none
def sAsg (fe : FE) (g : FG) : FS := fun δ => (fe δ).bind fun d => (g d δ).bind fun δ' => some (.nx δ')
def forD (g : FG) (b : FS) : List D → DS → Option Oc
  | [], δ => some (.nx δ)
  | d :: r, δ => (g d δ).bind fun δ1 => (b δ1).bind fun o => match o with
    | .nx δ' => forD g b r δ'
    | .ct δ' => forD g b r δ'
    | .bk δ' => some (.nx δ')
    | .rt v => some (.rt v)
    | .ex c f v => some (.ex c f v)
def sFor (fi : FA) (g : FG) (b : FS) : FS := fun δ => (fi δ).bind fun l => forD g b l δ
def whileD (c : FT) (b : FS) : Nat → DS → Option Oc
  | 0, _ => none
  | n + 1, δ => (c δ).bind fun t => if t = true then (b δ).bind fun o => match o with
      | .nx δ' => whileD c b n δ'
      | .ct δ' => whileD c b n δ'
      | .bk δ' => some (.nx δ')
      | .rt v => some (.rt v)
      | .ex c f v => some (.ex c f v)
    else some (.nx δ)
theorem whileD_mono {c : FT} {b : FS} : ∀ {n : Nat} {δ : DS} {o : Oc}, whileD c b n δ = some o → ∀ {m : Nat}, n ≤ m → whileD c b m δ = some o
  | 0, _, _, h, _, _ => by simp [whileD] at h
  | n + 1, δ, o, h, 0, l => by omega
  | n + 1, δ, o, h, m + 1, l => by
    rw [whileD] at h ⊢
    cases hc : c δ with
    | none => rw [hc] at h; simp at h
    | some t =>
      rw [hc] at h
      simp only [Option.bind_some] at h ⊢
      cases t with
      | false => exact h
      | true =>
        simp only [if_pos] at h ⊢
        cases hb : b δ with
        | none => rw [hb] at h; simp at h
        | some q =>
          rw [hb] at h
          simp only [Option.bind_some] at h ⊢
          cases q with
          | nx δ' => exact whileD_mono h (by omega)
          | ct δ' => exact whileD_mono h (by omega)
          | bk δ' => exact h
          | rt v => exact h
          | ex c f v => exact h
theorem whileD_det {c : FT} {b : FS} {n m : Nat} {δ : DS} {o o' : Oc} (h : whileD c b n δ = some o) (h' : whileD c b m δ = some o') : o = o' := by
  have a := whileD_mono h (Nat.le_max_left n m)
  have a' := whileD_mono h' (Nat.le_max_right n m)
  rw [a] at a'
  exact Option.some.inj a'
open Classical in
noncomputable def sWhile (c : FT) (b : FS) : FS := fun δ => if h : ∃ o n, whileD c b n δ = some o then some (Classical.choose h) else none
theorem sWhile_of {c : FT} {b : FS} {n : Nat} {δ : DS} {o : Oc} (h : whileD c b n δ = some o) : sWhile c b δ = some o := by
  have e : ∃ o n, whileD c b n δ = some o := ⟨o, n, h⟩
  unfold sWhile
  rw [dif_pos e]
  obtain ⟨m, hm⟩ := Classical.choose_spec e
  rw [whileD_det hm h]
theorem sWhile_inv {c : FT} {b : FS} {δ : DS} {o : Oc} (h : sWhile c b δ = some o) : ∃ n, whileD c b n δ = some o := by
  unfold sWhile at h
  by_cases e : ∃ o n, whileD c b n δ = some o
  · rw [dif_pos e] at h
    have := Classical.choose_spec e
    rw [Option.some.inj h] at this
    exact this
  · rw [dif_neg e] at h
    cases h
def fnD (p q : Nat) (b : FS) : List D → Option D := fun ds => if ds.length = p then match b (ds.map (fun d => some (.d d)) ++ List.replicate q none) with
    | some (.rt d) => some d
    | some (.nx _) => some .none
    | _ => none
  else none
def capD (t : Nat) (ix : List Nat) (δ : DS) : DS := List.replicate t none ++ ix.map fun j => (δ[j]?).getD none
def compD (g : FG) (c : FT) (e : FE) (δ : DS) : List D → Option (List D)
  | [] => some []
  | d :: r => (g d δ).bind fun δ1 => (c δ1).bind fun b => if b = true then (e δ1).bind fun x => (compD g c e δ r).bind fun l => some (x :: l) else compD g c e δ r
def dComp (fi : FA) (g : FG) (c : FT) (e : FE) (t : Nat) (ix : List Nat) : FE := fun δ => (fi δ).bind fun l => if l.length ≤ 100000 then (compD g c e (capD t ix δ) l).bind fun r => some (.list r) else none
def tYes : FT := fun _ => some true
def gI (g : Int → Int → Option D) : D → D → Option D := fun x y => match x, y with
  | .int i, .int j => g i j
  | _, _ => none
def pIx (n : Nat) (i : Int) : Option Nat := if 0 ≤ i then (if i < n then some i.toNat else none) else if -(n : Int) ≤ i then some (i + n).toNat else none
def pAt (xs : List D) (i : Int) : Option D := (pIx xs.length i).bind fun j => xs[j]?
def isT (c T : String) : Bool := T == c || (T == "bool" && c == "int")
def sSetl (i : Nat) (fe : FE) : FS := fun δ => if i < δ.length then sSet i fe δ else none
def gAdd : D → D → Option D := gI fun i j => some (.int (i + j))
def gSub : D → D → Option D := gI fun i j => some (.int (i - j))
def mulG (i j : Int) : Bool := decide (i.natAbs < 2 ^ 64) || decide (j.natAbs < 2 ^ 64) || (decide (i.natAbs < 2 ^ 30000) && decide (j.natAbs < 2 ^ 30000))
def gMul : D → D → Option D := gI fun i j => if mulG i j = true then some (.int (i * j)) else none
def divG (_ j : Int) : Bool := decide (j ≠ 0) && decide (j.natAbs < 2 ^ 9000)
def gDiv : D → D → Option D := gI fun i j => if divG i j = true then some (.int (i.fdiv j)) else none
def gMod : D → D → Option D := gI fun i j => if decide (j ≠ 0) = true then some (.int (i.fmod j)) else none
def powG (i j : Int) : Bool := decide (0 ≤ j) && decide (j ≤ 1000) && decide (i.natAbs < 2 ^ 64)
def gPow : D → D → Option D := gI fun i j => if powG i j = true then some (.int (i ^ j.toNat)) else none
def gLt : D → D → Option D := gI fun i j => some (.bool (decide (i < j)))
def gLe : D → D → Option D := gI fun i j => some (.bool (decide (i ≤ j)))
def gGt : D → D → Option D := gI fun i j => some (.bool (decide (j < i)))
def gGe : D → D → Option D := gI fun i j => some (.bool (decide (j ≤ i)))
def gEq : D → D → Option D := fun x y => if (SeqAt.shaped x && SeqAt.shaped y) = true then some (.bool (PyData.eqv x y)) else none
def gNe : D → D → Option D := fun x y => if (SeqAt.shaped x && SeqAt.shaped y) = true then some (.bool (!PyData.eqv x y)) else none
def gNl (i : Nat) : FG := fun d δ => if i < δ.length then gN i d δ else none
def gTn (n : Nat) (g : List D → DS → Option DS) : FG := fun d δ => match d with
  | .tuple l => if l.length = n then g l δ else none
  | _ => none
def sApp (i : Nat) (f : FE) : FS := fun δ => (dVar i δ).bind fun x => (f δ).bind fun d => match x with
  | .list l => if l.length < 1000000 then some (.nx (δ.set i (some (.d (.list (l ++ [d])))))) else none
  | _ => none
def sPut (i : Nat) (fk f : FE) : FS := fun δ => (f δ).bind fun d => (dVar i δ).bind fun x => (fk δ).bind fun k => match x, k with
  | .list l, .int j => (pIx l.length j).bind fun n => some (.nx (δ.set i (some (.d (.list (l.set n d))))))
  | _, _ => none
def asList : D → Option (List D)
  | .list l => some l
  | _ => none
def fLst (f : FE) : FA := fun δ => (f δ).bind asList
def rngD (lo hi : Int) : List D := (List.range (hi - lo).toNat).map fun (k : Nat) => .int (lo + (k : Int))
def rngG (i : Int) : Bool := decide (-(2 ^ 62) ≤ i) && decide (i < 2 ^ 62)
def fRng1 (fa : FA) : FA := fun δ => (fa δ).bind fun l => match l with
  | [.int j] => if rngG j = true then some (rngD 0 j) else none
  | _ => none
def fRng2 (fa : FA) : FA := fun δ => (fa δ).bind fun l => match l with
  | [.int i, .int j] => if (rngG i && rngG j) = true then some (rngD i j) else none
  | _ => none
def gIx : D → D → Option D := fun x y => match x, y with
  | .list l, .int i => pAt l i
  | .tuple l, .int i => pAt l i
  | _, _ => none
def dChain (g g' : D → D → Option D) (fa fb fc : FE) : FE := fun δ => (fa δ).bind fun x => (fb δ).bind fun y => (g x y).bind fun z => match z with
  | .bool true => (fc δ).bind fun w => g' y w
  | .bool false => some (.bool false)
  | _ => none
def dChain3 (g g' g'' : D → D → Option D) (fa fb fc fd : FE) : FE := fun δ => (fa δ).bind fun x => (fb δ).bind fun y => (g x y).bind fun z => match z with
  | .bool true => (fc δ).bind fun w => (g' y w).bind fun z' => match z' with
    | .bool true => (fd δ).bind fun u => g'' w u
    | .bool false => some (.bool false)
    | _ => none
  | .bool false => some (.bool false)
  | _ => none
def isNone : D → Bool
  | .none => true
  | _ => false
def gIsN : D → Option D := fun x => some (.bool (isNone x))
def gNotN : D → Option D := fun x => some (.bool (!isNone x))
def gLen : List D → Option D
  | [.list l] => some (.int l.length)
  | [.tuple l] => some (.int l.length)
  | _ => none
def intsD : List D → Option (List Int)
  | [] => some []
  | .int i :: r => (intsD r).map (i :: ·)
  | _ => none
def gSum : List D → Option D
  | [.list l] => (intsD l).map fun ns => .int ns.sum
  | _ => none
def dCallD (F : List D → Option D) (i : Int) (fa : FA) : FE := fun δ => (fa δ).bind fun ds => F (ds ++ [.int i])
def dCallK (F : List D → Option D) (fa : FA) (fk : FE) : FE := fun δ => (fa δ).bind fun ds => (fk δ).bind fun k => F (ds ++ [k])
def gAbs : List D → Option D
  | [.int i] => some (.int (if i < 0 then -i else i))
  | _ => none
def gMax2 : List D → Option D
  | [.int i, .int j] => some (.int (if j > i then j else i))
  | _ => none
def gMin2 : List D → Option D
  | [.int i, .int j] => some (.int (if j < i then j else i))
  | _ => none
def tyD : D → String
  | .none => "NoneType"
  | .bool _ => "bool"
  | .int _ => "int"
  | .str _ => "str"
  | .list _ => "list"
  | .tuple _ => "tuple"
  | .dict _ => "dict"
def gIs (c : String) : D → Option D := fun d => some (.bool (isT c (tyD d)))
def gNeg : D → Option D
  | .int i => some (.int (-i))
  | _ => none
def gCat : D → D → Option D := fun x y => match x, y with
  | .list l, .list m => if l.length + m.length ≤ 1000000 then some (.list (l ++ m)) else none
  | _, _ => none
def gList : D → Option D
  | .list l => some (.list l)
  | .tuple l => some (.list l)
  | _ => none
abbrev FO := DS → Option (Option Int)
def oNone : FO := fun _ => some none
def oPart (f : FE) : FO := fun δ => (f δ).bind fun x => match x with
  | .int i => some (some i)
  | _ => none
def pSx (n d : Nat) : Option Int → Nat
  | none => d
  | some i => if i < 0 then (i + n).toNat else min i.toNat n
def cutD (xs : List D) (lo hi : Option Int) : List D := (xs.drop (pSx xs.length 0 lo)).take (pSx xs.length xs.length hi - pSx xs.length 0 lo)
def dSl (f : FE) (lo hi : FO) : FE := fun δ => (f δ).bind fun x => (lo δ).bind fun a => (hi δ).bind fun b => match x with
  | .list l => some (.list (cutD l a b))
  | _ => none
def sPar (i j : Nat) (fa : FA) : FS := fun δ => (fa δ).bind fun l => match l with
  | [x, y] => if i < δ.length ∧ j < δ.length then some (.nx ((δ.set i (some (.d x))).set j (some (.d y)))) else none
  | _ => none
def enumD (l : List D) : List D := l.mapIdx fun i x => .tuple [.int (i : Int), x]
def fEnum (f : FE) : FA := fun δ => (f δ).bind fun d => match d with
  | .list l => some (enumD l)
  | _ => none
def boolsD : List D → Option (List Bool)
  | [] => some []
  | .bool b :: r => (boolsD r).map (b :: ·)
  | _ => none
def gAll : List D → Option D
  | [.list l] => (boolsD l).map fun bs => .bool (bs.all id)
  | _ => none
def gAny : List D → Option D
  | [.list l] => (boolsD l).map fun bs => .bool (bs.any id)
  | _ => none
def zipD : List D → List D → List D
  | x :: r, y :: s => .tuple [x, y] :: zipD r s
  | _, _ => []
def fZip (f g : FE) : FA := fun δ => (f δ).bind fun d => (g δ).bind fun e => match d, e with
  | .list l, .list m => some (zipD l m)
  | _, _ => none
end D3
namespace D3
open PySem PySem.Spec PyProof.Rows L2 My
abbrev Ok := Addr → Prop
abbrev St := L2.St
def SqK (K : PySem.W.Frag) (H : Hp) (a : Addr) (xs : List V) : Prop := (∃ o, H a = some (.frz o (.lst xs))) ∨
  ∃ (o : Obj) (its : Array Value) (n : Nat), K.lookup a = some o ∧ o.cls = .type "list" ∧ o.dict = none ∧ o.data = .seq its n ∧ its.size ≤ sizeLine ∧ Vals xs its.toList
theorem SqK.sq {K : PySem.W.Frag} {H : Hp} {a : Addr} {xs : List V} (h : SqK K H a xs) : SqL K H a xs := by
  rcases h with ⟨o, h⟩ | h
  · exact .inl (.inr ⟨o, h⟩)
  · exact .inr h
def dk0 : List (D × D) → List (Key × V)
  | [] => []
  | (.int i, .int j) :: r => (.inl i, .int j) :: dk0 r
  | _ :: r => (.inl 0, .non) :: dk0 r
mutual
inductive RA (K : PySem.W.Frag) (ok : Ok) (pl : Bool) (H : Hp) : V → D → Prop
  | non : RA K ok pl H .non .none
  | bl (b : Bool) : RA K ok pl H (.bl b) (.bool b)
  | int (i : Int) : RA K ok pl H (.int i) (.int i)
  | str (x : Str) : RA K ok pl H (.str x) (.str x)
  | lst {a : Addr} {xs : List V} {ds : List D} : H a = some (.lst xs) → ok a → RAs K ok pl H xs ds → RA K ok pl H (.ref a) (.list ds)
  | lsk {a : Addr} {xs : List V} {ds : List D} : SqK K H a xs → pl = true → RAs K ok pl H xs ds → RA K ok pl H (.ref a) (.list ds)
  | tup {a : Addr} {xs : List V} {ds : List D} : SqT K H a xs → RAs K ok pl H xs ds → RA K ok pl H (.ref a) (.tuple ds)
  | dic {a : Addr} {kvs : List (D × D)} : H a = some (.dK (dk0 kvs)) → ok a → RA K ok pl H (.ref a) (.dict kvs)
inductive RAs (K : PySem.W.Frag) (ok : Ok) (pl : Bool) (H : Hp) : List V → List D → Prop
  | nil : RAs K ok pl H [] []
  | cons {v : V} {d : D} {vs : List V} {ds : List D} : RA K ok pl H v d → RAs K ok pl H vs ds → RAs K ok pl H (v :: vs) (d :: ds)
end
section
variable {K : PySem.W.Frag} {ok ok' : Ok} {pl pl' : Bool} {H H' : Hp}
mutual
theorem RA.imp (ho : ∀ a, ok a → ok' a) (hp : pl = true → pl' = true) : ∀ {v : V} {d : D}, RA K ok pl H v d → RA K ok' pl' H v d
  | _, _, .non => .non
  | _, _, .bl b => .bl b
  | _, _, .int i => .int i
  | _, _, .str x => .str x
  | _, _, .lst h o q => .lst h (ho _ o) (RAs.imp ho hp q)
  | _, _, .lsk h o q => .lsk h (hp o) (RAs.imp ho hp q)
  | _, _, .tup h q => .tup h (RAs.imp ho hp q)
  | _, _, .dic h o => .dic h (ho _ o)
theorem RAs.imp (ho : ∀ a, ok a → ok' a) (hp : pl = true → pl' = true) : ∀ {v : List V} {d : List D}, RAs K ok pl H v d → RAs K ok' pl' H v d
  | _, _, .nil => .nil
  | _, _, .cons h q => .cons (RA.imp ho hp h) (RAs.imp ho hp q)
end
theorem SqK.same {a : Addr} {xs : List V} (e : Same H H') (h : SqK K H a xs) : SqK K H' a xs := by
  rcases h with ⟨o, h⟩ | h
  · exact .inl ⟨o, e _ _ h⟩
  · exact .inr h
mutual
theorem RA.same (e : Same H H') : ∀ {v : V} {d : D}, RA K ok pl H v d → RA K ok pl H' v d
  | _, _, .non => .non
  | _, _, .bl b => .bl b
  | _, _, .int i => .int i
  | _, _, .str x => .str x
  | _, _, .lst h o q => .lst (e _ _ h) o (RAs.same e q)
  | _, _, .lsk h o q => .lsk (h.same e) o (RAs.same e q)
  | _, _, .tup h q => .tup (same_tup e h) (RAs.same e q)
  | _, _, .dic h o => .dic (e _ _ h) o
theorem RAs.same (e : Same H H') : ∀ {v : List V} {d : List D}, RAs K ok pl H v d → RAs K ok pl H' v d
  | _, _, .nil => .nil
  | _, _, .cons h q => .cons (RA.same e h) (RAs.same e q)
end
mutual
theorem RA.flat : ∀ {v : V} {d : D}, flat d = true → RA K ok pl H v d → RA K ok' pl' H v d
  | _, _, _, .non => .non
  | _, _, _, .bl b => .bl b
  | _, _, _, .int i => .int i
  | _, _, _, .str x => .str x
  | _, _, h, .lst _ _ _ => by simp [D3.flat] at h
  | _, _, h, .lsk _ _ _ => by simp [D3.flat] at h
  | _, _, h, .tup t q => .tup t (RAs.flat (by simpa [D3.flat] using h) q)
  | _, _, h, .dic _ _ => by simp [D3.flat] at h
theorem RAs.flat : ∀ {v : List V} {d : List D}, flats d = true → RAs K ok pl H v d → RAs K ok' pl' H v d
  | _, _, _, .nil => .nil
  | _, _, h, .cons a q => by
    rw [flats, Bool.and_eq_true] at h
    exact .cons (RA.flat h.1 a) (RAs.flat h.2 q)
end
theorem SqK.upd {a b : Addr} {xs ys : List V} {o : HO} (h : H a = some (.lst ys)) (q : SqK K H b xs) : SqK K (upd H a o) b xs := by
  rcases q with ⟨o', q⟩ | q
  · refine .inl ⟨o', ?_⟩
    rw [upd_ne (ne_of q h (by intro z; cases z))]
    exact q
  · exact .inr q
theorem SqT.upd {a b : Addr} {xs ys : List V} {o : HO} (h : H a = some (.lst ys)) (q : SqT K H b xs) : SqT K (upd H a o) b xs := by
  rcases q with (q | ⟨o', q⟩) | q
  · refine .inl (.inl ?_)
    rw [upd_ne (ne_of q h (by intro z; cases z))]
    exact q
  · refine .inl (.inr ⟨o', ?_⟩)
    rw [upd_ne (ne_of q h (by intro z; cases z))]
    exact q
  · exact .inr q
mutual
theorem RA.upd {a : Addr} {ys : List V} {o : HO} (h : H a = some (.lst ys)) (na : ¬ ok a) : ∀ {v : V} {d : D}, RA K ok pl H v d → RA K ok pl (upd H a o) v d
  | _, _, .non => .non
  | _, _, .bl b => .bl b
  | _, _, .int i => .int i
  | _, _, .str x => .str x
  | _, _, .lst (a := b) e k q => .lst (by rw [upd_ne (by intro z; subst z; exact na k)]; exact e) k (RAs.upd h na q)
  | _, _, .lsk e k q => .lsk (e.upd h) k (RAs.upd h na q)
  | _, _, .tup e q => .tup (SqT.upd h e) (RAs.upd h na q)
  | _, _, .dic (a := b) e k => .dic (by rw [upd_ne (by intro z; subst z; exact na k)]; exact e) k
theorem RAs.upd {a : Addr} {ys : List V} {o : HO} (h : H a = some (.lst ys)) (na : ¬ ok a) : ∀ {v : List V} {d : List D}, RAs K ok pl H v d → RAs K ok pl (upd H a o) v d
  | _, _, .nil => .nil
  | _, _, .cons e q => .cons (RA.upd h na e) (RAs.upd h na q)
end
mutual
theorem RA.track : ∀ {v : V} {d : D}, RA K ok pl H v d → RA K (fun b => ok b ∧ H b ≠ none) pl H v d
  | _, _, .non => .non
  | _, _, .bl b => .bl b
  | _, _, .int i => .int i
  | _, _, .str x => .str x
  | _, _, .lst e k q => .lst e ⟨k, by rw [e]; simp⟩ (RAs.track q)
  | _, _, .lsk e k q => .lsk e k (RAs.track q)
  | _, _, .tup e q => .tup e (RAs.track q)
  | _, _, .dic e k => .dic e ⟨k, by rw [e]; simp⟩
theorem RAs.track : ∀ {v : List V} {d : List D}, RAs K ok pl H v d → RAs K (fun b => ok b ∧ H b ≠ none) pl H v d
  | _, _, .nil => .nil
  | _, _, .cons e q => .cons (RA.track e) (RAs.track q)
end
theorem RAs.length : ∀ {v : List V} {d : List D}, RAs K ok pl H v d → v.length = d.length
  | _, _, .nil => rfl
  | _, _, .cons _ q => by simp [RAs.length q]
theorem RAs.get : ∀ {v : List V} {d : List D} {i : Nat} {x : D}, RAs K ok pl H v d → d[i]? = some x → ∃ y, v[i]? = some y ∧ RA K ok pl H y x
  | _, _, _, _, .nil, h => by simp at h
  | _, _, 0, _, .cons a _, h => by simp at h; subst h; exact ⟨_, rfl, a⟩
  | _, _, i + 1, _, .cons _ q, h => by
    obtain ⟨y, e, r⟩ := RAs.get (i := i) q (by simpa using h)
    exact ⟨y, by simpa using e, r⟩
theorem RAs.append : ∀ {v v' : List V} {d d' : List D}, RAs K ok pl H v d → RAs K ok pl H v' d' → RAs K ok pl H (v ++ v') (d ++ d')
  | _, _, _, _, .nil, q => q
  | _, _, _, _, .cons a r, q => .cons a (RAs.append r q)
theorem RAs.set {x : V} {y : D} (r : RA K ok pl H x y) : ∀ {v : List V} {d : List D} (i : Nat), RAs K ok pl H v d → RAs K ok pl H (v.set i x) (d.set i y)
  | _, _, _, .nil => .nil
  | _, _, 0, .cons _ q => .cons r q
  | _, _, i + 1, .cons a q => .cons a (RAs.set r i q)
theorem RAs.take : ∀ {v : List V} {d : List D} (n : Nat), RAs K ok pl H v d → RAs K ok pl H (v.take n) (d.take n)
  | _, _, 0, _ => by simp; exact .nil
  | _, _, _ + 1, .nil => .nil
  | _, _, n + 1, .cons a q => .cons a (RAs.take n q)
theorem RAs.drop : ∀ {v : List V} {d : List D} (n : Nat), RAs K ok pl H v d → RAs K ok pl H (v.drop n) (d.drop n)
  | _, _, 0, q => q
  | _, _, _ + 1, .nil => .nil
  | _, _, n + 1, .cons _ q => RAs.drop n q
mutual
theorem RA.rd : ∀ {v : V} {d : D}, d.canLay0 = true → RA K ok pl H v d → RdV K H v d
  | _, _, _, .non => .non
  | _, _, _, .bl b => .bl b
  | _, _, _, .int i => .int i
  | _, _, _, .str x => .str x
  | _, _, h, .lst e _ q => .lst (SqL.of e) (RAs.rd (by simpa [PyData.canLay0] using h) q)
  | _, _, h, .lsk e _ q => .lst e.sq (RAs.rd (by simpa [PyData.canLay0] using h) q)
  | _, _, h, .tup e q => .tup e (RAs.rd (by simpa [PyData.canLay0] using h) q)
  | _, _, h, .dic _ _ => by simp [PyData.canLay0] at h
theorem RAs.rd : ∀ {v : List V} {d : List D}, PyData.canLayAll0 d = true → RAs K ok pl H v d → RdVs K H v d
  | _, _, _, .nil => .nil
  | _, _, h, .cons e q => by
    rw [PyData.canLayAll0, Bool.and_eq_true] at h
    exact .cons (RA.rd h.1 e) (RAs.rd h.2 q)
end
theorem RA.intE {v : V} {i : Int} (h : RA K ok pl H v (.int i)) : v = .int i := by cases h; rfl
theorem RA.blE {v : V} {b : Bool} (h : RA K ok pl H v (.bool b)) : v = .bl b := by cases h; rfl
theorem RA.lstE {v : V} {ds : List D} (h : RA K ok pl H v (.list ds)) : ∃ a xs, v = .ref a ∧ SqL K H a xs ∧ RAs K ok pl H xs ds := by
  cases h with
  | lst e k q => exact ⟨_, _, rfl, SqL.of e, q⟩
  | lsk e k q => exact ⟨_, _, rfl, e.sq, q⟩
theorem RA.tupE {v : V} {ds : List D} (h : RA K ok pl H v (.tuple ds)) : ∃ a xs, v = .ref a ∧ SqT K H a xs ∧ RAs K ok pl H xs ds := by
  cases h with
  | tup e q => exact ⟨_, _, rfl, e, q⟩
end
inductive Fl where
  | A
  | O
  | L
  | N
  | M
  deriving DecidableEq
def isN : Option Fl → Bool
  | some .N => true
  | some .M => true
  | _ => false
mutual
inductive RT (K : PySem.W.Frag) (H : Hp) : V → D → List Addr → Prop
  | non : RT K H .non .none []
  | bl (b : Bool) : RT K H (.bl b) (.bool b) []
  | int (i : Int) : RT K H (.int i) (.int i) []
  | str (x : Str) : RT K H (.str x) (.str x) []
  | lst {a : Addr} {xs : List V} {ds : List D} {as : List Addr} : H a = some (.lst xs) → RTs K H xs ds as → RT K H (.ref a) (.list ds) (a :: as)
  | tup {a : Addr} {xs : List V} {ds : List D} {as : List Addr} : SqT K H a xs → RTs K H xs ds as → RT K H (.ref a) (.tuple ds) as
  | dic {a : Addr} {kvs : List (D × D)} : H a = some (.dK (dk0 kvs)) → RT K H (.ref a) (.dict kvs) [a]
inductive RTs (K : PySem.W.Frag) (H : Hp) : List V → List D → List Addr → Prop
  | nil : RTs K H [] [] []
  | cons {v : V} {d : D} {vs : List V} {ds : List D} {as bs : List Addr} : RT K H v d as → RTs K H vs ds bs → RTs K H (v :: vs) (d :: ds) (as ++ bs)
end
section
variable {K : PySem.W.Frag} {H H' : Hp}
mutual
theorem RT.ra {ok : Ok} {pl : Bool} : ∀ {v : V} {d : D} {as : List Addr}, RT K H v d as → (∀ a ∈ as, ok a) → RA K ok pl H v d
  | _, _, _, .non, _ => .non
  | _, _, _, .bl b, _ => .bl b
  | _, _, _, .int i, _ => .int i
  | _, _, _, .str x, _ => .str x
  | _, _, _, .lst e q, h => .lst e (h _ List.mem_cons_self) (RTs.ra q fun a ha => h a (List.mem_cons_of_mem _ ha))
  | _, _, _, .tup e q, h => .tup e (RTs.ra q h)
  | _, _, _, .dic e, h => .dic e (h _ List.mem_cons_self)
theorem RTs.ra {ok : Ok} {pl : Bool} : ∀ {v : List V} {d : List D} {as : List Addr}, RTs K H v d as → (∀ a ∈ as, ok a) → RAs K ok pl H v d
  | _, _, _, .nil, _ => .nil
  | _, _, _, .cons e q, h => .cons (RT.ra e fun a ha => h a (List.mem_append_left _ ha)) (RTs.ra q fun a ha => h a (List.mem_append_right _ ha))
end
mutual
theorem RT.same (s : Same H H') : ∀ {v : V} {d : D} {as : List Addr}, RT K H v d as → RT K H' v d as
  | _, _, _, .non => .non
  | _, _, _, .bl b => .bl b
  | _, _, _, .int i => .int i
  | _, _, _, .str x => .str x
  | _, _, _, .lst e q => .lst (s _ _ e) (RTs.same s q)
  | _, _, _, .tup e q => .tup (same_tup s e) (RTs.same s q)
  | _, _, _, .dic e => .dic (s _ _ e)
theorem RTs.same (s : Same H H') : ∀ {v : List V} {d : List D} {as : List Addr}, RTs K H v d as → RTs K H' v d as
  | _, _, _, .nil => .nil
  | _, _, _, .cons e q => .cons (RT.same s e) (RTs.same s q)
end
mutual
theorem RT.upd {a : Addr} {ys : List V} {o : HO} (h : H a = some (.lst ys)) : ∀ {v : V} {d : D} {as : List Addr}, a ∉ as → RT K H v d as → RT K (upd H a o) v d as
  | _, _, _, _, .non => .non
  | _, _, _, _, .bl b => .bl b
  | _, _, _, _, .int i => .int i
  | _, _, _, _, .str x => .str x
  | _, _, _, na, .lst e q => .lst (by rw [upd_ne (fun z => na (by rw [← z]; exact List.mem_cons_self))]; exact e) (RTs.upd h (fun z => na (List.mem_cons_of_mem _ z)) q)
  | _, _, _, na, .tup e q => .tup (SqT.upd h e) (RTs.upd h na q)
  | _, _, _, na, .dic e => .dic (by rw [upd_ne (fun z => na (by rw [← z]; exact List.mem_cons_self))]; exact e)
theorem RTs.upd {a : Addr} {ys : List V} {o : HO} (h : H a = some (.lst ys)) : ∀ {v : List V} {d : List D} {as : List Addr}, a ∉ as → RTs K H v d as → RTs K (upd H a o) v d as
  | _, _, _, _, .nil => .nil
  | _, _, _, na, .cons e q => .cons (RT.upd h (fun z => na (List.mem_append_left _ z)) e) (RTs.upd h (fun z => na (List.mem_append_right _ z)) q)
end
mutual
theorem RT.tracked : ∀ {v : V} {d : D} {as : List Addr}, RT K H v d as → ∀ a ∈ as, H a ≠ none
  | _, _, _, .non, _, h => by cases h
  | _, _, _, .bl b, _, h => by cases h
  | _, _, _, .int i, _, h => by cases h
  | _, _, _, .str x, _, h => by cases h
  | _, _, _, .lst e q, a, h => by
    rcases List.mem_cons.mp h with rfl | z
    · rw [e]; simp
    · exact RTs.tracked q a z
  | _, _, _, .tup e q, a, h => RTs.tracked q a h
  | _, _, _, .dic e, a, h => by
    rw [List.mem_singleton.mp h, e]; simp
theorem RTs.tracked : ∀ {v : List V} {d : List D} {as : List Addr}, RTs K H v d as → ∀ a ∈ as, H a ≠ none
  | _, _, _, .nil, _, h => by cases h
  | _, _, _, .cons e q, a, h => by
    rcases List.mem_append.mp h with z | z
    · exact RT.tracked e a z
    · exact RTs.tracked q a z
end
mutual
theorem RA.rt {ok : Ok} : ∀ {v : V} {d : D}, RA K ok false H v d → ∃ as, RT K H v d as ∧ as.length = nl d ∧ ∀ a ∈ as, ok a
  | _, _, .non => ⟨[], .non, rfl, fun _ h => by cases h⟩
  | _, _, .bl b => ⟨[], .bl b, rfl, fun _ h => by cases h⟩
  | _, _, .int i => ⟨[], .int i, rfl, fun _ h => by cases h⟩
  | _, _, .str x => ⟨[], .str x, rfl, fun _ h => by cases h⟩
  | _, _, .lst e k q => by
    obtain ⟨as, h1, h2, h3⟩ := RAs.rts q
    refine ⟨_ :: as, .lst e h1, by rw [List.length_cons, h2, nl], fun a ha => ?_⟩
    rcases List.mem_cons.mp ha with rfl | z
    · exact k
    · exact h3 a z
  | _, _, .lsk e k q => by cases k
  | _, _, .tup e q => by
    obtain ⟨as, h1, h2, h3⟩ := RAs.rts q
    exact ⟨as, .tup e h1, by rw [h2, nl], h3⟩
  | _, _, .dic e k => ⟨[_], .dic e, by simp [nl], fun a ha => by rw [List.mem_singleton.mp ha]; exact k⟩
theorem RAs.rts {ok : Ok} : ∀ {v : List V} {d : List D}, RAs K ok false H v d → ∃ as, RTs K H v d as ∧ as.length = nls d ∧ ∀ a ∈ as, ok a
  | _, _, .nil => ⟨[], .nil, rfl, fun _ h => by cases h⟩
  | _, _, .cons e q => by
    obtain ⟨as, h1, h2, h3⟩ := RA.rt e
    obtain ⟨bs, g1, g2, g3⟩ := RAs.rts q
    refine ⟨as ++ bs, .cons h1 g1, by rw [List.length_append, h2, g2, nls], fun a ha => ?_⟩
    rcases List.mem_append.mp ha with z | z
    · exact h3 a z
    · exact g3 a z
end
end
structure Gh where
  H0 : Hp
  HF : Hp
  pk : Nat → Option Addr
  pn : Nat → List Addr := fun _ => []
structure Ow where
  s : Nat → Option Addr
  n : Nat → List Addr := fun _ => []
instance : CoeFun Ow (fun _ => Nat → Option Addr) := ⟨Ow.s⟩
abbrev ow0 : Ow := ⟨fun _ => none, fun _ => []⟩
def okA (ow : Ow) : Ok := fun a => (∀ i, ow i ≠ some a) ∧ ∀ i, a ∉ ow.n i
structure Rel (K : PySem.W.Frag) (fl : List Fl) (G : Gh) (ow : Ow) (σ : St) (H : Hp) (δ : DS) : Prop where
  s0 : Same G.H0 G.HF
  s1 : Same G.HF H
  len : σ.length = δ.length
  own : ∀ i a, ow i = some a → G.H0 a = none ∧ ((fl[i]? = some .O ∧ G.HF a = none) ∨ (fl[i]? = some .L ∧ ∃ xs, G.HF a = some (.lst xs))) ∧
    ∃ xs ds, σ[i]? = some (some (.ref a)) ∧ H a = some (.lst xs) ∧ RAs K (okA ow) true H xs ds ∧ δ[i]? = some (some (.d (.list ds)))
  inj : ∀ i j a, ow i = some a → ow j = some a → i = j
  pin : ∀ i, fl[i]? = some .L → ow i = G.pk i
  dat : ∀ i d, δ[i]? = some (some (.d d)) → isN fl[i]? = false → ow i = none → ∃ v, σ[i]? = some (some v) ∧ RA K (okA ow) true H v d
  oo : ∀ i d, δ[i]? = some (some (.d d)) → isN fl[i]? = false → fl[i]? ≠ some .A → ow i = none → flat d = true
  nt : ∀ i a, a ∈ ow.n i → G.H0 a = none ∧ H a ≠ none ∧ ((fl[i]? = some .N ∧ G.HF a = none) ∨ fl[i]? = some .M)
  nd : ∀ i j a, a ∈ ow.n i → a ∈ ow.n j → i = j
  ns : ∀ i j a, a ∈ ow.n i → ow j ≠ some a
  np : ∀ i, fl[i]? = some .M → ow.n i = G.pn i
  nr : ∀ i d, isN fl[i]? = true → δ[i]? = some (some (.d d)) → ∃ v, σ[i]? = some (some v) ∧ RT K H v d (ow.n i) ∧ (ow.n i).Nodup
theorem Rel.same0 {K : PySem.W.Frag} {fl : List Fl} {G : Gh} {ow : Ow} {σ : St} {H : Hp} {δ : DS} (R : Rel K fl G ow σ H δ) : Same G.H0 H := R.s0.trans R.s1
theorem Rel.grow {K : PySem.W.Frag} {fl : List Fl} {G : Gh} {ow : Ow} {σ : St} {H H' : Hp} {δ : DS} (R : Rel K fl G ow σ H δ) (e : Same H H') : Rel K fl G ow σ H' δ :=
  ⟨R.s0, R.s1.trans e, R.len, fun i a h => by
    obtain ⟨h0, hf, xs, ds, h1, h2, h3, h4⟩ := R.own i a h
    exact ⟨h0, hf, xs, ds, h1, e _ _ h2, h3.same e, h4⟩, R.inj, R.pin, fun i d h1 hn h2 => by
    obtain ⟨v, h3, h4⟩ := R.dat i d h1 hn h2
    exact ⟨v, h3, h4.same e⟩, R.oo, fun i a h => by
    obtain ⟨h1, h2, h3⟩ := R.nt i a h
    refine ⟨h1, fun z => h2 (e.free z), h3⟩, R.nd, R.ns, R.np, fun i d h1 h2 => by
    obtain ⟨v, h3, h4, h5⟩ := R.nr i d h1 h2
    exact ⟨v, h3, h4.same e, h5⟩⟩
inductive Kd where
  | P
  | B (L : List Nat)
  | A
  | R
  | F
  | C
  | FC
  | T
def ok1 : Ok := fun _ => True
def ok0 : Ok := fun _ => False
def okN (H : Hp) : Ok := fun a => H a = none
def Rs (K : PySem.W.Frag) (H0 : Hp) (ow : Ow) (Hb H : Hp) : Kd → V → D → Prop
  | .P, v, d => RA K ok1 true H v d
  | .B L, v, d => RA K (okA ow) true H v d ∨ ∃ i ∈ L, ∃ a xs ds, ow i = some a ∧ v = .ref a ∧ d = .list ds ∧ H a = some (.lst xs) ∧ RAs K (okA ow) true H xs ds
  | .A, v, d => RA K (okA ow) true H v d
  | .R, v, d => RA K (okN H0) false H v d
  | .F, v, d => (flat d = true ∧ RA K ok0 false H v d) ∨ ∃ a xs ds, v = .ref a ∧ d = .list ds ∧ Hb a = none ∧ H a = some (.lst xs) ∧ RAs K (fun b => okA ow b ∧ b ≠ a) true H xs ds
  | .C, v, d => RA K (okN Hb) false H v d
  | .T, v, d => ∃ as, RT K H v d as ∧ as.Nodup ∧ ∀ a ∈ as, Hb a = none
  | .FC, v, d => (flat d = true ∧ RA K ok0 false H v d) ∨ ∃ a xs ds, v = .ref a ∧ d = .list ds ∧ Hb a = none ∧ H a = some (.lst xs) ∧ RAs K (fun b => okN Hb b ∧ b ≠ a) false H xs ds
section
variable {K : PySem.W.Frag} {Hb H H' : Hp} {fl : List Fl} {G : Gh} {ow : Ow} {σ : St} {δ : DS} {v : V} {d : D}
theorem okA_new (R : Rel K fl G ow σ Hb δ) {a : Addr} (h : Hb a = none) : okA ow a := ⟨fun i e => (by
  obtain ⟨_, _, xs, _, _, h2, _⟩ := R.own i a e
  rw [h] at h2
  cases h2), fun i e => (R.nt i a e).2.1 h⟩
theorem okN_0 (R : Rel K fl G ow σ Hb δ) {a : Addr} (h : Hb a = none) : okN G.H0 a := R.same0.free h
theorem Rs.FC_F (R : Rel K fl G ow σ Hb δ) (h : Rs K G.H0 ow Hb H .FC v d) : Rs K G.H0 ow Hb H .F v d := by
  rcases h with h | ⟨a, xs, ds, h1, h2, h3, h4, h5⟩
  · exact .inl h
  · exact .inr ⟨a, xs, ds, h1, h2, h3, h4, h5.imp (fun b z => ⟨okA_new R z.1, z.2⟩) (fun _ => rfl)⟩
theorem Rs.FC_C (h : Rs K G.H0 ow Hb H .FC v d) : Rs K G.H0 ow Hb H .C v d := by
  rcases h with h | ⟨a, xs, ds, rfl, rfl, h3, h4, h5⟩
  · exact RA.flat h.1 h.2
  · exact .lst h4 h3 (h5.imp (fun b z => z.1) (fun z => z))
theorem Rs.F_A (R : Rel K fl G ow σ Hb δ) (h : Rs K G.H0 ow Hb H .F v d) : Rs K G.H0 ow Hb H .A v d := by
  rcases h with h | ⟨a, xs, ds, rfl, rfl, h3, h4, h5⟩
  · exact RA.flat h.1 h.2
  · exact .lst h4 (okA_new R h3) (h5.imp (fun b z => z.1) (fun z => z))
theorem Rs.C_A (R : Rel K fl G ow σ Hb δ) (h : Rs K G.H0 ow Hb H .C v d) : Rs K G.H0 ow Hb H .A v d := RA.imp (fun _ z => okA_new R z) (fun _ => rfl) h
theorem Rs.C_R (R : Rel K fl G ow σ Hb δ) (h : Rs K G.H0 ow Hb H .C v d) : Rs K G.H0 ow Hb H .R v d := RA.imp (fun _ z => okN_0 R z) (fun z => z) h
theorem Rs.A_B (L : List Nat) (h : Rs K G.H0 ow Hb H .A v d) : Rs K G.H0 ow Hb H (.B L) v d := .inl h
theorem Rs.B_P {L : List Nat} (h : Rs K G.H0 ow Hb H (.B L) v d) : Rs K G.H0 ow Hb H .P v d := by
  rcases h with h | ⟨i, _, a, xs, ds, _, rfl, rfl, h4, h5⟩
  · exact RA.imp (fun _ _ => trivial) (fun z => z) h
  · exact .lst h4 trivial (h5.imp (fun _ _ => trivial) (fun z => z))
theorem Rs.P_flat (hf : flat d = true) (h : Rs K G.H0 ow Hb H .P v d) : Rs K G.H0 ow Hb H .FC v d := .inl ⟨hf, RA.flat hf h⟩
end
def tD (K : PySem.W.Frag) (fl : List Fl) (k : Kd) (f : FE) : TE := fun σ H Q => ∃ G ow δ d, Rel K fl G ow σ H δ ∧ f δ = some d ∧ ∀ v H', Same H H' → Rs K G.H0 ow H H' k v d → Q v H'
abbrev DE (X : Cx) (fl : List Fl) (k : Kd) (e : Expr) (f : FE) : Prop := PE X e (tD X.K fl k f)
def tDA (K : PySem.W.Frag) (fl : List Fl) (f : FA) : TA := fun σ H Q => ∃ G ow δ ds, Rel K fl G ow σ H δ ∧ f δ = some ds ∧ ∀ vs H', Same H H' → RAs K ok1 true H' vs ds → Q vs H'
abbrev DA (X : Cx) (fl : List Fl) (es : List Expr) (f : FA) : Prop := PA X es (tDA X.K fl f)
def tDT (K : PySem.W.Frag) (fl : List Fl) (f : FT) : TT := fun σ H Q => ∃ G ow δ b, Rel K fl G ow σ H δ ∧ f δ = some b ∧ ∀ H', Same H H' → Q b H'
abbrev DT (X : Cx) (fl : List Fl) (e : Expr) (f : FT) : Prop := PT X e (tDT X.K fl f)
abbrev DW (X : Cx) (fl : List Fl) (e : Expr) (f : FT) : Prop := PW X e (tDT X.K fl f)
def EndD (K : PySem.W.Frag) (fl : List Fl) (G : Gh) (Dn : Ends) : Oc → Prop
  | .nx δ' => ∀ ow' σ' H', Rel K fl G ow' σ' H' δ' → Dn.nx σ' H'
  | .rt d => ∀ v H', Same G.H0 H' → RA K (okN G.H0) false H' v d → Dn.rt v H'
  | .bk δ' => ∀ ow' σ' H', Rel K fl G ow' σ' H' δ' → Dn.bk σ' H'
  | .ct δ' => ∀ ow' σ' H', Rel K fl G ow' σ' H' δ' → Dn.ct σ' H'
  | .ex _ _ d => ∀ v H', Same G.H0 H' → RA K ok1 true H' v d → Dn.rt v H'
def tDS (K : PySem.W.Frag) (fl : List Fl) (f : FS) : TS := fun Dn σ H => ∃ G ow δ o, Rel K fl G ow σ H δ ∧ f δ = some o ∧ EndD K fl G Dn o
abbrev DS1 (X : Cx) (fl : List Fl) (s : Stmt) (f : FS) : Prop := PS X s (tDS X.K fl f)
abbrev DSs (X : Cx) (fl : List Fl) (s : List Stmt) (f : FS) : Prop := PSs X s (tDS X.K fl f)
def tDG (K : PySem.W.Frag) (fl : List Fl) (tg : List Nat) (g : FG) : TG := fun v σ H Q => ∃ G ow δ d δ', Rel K fl G ow σ H δ ∧ RA K (okA ow) true H v d ∧ g d δ = some δ' ∧ ∀ σ', Rel K fl G ow σ' H δ' → (∀ j, j ∉ tg → σ'[j]? = σ[j]?) → Q σ' H
abbrev DG (X : Cx) (fl : List Fl) (tg : List Nat) (e : Expr) (g : FG) : Prop := PG X e (tDG X.K fl tg g)
section
variable {X : Cx} {e : Expr} {es : List Expr} {st : Stmt} {sts : List Stmt}
theorem PE.imp {t t' : TE} (h : PE X e t) (i : ∀ σ H Q, t' σ H Q → t σ H Q) : PE X e t' := fun pins s σ H Q I q => h pins s σ H Q I (i σ H Q q)
theorem PT.imp {t t' : TT} (h : PT X e t) (i : ∀ σ H Q, t' σ H Q → t σ H Q) : PT X e t' := fun pins s σ H Q I q => h pins s σ H Q I (i σ H Q q)
theorem PW.imp {t t' : TT} (h : PW X e t) (i : ∀ σ H Q, t' σ H Q → t σ H Q) : PW X e t' := fun w pins s σ H Q I q => h w pins s σ H Q I (i σ H Q q)
theorem PA.imp {t t' : TA} (h : PA X es t) (i : ∀ σ H Q, t' σ H Q → t σ H Q) : PA X es t' := fun p pins s σ H Q I q => h p pins s σ H Q I (i σ H Q q)
theorem PS.imp {t t' : TS} (h : PS X st t) (i : ∀ D σ H, t' D σ H → t D σ H) : PS X st t' := fun pins s σ H D I q => h pins s σ H D I (i D σ H q)
theorem PSs.imp {t t' : TS} (h : PSs X sts t) (i : ∀ D σ H, t' D σ H → t D σ H) : PSs X sts t' := fun pins s σ H D I q => h pins s σ H D I (i D σ H q)
theorem PG.imp {t t' : TG} (h : PG X e t) (i : ∀ v σ H Q, t' v σ H Q → t v σ H Q) : PG X e t' := fun pins s σ H v u Q I r q => h pins s σ H v u Q I r (i v σ H Q q)
end
end D3
namespace D3
open PySem PySem.Spec PyProof.Rows L2 My
section
variable {X : Cx} {fl : List Fl} {e a b c : Expr} {es : List Expr} {k : Kd} {f fa fb fc : FE} {pos : Pos}
theorem dVar_eq {i : Nat} {δ : DS} {d : D} (h : dVar i δ = some d) : δ[i]? = some (some (.d d)) := by
  unfold dVar at h
  split at h
  · next x e => rw [e]; cases h; rfl
  · cases h
theorem de_varA (i : Nat) (hfl : fl[i]? = some .A) {x : Str} (hN : X.N[i]? = some x := by rfl) (hv : Vis X.env.scope x := by first | exact Or.inl rfl | exact Or.inr (Or.inl rfl) | exact Or.inr (Or.inr rfl)) (hd : (x == ("__debug__" : Str)) = false := by decide)
    (hcd : (x == ("__classdict__" : Str)) = false := by decide) : DE X fl .A (.Name x pos) (dVar i) := by
  refine PE.imp (pe_var hN hv hd hcd) fun σ H Q h => ?_
  obtain ⟨G, ow, δ, d, R, hf, q⟩ := h
  have e := dVar_eq hf
  cases ho : ow i with
  | none =>
    obtain ⟨v, h1, h2⟩ := R.dat i d e (by rw [hfl]; rfl) ho
    exact ⟨v, h1, q v H (Same.refl H) h2⟩
  | some a =>
    obtain ⟨h0, hz, _⟩ := R.own i a ho
    rw [hfl] at hz
    rcases hz with ⟨z, _⟩ | ⟨z, _⟩ <;> cases z
theorem de_cast {k k' : Kd} (h : DE X fl k e f) (hc : ∀ (Hb H : Hp) (G : Gh) (ow : Ow) (σ : St) (δ : DS) (v : V) (d : D), Rel X.K fl G ow σ Hb δ → Rs X.K G.H0 ow Hb H k v d → Rs X.K G.H0 ow Hb H k' v d) : DE X fl k' e f := by
  refine PE.imp h fun σ H Q h => ?_
  obtain ⟨G, ow, δ, d, R, hf, q⟩ := h
  exact ⟨G, ow, δ, d, R, hf, fun v H' s r => q v H' s (hc _ _ G ow σ δ v d R r)⟩
theorem de_guard {k k' : Kd} {p : D → Bool} (h : DE X fl k e f) (hc : ∀ (Hb H : Hp) (G : Gh) (ow : Ow) (σ : St) (δ : DS) (v : V) (d : D), p d = true → Rel X.K fl G ow σ Hb δ → Rs X.K G.H0 ow Hb H k v d → Rs X.K G.H0 ow Hb H k' v d) :
    DE X fl k' e (fun δ => (f δ).bind fun d => if p d = true then some d else none) := by
  refine PE.imp h fun σ H Q h => ?_
  obtain ⟨G, ow, δ, d, R, hf, q⟩ := h
  dsimp only at hf
  cases hv : f δ with
  | none => rw [hv] at hf; cases hf
  | some d' =>
    rw [hv, Option.bind_some] at hf
    by_cases hp : p d' = true
    · rw [if_pos hp] at hf
      cases hf
      exact ⟨G, ow, δ, d, R, hv, fun v H' s r => q v H' s (hc _ _ G ow σ δ v d hp R r)⟩
    · rw [if_neg hp] at hf
      cases hf
theorem c_FC_F (h : DE X fl .FC e f) : DE X fl .F e f := de_cast h fun _ _ _ _ _ _ _ _ R r => r.FC_F R
theorem c_FC_C (h : DE X fl .FC e f) : DE X fl .C e f := de_cast h fun _ _ _ _ _ _ _ _ R r => r.FC_C
theorem c_F_A (h : DE X fl .F e f) : DE X fl .A e f := de_cast h fun _ _ _ _ _ _ _ _ R r => r.F_A R
theorem c_C_A (h : DE X fl .C e f) : DE X fl .A e f := de_cast h fun _ _ _ _ _ _ _ _ R r => r.C_A R
theorem c_C_R (h : DE X fl .C e f) : DE X fl .R e f := de_cast h fun _ _ _ _ _ _ _ _ R r => r.C_R R
theorem c_A_B (h : DE X fl .A e f) : DE X fl (.B []) e f := de_cast h fun _ _ _ _ _ _ _ _ R r => Rs.A_B [] r
theorem c_B_P {L : List Nat} (h : DE X fl (.B L) e f) : DE X fl .P e f := de_cast h fun _ _ _ _ _ _ _ _ R r => r.B_P
theorem c_flat (h : DE X fl .P e f) : DE X fl .FC e (dFlat f) := de_guard h fun _ _ _ _ _ _ _ _ hf R r => r.P_flat hf
theorem c_FC_A (h : DE X fl .FC e f) : DE X fl .A e f := c_F_A (c_FC_F h)
theorem c_FC_R (h : DE X fl .FC e f) : DE X fl .R e f := c_C_R (c_FC_C h)
theorem c_A_P (h : DE X fl .A e f) : DE X fl .P e f := c_B_P (c_A_B h)
theorem c_C_P (h : DE X fl .C e f) : DE X fl .P e f := c_A_P (c_C_A h)
theorem c_FC_P (h : DE X fl .FC e f) : DE X fl .P e f := c_A_P (c_FC_A h)
theorem de_cst {v : V} {d : D} (h : PE X e (tC v)) (hf : flat d = true) (hr : ∀ H, RA X.K ok0 false H v d) : DE X fl .FC e (dC d) := by
  refine PE.imp h fun σ H Q h => ?_
  obtain ⟨G, ow, δ, d', R, hd, q⟩ := h
  cases hd
  exact q v H (Same.refl H) (.inl ⟨hf, hr H⟩)
theorem de_int {i j pos} : DE X fl .FC (.Constant (.int i) j pos) (dC (.int i)) := de_cst pe_int rfl fun _ => .int _
theorem de_bl {b j pos} : DE X fl .FC (.Constant (.bool b) j pos) (dC (.bool b)) := de_cst pe_bl rfl fun _ => .bl _
theorem de_non {j pos} : DE X fl .FC (.Constant .none j pos) (dC .none) := de_cst pe_non rfl fun _ => .non
theorem de_str {x j pos} : DE X fl .FC (.Constant (.str x) j pos) (dC (.str x)) := de_cst pe_str rfl fun _ => .str _
def BrO (K : PySem.W.Frag) (r : R2) (g : D → D → Option D) : Prop := ∀ (H : Hp) (x y : V) (dx dy d : D) (Q : VK), RA K ok1 true H x dx → RA K ok1 true H y dy → g dx dy = some d → (∀ v, flat d = true → RA K ok0 false H v d → Q v H) → r x y H Q
theorem bind2 {fa fb : FE} {g : D → D → Option D} {δ : DS} {d : D} (h : dOp g fa fb δ = some d) : ∃ x y, fa δ = some x ∧ fb δ = some y ∧ g x y = some d := by
  unfold dOp at h
  cases ha : fa δ with
  | none => rw [ha] at h; cases h
  | some x =>
    rw [ha, Option.bind_some] at h
    cases hb : fb δ with
    | none => rw [hb] at h; cases h
    | some y =>
      rw [hb, Option.bind_some] at h
      exact ⟨x, y, rfl, rfl, h⟩
theorem bind1 {α β : Type} {x : Option α} {g : α → Option β} {d : β} (h : x.bind g = some d) : ∃ y, x = some y ∧ g y = some d := by
  cases x with
  | none => cases h
  | some y => exact ⟨y, rfl, h⟩
theorem op_bridge {r : R2} {g : D → D → Option D} {σ : St} {H : Hp} {Q : VK} (hb : BrO X.K r g) (h : tD X.K fl .FC (dOp g fa fb) σ H Q) : tOp r (tD X.K fl .P fa) (tD X.K fl .P fb) σ H Q := by
  obtain ⟨G, ow, δ, d, R, hf, q⟩ := h
  obtain ⟨x, y, e1, e2, e3⟩ := bind2 hf
  refine ⟨G, ow, δ, x, R, e1, fun v H1 s1 r1 => ⟨G, ow, δ, y, R.grow s1, e2, fun u H2 s2 r2 => ?_⟩⟩
  exact hb H2 v u x y d Q (RA.same s2 r1) r2 e3 fun z hz rz => q z H2 (s1.trans s2) (.inl ⟨hz, rz⟩)
theorem de_op {op : Operator} {r : R2} {g : D → D → Option D} (ho : OpR X (binaryOp op) r) (hb : BrO X.K r g) (h1 : DE X fl .P a fa) (h2 : DE X fl .P b fb) : DE X fl .FC (.BinOp a op b pos) (dOp g fa fb) :=
  PE.imp (pe_op ho h1 h2) fun _ _ _ h => op_bridge hb h
theorem de_cmp {op : CmpOp} {r : R2} {g : D → D → Option D} (ho : OpR X (compareOp op) r) (hb : BrO X.K r g) (h1 : DE X fl .P a fa) (h2 : DE X fl .P b fb) (hm : behindInMarks op b = false) : DE X fl .FC (.Compare a [op] [b] pos) (dOp g fa fb) :=
  PE.imp (pe_cmpR ho h1 h2 hm) fun _ _ _ h => op_bridge hb h
theorem dt_cmp {op : CmpOp} {r : R2} {g : D → D → Option D} (ho : OpR X (compareOp op) r) (hb : BrO X.K r g) (h1 : DE X fl .P a fa) (h2 : DE X fl .P b fb) (hm : behindInMarks op b = false) : DT X fl (.Compare a [op] [b] pos) (tBool (dOp g fa fb)) := by
  refine PT.imp (pt_cmpR ho h1 h2 hm) fun σ H Q h => ?_
  obtain ⟨G, ow, δ, c, R, hf, q⟩ := h
  obtain ⟨d, e1, e2⟩ := bind1 hf
  cases d <;> first | (cases e2; done) | skip
  cases e2
  refine op_bridge (fl := fl) (fa := fa) (fb := fb) hb ⟨G, ow, δ, _, R, e1, fun v H' s r => ?_⟩
  obtain rfl := (Rs.FC_C r).blE
  exact ⟨_, rfl, q H' s⟩
theorem dt_val (h : DE X fl .P e f) (he : ∀ whole, isTrue e X.env whole = (do let v ← whole; standAt e.pos; holding [v] (truthy v)) := by intro _; rfl) : DT X fl e (tBool f) := by
  refine PT.imp (pt_val h he) fun σ H Q h => ?_
  obtain ⟨G, ow, δ, c, R, hf, q⟩ := h
  obtain ⟨d, e1, e2⟩ := bind1 hf
  cases d <;> first | (cases e2; done) | skip
  cases e2
  refine ⟨G, ow, δ, _, R, e1, fun v H' s r => ?_⟩
  obtain rfl := RA.blE r
  exact ⟨_, rfl, q H' s⟩
theorem br_I0 {K : PySem.W.Frag} {h : Int → Int → V} {g : Int → Int → D} (hf : ∀ i j, flat (g i j) = true) (hr : ∀ H i j, RA K ok0 false H (h i j) (g i j)) : BrO K (rI0 h) (gI fun i j => some (g i j)) := by
  intro H x y dx dy d Q rx ry e q
  unfold gI at e
  split at e
  · next i j =>
    cases e
    exact ⟨i, j, rx.intE, ry.intE, q _ (hf i j) (hr H i j)⟩
  · cases e
theorem br_I {K : PySem.W.Frag} {C : Int → Int → Prop} {h : Int → Int → V} {g : Int → Int → D} {c : Int → Int → Bool} (hc : ∀ i j, c i j = true → C i j) (hf : ∀ i j, flat (g i j) = true) (hr : ∀ H i j, RA K ok0 false H (h i j) (g i j)) :
    BrO K (rI C h) (gI fun i j => if c i j = true then some (g i j) else none) := by
  intro H x y dx dy d Q rx ry e q
  unfold gI at e
  split at e
  · next i j =>
    dsimp only at e
    by_cases z : c i j = true
    · rw [if_pos z] at e
      cases e
      exact ⟨i, j, rx.intE, ry.intE, hc i j z, q _ (hf i j) (hr H i j)⟩
    · rw [if_neg z] at e
      cases e
  · cases e
end
section
variable {X : Cx} {K : PySem.W.Frag}
theorem mulG_ok {i j : Int} (h : mulG i j = true) : IntMulOk i j := by
  unfold mulG at h
  rw [Bool.or_eq_true, Bool.or_eq_true, Bool.and_eq_true] at h
  rcases h with (h | h) | ⟨h1, h2⟩
  · exact IntMulOk.of_left (PySem.intBits_le_iff.mpr (of_decide_eq_true h))
  · exact IntMulOk.of_right (PySem.intBits_le_iff.mpr (of_decide_eq_true h))
  · exact PySem.IntMulOk.of_le (PySem.intBits_le_iff.mpr (of_decide_eq_true h1)) (PySem.intBits_le_iff.mpr (of_decide_eq_true h2)) (by decide)
theorem op_mulG : OpR X (binaryOp .Mult) (rI (fun i j => mulG i j = true) fun i j => .int (i * j)) := opI fun _ _ _ _ _ _ _ hc q => mul_int q (mulG_ok hc)
theorem op_divG : OpR X (binaryOp .FloorDiv) (rI (fun i j => divG i j = true) fun i j => .int (i.fdiv j)) := opI fun i j _ _ _ _ _ hc q => by
  unfold divG at hc
  rw [Bool.and_eq_true] at hc
  have h1 := of_decide_eq_true hc.1
  have h2 := of_decide_eq_true hc.2
  refine floordiv_int h1 q (.inl (PyProof.noPylong_of_log2 ?_))
  exact (Nat.log2_lt (by omega)).mpr h2
theorem powG_ok {i j : Int} (h : powG i j = true) : CPow i j := by
  unfold powG at h
  rw [Bool.and_eq_true, Bool.and_eq_true] at h
  have h1 := of_decide_eq_true h.1.1
  have h2 := of_decide_eq_true h.1.2
  exact ⟨h1, by omega, of_decide_eq_true h.2⟩
theorem b_add : BrO K (rI0 fun i j => .int (i + j)) gAdd := br_I0 (fun _ _ => rfl) fun _ _ _ => .int _
theorem b_sub : BrO K (rI0 fun i j => .int (i - j)) gSub := br_I0 (fun _ _ => rfl) fun _ _ _ => .int _
theorem b_mul : BrO K (rI (fun i j => mulG i j = true) fun i j => .int (i * j)) gMul := br_I (fun _ _ h => h) (fun _ _ => rfl) fun _ _ _ => .int _
theorem b_div : BrO K (rI (fun i j => divG i j = true) fun i j => .int (i.fdiv j)) gDiv := br_I (fun _ _ h => h) (fun _ _ => rfl) fun _ _ _ => .int _
theorem b_mod : BrO K (rI (fun _ j => j ≠ 0) fun i j => .int (i.fmod j)) gMod := br_I (fun _ _ h => of_decide_eq_true h) (fun _ _ => rfl) fun _ _ _ => .int _
theorem b_pow : BrO K (rI CPow fun i j => .int (i ^ j.toNat)) gPow := br_I (fun _ _ h => powG_ok h) (fun _ _ => rfl) fun _ _ _ => .int _
theorem b_lt : BrO K (rI0 fun i j => .bl (decide (i < j))) gLt := br_I0 (fun _ _ => rfl) fun _ _ _ => .bl _
theorem b_gt : BrO K (rI0 fun i j => .bl (decide (j < i))) gGt := br_I0 (fun _ _ => rfl) fun _ _ _ => .bl _
theorem b_ge : BrO K (rI0 fun i j => .bl (decide (j ≤ i))) gGe := br_I0 (fun _ _ => rfl) fun _ _ _ => .bl _
theorem b_eq : BrO K (rEqD K) gEq := by
  intro H x y dx dy d Q rx ry e q
  unfold gEq at e
  by_cases z : (SeqAt.shaped dx && SeqAt.shaped dy) = true
  · rw [if_pos z] at e
    cases e
    rw [Bool.and_eq_true] at z
    exact ⟨dx, dy, rx.rd (SeqAt.canLay_of_shaped z.1), ry.rd (SeqAt.canLay_of_shaped z.2), z.1, z.2, q _ rfl (.bl _)⟩
  · rw [if_neg z] at e
    cases e
theorem b_ne : BrO K (rNeD K) gNe := by
  intro H x y dx dy d Q rx ry e q
  unfold gNe at e
  by_cases z : (SeqAt.shaped dx && SeqAt.shaped dy) = true
  · rw [if_pos z] at e
    cases e
    rw [Bool.and_eq_true] at z
    exact ⟨dx, dy, rx.rd (SeqAt.canLay_of_shaped z.1), ry.rd (SeqAt.canLay_of_shaped z.2), z.1, z.2, q _ rfl (.bl _)⟩
  · rw [if_neg z] at e
    cases e
end
end D3
namespace D3
open PySem PySem.Spec PyProof.Rows L2 My
section
variable {X : Cx} {fl : List Fl} {e a b c : Expr} {es : List Expr} {st : Stmt} {sts body orelse : List Stmt} {k : Kd} {f fa fb fc : FE} {fs gs : FS} {ft gt : FT} {pos : Pos}
theorem EndD.nx_imp {K : PySem.W.Frag} {G : Gh} {Dn : Ends} {N : St → Hp → Prop} {o : Oc} (h : EndD K fl G Dn o) (hn : ∀ δ', o ≠ .nx δ') : EndD K fl G { Dn with nx := N } o := by
  cases o with
  | nx δ' => exact absurd rfl (hn δ')
  | rt d => exact h
  | bk δ' => exact h
  | ct δ' => exact h
  | ex c f v => exact h
theorem dss_nil : DSs X fl [] sNil := PSs.imp pss_nil fun Dn σ H h => by
  obtain ⟨G, ow, δ, o, R, hf, q⟩ := h
  cases hf
  exact q ow σ H R
theorem dss_cons (h1 : DS1 X fl st fs) (h2 : DSs X fl sts gs) : DSs X fl (st :: sts) (sSeq fs gs) := PSs.imp (pss_cons h1 h2) fun Dn σ H h => by
  obtain ⟨G, ow, δ, o, R, hf, q⟩ := h
  obtain ⟨o1, e1, e2⟩ := bind1 hf
  refine ⟨G, ow, δ, o1, R, e1, ?_⟩
  cases o1 with
  | nx δ' => exact fun ow' σ' H' R' => ⟨G, ow', δ', o, R', e2, q⟩
  | rt d => cases e2; exact EndD.nx_imp q (fun _ z => by cases z)
  | bk d => cases e2; exact EndD.nx_imp q (fun _ z => by cases z)
  | ct d => cases e2; exact EndD.nx_imp q (fun _ z => by cases z)
  | ex c f v => cases e2; exact q
theorem dss_one (h1 : DS1 X fl st fs) : DSs X fl [st] fs := PSs.imp (pss_one h1) fun _ _ _ h => h
theorem ds_ret (h : DE X fl .R e f) : DS1 X fl (.Return (some e) pos) (sRet f) := PS.imp (ps_ret h) fun Dn σ H h => by
  obtain ⟨G, ow, δ, o, R, hf, q⟩ := h
  obtain ⟨d, e1, e2⟩ := bind1 hf
  cases e2
  exact ⟨G, ow, δ, d, R, e1, fun v H' s r => q v H' (R.same0.trans s) r⟩
theorem ds_if (hc : DT X fl c ft) (h1 : DSs X fl body fs) (h2 : DSs X fl orelse gs) : DS1 X fl (.If c body orelse pos) (sIf ft fs gs) := PS.imp (ps_if hc h1 h2) fun Dn σ H h => by
  obtain ⟨G, ow, δ, o, R, hf, q⟩ := h
  obtain ⟨t, e1, e2⟩ := bind1 hf
  refine ⟨G, ow, δ, t, R, e1, fun H' s => ?_⟩
  cases t with
  | true => exact iteT ⟨G, ow, δ, o, R.grow s, e2, q⟩
  | false => exact iteF ⟨G, ow, δ, o, R.grow s, e2, q⟩
theorem set_get {α : Type} {l : List (Option α)} {i j : Nat} {x y : α} (h : (l.set i (some x))[j]? = some (some y)) : (j = i ∧ x = y) ∨ (j ≠ i ∧ l[j]? = some (some y)) := by
  rw [List.getElem?_set] at h
  by_cases e : i = j
  · subst e
    rw [if_pos rfl] at h
    by_cases z : i < l.length
    · rw [if_pos z] at h
      cases h
      exact .inl ⟨rfl, rfl⟩
    · rw [if_neg z] at h
      cases h
  · rw [if_neg e] at h
    exact .inr ⟨fun z => e z.symm, h⟩
theorem Rel.setA {K : PySem.W.Frag} {G : Gh} {ow : Ow} {σ : St} {H : Hp} {δ : DS} {i : Nat} {v : V} {d : D} (R : Rel K fl G ow σ H δ) (hfl : fl[i]? = some .A) (hi : i < σ.length) (r : RA K (okA ow) true H v d) :
    Rel K fl G ow (σ.set i (some v)) H (δ.set i (some (.d d))) := by
  have no : ∀ a, ow i ≠ some a := fun a z => by
    obtain ⟨_, hz, _⟩ := R.own i a z
    rw [hfl] at hz
    rcases hz with ⟨z, _⟩ | ⟨z, _⟩ <;> cases z
  refine ⟨R.s0, R.s1, by rw [List.length_set, List.length_set]; exact R.len, fun j a h => ?_, R.inj, R.pin, fun j d' h1 hn h2 => ?_, fun j d' h1 hn h2 h3 => ?_, R.nt, R.nd, R.ns, R.np, fun j d' hn h1 => ?_⟩
  · have hj : j ≠ i := fun z => no a (z ▸ h)
    obtain ⟨h0, hf, xs, ds, h1, h2, h3, h4⟩ := R.own j a h
    exact ⟨h0, hf, xs, ds, by rw [List.getElem?_set_ne (Ne.symm hj)]; exact h1, h2, h3, by rw [List.getElem?_set_ne (Ne.symm hj)]; exact h4⟩
  · rcases set_get h1 with ⟨rfl, e⟩ | ⟨hj, e⟩
    · cases e
      exact ⟨v, by rw [List.getElem?_set_self hi], r⟩
    · obtain ⟨v', h3, h4⟩ := R.dat j d' e hn h2
      exact ⟨v', by rw [List.getElem?_set_ne (Ne.symm hj)]; exact h3, h4⟩
  · rcases set_get h1 with ⟨rfl, e⟩ | ⟨hj, e⟩
    · exact absurd hfl h2
    · exact R.oo j d' e hn h2 h3
  · rcases set_get h1 with ⟨rfl, e⟩ | ⟨hj, e⟩
    · rw [hfl] at hn; cases hn
    · obtain ⟨v', h3, h4⟩ := R.nr j d' hn e
      exact ⟨v', by rw [List.getElem?_set_ne (Ne.symm hj)]; exact h3, h4⟩
theorem slot_lt {K : PySem.W.Frag} {G : Gh} {ow : Ow} {σ : St} {H : Hp} {δ : DS} {i : Nat} (R : Rel K fl G ow σ H δ) (h : i < δ.length) : i < σ.length := by rw [R.len]; exact h
theorem ds_setA {i : Nat} {x : Str} {pos' : Pos} (hfl : fl[i]? = some .A) (hN : X.N.Nodup) (hi : X.N[i]? = some x) (hv : X.env.scope.names.lookup x = some .local ∨ X.env.scope.names.lookup x = some .cell) (h : DE X fl .A e f)
    (hs : swapsWith e (some (.Name x pos')) pos.line X.env = pure false := by rfl) (hfn : X.fn x = true ∨ X.env.scope.names.lookup x = some .local := by first | exact .inl rfl | exact .inr rfl) :
    DS1 X fl (.Assign [.Name x pos'] e pos) (sSetl i f) := PS.imp (ps_set (i := i) hN hi hv h hs hfn) fun Dn σ H h => by
  obtain ⟨G, ow, δ, o, R, hf, q⟩ := h
  unfold sSetl at hf
  by_cases hl : i < δ.length
  · rw [if_pos hl] at hf
    obtain ⟨d, e1, e2⟩ := bind1 hf
    cases e2
    exact ⟨G, ow, δ, d, R, e1, fun v H' s r => q ow _ H' ((R.grow s).setA hfl (slot_lt R hl) r)⟩
  · rw [if_neg hl] at hf
    cases hf
theorem dg_name {i : Nat} {x : Str} {pos : Pos} (hfl : fl[i]? = some .A) (hN : X.N.Nodup) (hi : X.N[i]? = some x) (hv : X.env.scope.names.lookup x = some .local ∨ X.env.scope.names.lookup x = some .cell)
    (hfn : X.fn x = true ∨ X.env.scope.names.lookup x = some .local := by first | exact .inl rfl | exact .inr rfl) : DG X fl [i] (.Name x pos) (gNl i) :=
  PG.imp (pg_name (i := i) hN hi hv hfn) fun v σ H Q h => by
  obtain ⟨G, ow, δ, d, δ', R, r, hf, q⟩ := h
  unfold gNl at hf
  by_cases hl : i < δ.length
  · rw [if_pos hl] at hf
    cases hf
    exact q _ (R.setA hfl (slot_lt R hl) r) fun j hj => List.getElem?_set_ne (fun z => hj (by rw [z]; exact List.mem_singleton.mpr rfl))
  · rw [if_neg hl] at hf
    cases hf
theorem PGs.imp {t t' : TGs} (h : PGs X es t) (i : ∀ v σ H Q, t' v σ H Q → t v σ H Q) : PGs X es t' := fun pins s σ H v u Q I r q => h pins s σ H v u Q I r (i v σ H Q q)
end
end D3
namespace D3
open PySem PySem.Spec PyProof.Rows L2 My
section
variable {X : Cx} {fl : List Fl} {e a b c : Expr} {es : List Expr} {st : Stmt} {sts body orelse : List Stmt} {k : Kd} {f fa fb fc : FE} {fs gs : FS} {ft gt : FT} {pos : Pos}
def WalkD (K : PySem.W.Frag) (ow : Ow) (L : List Nat) (H1 : Hp) (J : It) (l : List D) : Prop := ∀ H2 : Hp, (∀ b o, H1 b = some o → (∀ i, ow i = some b → i ∈ L) → H2 b = some o) → ∀ i : Nat,
  (∀ d, l[i]? = some d → J.go i H2 ∧ ∀ x H3, J.yld i H2 x H3 → Same H2 H3 ∧ RA K (fun b => okA ow b ∧ H1 b ≠ none) true H3 x d) ∧ (l.length ≤ i → J.stop i H2)
def tDI (K : PySem.W.Frag) (fl : List Fl) (L : List Nat) (fi : FA) : TI := fun σ H R' => ∃ G ow δ l, Rel K fl G ow σ H δ ∧ fi δ = some l ∧ ∀ J H1, Same H H1 → WalkD K ow L H1 J l → R' J H1
abbrev DI (X : Cx) (fl : List Fl) (L : List Nat) (tg iter : Expr) (fi : FA) : Prop := PI X tg iter (tDI X.K fl L fi)
theorem PI.imp {tg iter : Expr} {t t' : TI} (h : PI X tg iter t) (i : ∀ σ H R', t' σ H R' → t σ H R') : PI X tg iter t' := fun pins s σ H R' I q => h pins s σ H R' I (i σ H R' q)
section
variable {K : PySem.W.Frag} {ok : Ok} {pl : Bool} {H1 H2 : Hp} {ow : Ow} {L : List Nat}
theorem nm {b : Addr} {o : HO} (hl : ∀ i b, ow i = some b → ∃ xs, H1 b = some (.lst xs)) (h : H1 b = some o) (hn : ∀ xs, o ≠ .lst xs) : ∀ i, ow i = some b → i ∈ L := fun i e => by
  obtain ⟨xs, z⟩ := hl i b e
  rw [h] at z
  exact absurd (Option.some.inj z) (hn xs)
mutual
theorem RA.keep (hk : ∀ b o, H1 b = some o → (∀ i, ow i = some b → i ∈ L) → H2 b = some o) (hl : ∀ i b, ow i = some b → ∃ xs, H1 b = some (.lst xs)) (ho : ∀ b, ok b → okA ow b) : ∀ {v : V} {d : D}, RA K ok pl H1 v d → RA K ok pl H2 v d
  | _, _, .non => .non
  | _, _, .bl b => .bl b
  | _, _, .int i => .int i
  | _, _, .str x => .str x
  | _, _, .lst e k q => .lst (hk _ _ e fun i z => absurd z ((ho _ k).1 i)) k (RAs.keep hk hl ho q)
  | _, _, .lsk e k q => .lsk (by
      rcases e with ⟨o, e⟩ | e
      · exact .inl ⟨o, hk _ _ e (nm hl e (by intro xs z; cases z))⟩
      · exact .inr e) k (RAs.keep hk hl ho q)
  | _, _, .tup e q => .tup (by
      rcases e with (e | ⟨o, e⟩) | e
      · exact .inl (.inl (hk _ _ e (nm hl e (by intro xs z; cases z))))
      · exact .inl (.inr ⟨o, hk _ _ e (nm hl e (by intro xs z; cases z))⟩)
      · exact .inr e) (RAs.keep hk hl ho q)
  | _, _, .dic e k => .dic (hk _ _ e (nm hl e (by intro xs z; cases z))) k
theorem RAs.keep (hk : ∀ b o, H1 b = some o → (∀ i, ow i = some b → i ∈ L) → H2 b = some o) (hl : ∀ i b, ow i = some b → ∃ xs, H1 b = some (.lst xs)) (ho : ∀ b, ok b → okA ow b) : ∀ {v : List V} {d : List D}, RAs K ok pl H1 v d → RAs K ok pl H2 v d
  | _, _, .nil => .nil
  | _, _, .cons e q => .cons (RA.keep hk hl ho e) (RAs.keep hk hl ho q)
end
end
theorem rngD_len (lo hi : Int) : (rngD lo hi).length = (hi - lo).toNat := by simp [rngD]
theorem walk_rng {K : PySem.W.Frag} {ow : Ow} {L : List Nat} {H1 : Hp} (lo hi : Int) : WalkD K ow L H1 (Itr lo (hi - lo).toNat) (rngD lo hi) := by
  intro H2 _ i
  refine ⟨fun d hd => ?_, fun hl => by rw [rngD_len] at hl; exact hl⟩
  unfold rngD at hd
  rw [List.getElem?_map] at hd
  by_cases hi' : i < (hi - lo).toNat
  · rw [List.getElem?_range hi'] at hd
    cases hd
    refine ⟨hi', fun x H3 hy => ?_⟩
    obtain ⟨e, e2⟩ := hy
    subst e e2
    exact ⟨Same.refl _, .int _⟩
  · rw [List.getElem?_eq_none (by simpa using hi')] at hd
    cases hd
theorem rngG_ok {i : Int} (h : rngG i = true) : -(2 ^ 62) ≤ i ∧ i < 2 ^ 62 := by
  unfold rngG at h
  rw [Bool.and_eq_true] at h
  exact ⟨of_decide_eq_true h.1, of_decide_eq_true h.2⟩
theorem di_range1 {tg : Expr} {L : List Nat} {p : Pos} {fa : FA} (hg : Gl X "range") (hm : X.mg "range" = none) (h : DA X fl [a] fa) (hs : starEach [a] X.env = [(false, eval a X.env)] := by rfl) : DI X fl L tg (.Call (.Name "range" p) [a] [] pos) (fRng1 fa) :=
  PI.imp (pi_range1 hg hm h hs) fun σ H R' h => by
  obtain ⟨G, ow, δ, l, R, hf, q⟩ := h
  obtain ⟨ds, e1, e2⟩ := bind1 hf
  split at e2
  · next j =>
    by_cases z : rngG j = true
    · rw [if_pos z] at e2
      cases e2
      refine ⟨G, ow, δ, _, R, e1, fun vs H1 s r => ?_⟩
      cases r with
      | cons r1 r2 =>
        cases r2
        obtain rfl := r1.intE
        refine ⟨j, rfl, (rngG_ok z).1, (rngG_ok z).2, ?_⟩
        have w := walk_rng (K := X.K) (ow := ow) (L := L) (H1 := H1) 0 j
        rw [Int.sub_zero] at w
        exact q _ _ s w
    · rw [if_neg z] at e2
      cases e2
  · cases e2
def lock (L : List Nat) (fl : List Fl) : List Fl := fl.mapIdx fun i x => if x = .O ∧ i ∈ L then .L else if x = .N then .M else x
theorem lock_get {L : List Nat} {i : Nat} : (lock L fl)[i]? = (fl[i]?).map fun x => if x = .O ∧ i ∈ L then .L else if x = .N then .M else x := by
  unfold lock
  rw [List.getElem?_mapIdx]
theorem lock_A {L : List Nat} {i : Nat} : (lock L fl)[i]? = some .A ↔ fl[i]? = some .A := by
  rw [lock_get]
  cases h : fl[i]? with
  | none => simp
  | some x =>
    cases x <;> simp
    by_cases z : i ∈ L <;> simp [z]
theorem lock_O {L : List Nat} {i : Nat} (h : (lock L fl)[i]? = some .O) : fl[i]? = some .O ∧ i ∉ L := by
  rw [lock_get] at h
  cases e : fl[i]? with
  | none => rw [e] at h; simp at h
  | some x =>
    rw [e] at h
    cases x <;> simp at h
    by_cases z : i ∈ L
    · simp [z] at h
    · exact ⟨rfl, z⟩
theorem lock_L {L : List Nat} {i : Nat} (h : fl[i]? = some .L) : (lock L fl)[i]? = some .L := by
  rw [lock_get, h]
  simp
theorem lock_OL {L : List Nat} {i : Nat} (h : fl[i]? = some .O) (hi : i ∈ L) : (lock L fl)[i]? = some .L := by
  rw [lock_get, h]
  simp [hi]
theorem lock_OO {L : List Nat} {i : Nat} (h : fl[i]? = some .O) (hi : i ∉ L) : (lock L fl)[i]? = some .O := by
  rw [lock_get, h]
  simp [hi]
theorem lock_N {L : List Nat} {i : Nat} : (lock L fl)[i]? ≠ some .N := by
  rw [lock_get]
  cases h : fl[i]? with
  | none => simp
  | some x =>
    cases x <;> simp
    by_cases z : i ∈ L <;> simp [z]
theorem lock_M {L : List Nat} {i : Nat} : (lock L fl)[i]? = some .M ↔ fl[i]? = some .N ∨ fl[i]? = some .M := by
  rw [lock_get]
  cases h : fl[i]? with
  | none => simp
  | some x =>
    cases x <;> simp
    by_cases z : i ∈ L <;> simp [z]
theorem lock_isN {L : List Nat} {i : Nat} : isN (lock L fl)[i]? = isN fl[i]? := by
  rw [lock_get]
  cases h : fl[i]? with
  | none => rfl
  | some x =>
    cases x <;> simp [isN]
    by_cases z : i ∈ L <;> simp [z]
open Classical in
noncomputable def ghL (fl' : List Fl) (G : Gh) (ow : Ow) (H : Hp) : Gh := ⟨G.H0, fun b => if ∃ j, ow j = some b ∧ fl'[j]? = some .O then none else H b, ow, ow.n⟩
open Classical in
theorem ghL_out {fl' : List Fl} {G : Gh} {ow : Ow} {H : Hp} {b : Addr} (h : ¬ ∃ j, ow j = some b ∧ fl'[j]? = some .O) : (ghL fl' G ow H).HF b = H b := by
  unfold ghL
  dsimp only
  rw [if_neg h]
open Classical in
theorem ghL_in {fl' : List Fl} {G : Gh} {ow : Ow} {H : Hp} {b : Addr} (h : ∃ j, ow j = some b ∧ fl'[j]? = some .O) : (ghL fl' G ow H).HF b = none := by
  unfold ghL
  dsimp only
  rw [if_pos h]
theorem Rel.lock {K : PySem.W.Frag} {G : Gh} {ow : Ow} {σ : St} {H : Hp} {δ : DS} (L : List Nat) (R : Rel K fl G ow σ H δ) : Rel K (lock L fl) (ghL (lock L fl) G ow H) ow σ H δ := by
  refine ⟨fun b o hb => ?_, fun b o hb => ?_, R.len, fun i a h => ?_, R.inj, fun i h => rfl, fun i d h1 hn h2 => R.dat i d h1 (by rw [lock_isN] at hn; exact hn) h2, fun i d h1 hn h2 h3 => R.oo i d h1 (by rw [lock_isN] at hn; exact hn) (fun z => h2 (lock_A.mpr z)) h3, fun i a h => ?_, R.nd, R.ns, fun i h => rfl, fun i d hn h1 => R.nr i d (by rw [lock_isN] at hn; exact hn) h1⟩
  · have hb' : G.H0 b = some o := hb
    rw [ghL_out]
    · exact R.same0 b o hb'
    · rintro ⟨j, e, _⟩
      have := (R.own j b e).1
      rw [hb'] at this
      cases this
  · by_cases z : ∃ j, ow j = some b ∧ (D3.lock L fl)[j]? = some .O
    · rw [ghL_in z] at hb; cases hb
    · rw [ghL_out z] at hb; exact hb
  · obtain ⟨h0, hf, xs, ds, h1, h2, h3, h4⟩ := R.own i a h
    refine ⟨h0, ?_, xs, ds, h1, h2, h3, h4⟩
    have out : (D3.lock L fl)[i]? = some .L → (ghL (D3.lock L fl) G ow H).HF a = H a := fun hl => ghL_out (by
      rintro ⟨j, e, hj⟩
      rw [R.inj j i a e h, hl] at hj
      cases hj)
    rcases hf with ⟨hf, _⟩ | ⟨hf, _⟩
    · by_cases hi : i ∈ L
      · exact .inr ⟨lock_OL hf hi, xs, by rw [out (lock_OL hf hi)]; exact h2⟩
      · exact .inl ⟨lock_OO hf hi, ghL_in ⟨i, h, lock_OO hf hi⟩⟩
    · exact .inr ⟨lock_L hf, xs, by rw [out (lock_L hf)]; exact h2⟩
  · obtain ⟨g1, g2, g3⟩ := R.nt i a h
    exact ⟨g1, g2, .inr (lock_M.mpr (g3.imp (fun z => z.1) (fun z => z)))⟩
theorem Rel.unlock {K : PySem.W.Frag} {G : Gh} {ow ow' : Ow} {σ σ' : St} {H H' : Hp} {δ δ' : DS} {L : List Nat} (R : Rel K fl G ow σ H δ) (R' : Rel K (D3.lock L fl) (ghL (D3.lock L fl) G ow H) ow' σ' H' δ') : Rel K fl G ow' σ' H' δ' := by
  have sub : Same G.HF (ghL (D3.lock L fl) G ow H).HF := fun b o hb => by
    rw [ghL_out]
    · exact R.s1 b o hb
    · rintro ⟨j, e, hj⟩
      rcases (R.own j b e).2.1 with ⟨_, z⟩ | ⟨z, _⟩
      · rw [hb] at z; cases z
      · have := (lock_O hj).1
        rw [z] at this
        cases this
  refine ⟨R.s0, sub.trans R'.s1, R'.len, fun i a h => ?_, R'.inj, fun i h => ?_, fun i d h1 hn h2 => R'.dat i d h1 (by rw [lock_isN]; exact hn) h2, fun i d h1 hn h2 h3 => R'.oo i d h1 (by rw [lock_isN]; exact hn) (fun z => h2 (lock_A.mp z)) h3, fun i a h => ?_, R'.nd, R'.ns, fun i h => ?_, fun i d hn h1 => R'.nr i d (by rw [lock_isN]; exact hn) h1⟩
  · obtain ⟨h0, hf, rest⟩ := R'.own i a h
    refine ⟨h0, ?_, rest⟩
    rcases hf with ⟨hf, hz⟩ | ⟨hf, _⟩
    · exact .inl ⟨(lock_O hf).1, sub.free hz⟩
    · have e : ow' i = ow i := R'.pin i hf
      rw [e] at h
      exact (R.own i a h).2.1
  · have e : ow' i = ow i := R'.pin i (lock_L h)
    rw [e]
    exact R.pin i h
  · obtain ⟨g1, g2, g3⟩ := R'.nt i a h
    rcases g3 with ⟨z, _⟩ | z
    · exact absurd z lock_N
    · have e : ow'.n i = ow.n i := R'.np i z
      rw [e] at h
      exact ⟨g1, g2, (R.nt i a h).2.2⟩
  · have e : ow'.n i = ow.n i := R'.np i (lock_M.mpr (.inr h))
    rw [e]
    exact R.np i h
theorem ds_for {tg iter : Expr} {L : List Nat} {T : List Nat} {fi : FA} {g : FG} (hp : PassesOwn (model X.prog X.w) X.A X.env X.xe) (hc : X.calm = true) (hi : DI X fl L tg iter fi) (hg : DG X (lock L fl) T tg g) (hb : DSs X (lock L fl) body fs)
    (hs : ∀ x, foldedSetIterable iter X.env x = pure x := by intro _; rfl) : DS1 X fl (.For tg iter body [] pos) (sFor fi g fs) := PS.imp (ps_for hp hc hi hg hb hs) fun Dn σ H h => by
  obtain ⟨G, ow, δ, o, R0, hf, q⟩ := h
  obtain ⟨l, e1, e2⟩ := bind1 hf
  refine ⟨G, ow, δ, l, R0, e1, fun J H1 s wk => ?_⟩
  have R1 := R0.grow s
  have RL := R1.lock L
  refine ⟨fun i m σ' H' => m = l.length - i ∧ ∃ ow' δ', Rel X.K (lock L fl) (ghL (lock L fl) G ow H1) ow' σ' H' δ' ∧ forD g fs (l.drop i) δ' = some o, ⟨_, rfl, ow, δ, RL, by simpa using e2⟩, ?_⟩
  rintro i m σ' H' ⟨rfl, ow', δ', R', hd⟩
  have kept : ∀ b o, H1 b = some o → (∀ i, ow i = some b → i ∈ L) → H' b = some o := fun b o hb hl => R'.s1 b o (by
    rw [ghL_out]
    · exact hb
    · rintro ⟨j, e, hj⟩
      exact (lock_O hj).2 (hl j e))
  obtain ⟨w1, w2⟩ := wk H' kept i
  by_cases hlt : i < l.length
  · have hdrop : l.drop i = l[i] :: l.drop (i + 1) := List.drop_eq_getElem_cons hlt
    rw [hdrop, forD] at hd
    obtain ⟨δ1, e3, hd⟩ := bind1 hd
    obtain ⟨o1, e4, hd⟩ := bind1 hd
    obtain ⟨go, yl⟩ := w1 l[i] (List.getElem?_eq_getElem hlt)
    refine .inr ⟨go, fun σ' H' => ∃ ow' δ', Rel X.K (lock L fl) (ghL (lock L fl) G ow H1) ow' σ' H' δ' ∧ forD g fs (l.drop (i + 1)) δ' = some o, fun σ2 H2 ⟨ow2, δ2, R2, h2⟩ => ⟨l.length - (i + 1), by omega, rfl, ow2, δ2, R2, h2⟩, fun x H3 hy => ?_⟩
    obtain ⟨s3, r3⟩ := yl x H3 hy
    have sub : ∀ b, okA ow b ∧ H1 b ≠ none → okA ow' b := fun b z => by
      obtain ⟨z1, z2⟩ := z
      refine ⟨fun j e => ?_, fun j e => ?_⟩
      · rcases (R'.own j b e).2.1 with ⟨_, hz⟩ | ⟨hz, _⟩
        · have : (ghL (lock L fl) G ow H1).HF b = H1 b := ghL_out (by rintro ⟨j', e', _⟩; exact z1.1 j' e')
          rw [this] at hz
          exact z2 hz
        · have e' : ow' j = ow j := R'.pin j hz
          rw [e'] at e
          exact z1.1 j e
      · rcases (R'.nt j b e).2.2 with ⟨w, _⟩ | w
        · exact absurd w lock_N
        · have e' : ow'.n j = ow.n j := R'.np j w
          rw [e'] at e
          exact z1.2 j e
    refine ⟨_, ow', δ', _, δ1, R'.grow s3, r3.imp sub (fun z => z), e3, fun σ4 R4 _ => ⟨_, ow', δ1, o1, R4, e4, ?_⟩⟩
    · cases o1 with
      | nx δ2 => exact fun ow2 σ2 H2 R2 => ⟨ow2, δ2, R2, hd⟩
      | ct δ2 => exact fun ow2 σ2 H2 R2 => ⟨ow2, δ2, R2, hd⟩
      | bk δ2 => cases hd; exact fun ow2 σ2 H2 R2 => q ow2 σ2 H2 (R1.unlock R2)
      | rt d => cases hd; exact q
      | ex c f v => cases hd; exact q
  · have e : l.drop i = [] := List.drop_eq_nil_of_le (by omega)
    rw [e, forD] at hd
    cases hd
    exact .inl ⟨w2 (by omega), q ow' σ' H' (R1.unlock R')⟩
theorem ds_while (hp : PassesOwn (model X.prog X.w) X.A X.env X.xe) (hc : DT X fl c ft) (hb : DSs X fl body fs) : DS1 X fl (.While c body [] pos) (sWhile ft fs) := PS.imp (ps_while hp hc hb) fun Dn σ H h => by
  obtain ⟨G, ow, δ, o, R0, hf, q⟩ := h
  obtain ⟨n, hn⟩ := sWhile_inv hf
  refine ⟨fun m σ' H' => ∃ ow' δ', Rel X.K fl G ow' σ' H' δ' ∧ whileD ft fs m δ' = some o, ⟨n, ow, δ, R0, hn⟩, ?_⟩
  rintro m σ' H' ⟨ow', δ', R', hw⟩
  cases m with
  | zero => simp [whileD] at hw
  | succ m =>
    rw [whileD] at hw
    obtain ⟨t, e1, hw⟩ := bind1 hw
    refine ⟨G, ow', δ', t, R', e1, fun H1 s => ?_⟩
    cases t with
    | false =>
      rw [if_neg Bool.false_ne_true] at hw ⊢
      cases hw
      exact q ow' σ' H1 (R'.grow s)
    | true =>
      rw [if_pos rfl] at hw ⊢
      obtain ⟨o1, e2, hw⟩ := bind1 hw
      refine ⟨fun σ2 H2 => ∃ ow2 δ2, Rel X.K fl G ow2 σ2 H2 δ2 ∧ whileD ft fs m δ2 = some o, fun σ2 H2 ⟨ow2, δ2, R2, h2⟩ => ⟨m, Nat.lt_succ_self m, ow2, δ2, R2, h2⟩, G, ow', δ', o1, R'.grow s, e2, ?_⟩
      cases o1 with
      | nx δ2 => exact fun ow2 σ2 H2 R2 => ⟨ow2, δ2, R2, hw⟩
      | ct δ2 => exact fun ow2 σ2 H2 R2 => ⟨ow2, δ2, R2, hw⟩
      | bk δ2 => cases hw; exact q
      | rt d => cases hw; exact q
      | ex c f v => cases hw; exact q
end
end D3
namespace D3
open PySem PySem.Spec PyProof.Rows L2 My
def notStar : Expr → Bool
  | .Starred _ _ => false
  | _ => true
theorem star_of {e : Expr} {es : List Expr} {env : Env} (h : notStar e = true) : starEach (e :: es) env = (false, eval e env) :: starEach es env := by
  cases e <;> first | rfl | cases h
theorem pl_of {es : List Expr} {env : Env} {pos : Pos} (h : es.all notStar = true) : (backTo pos (starEach es env)).any (·.1) = false := by
  induction es with
  | nil => rfl
  | cons e es ih =>
    rw [List.all_cons, Bool.and_eq_true] at h
    rw [star_of h.1]
    have := ih h.2
    unfold backTo at this ⊢
    rw [List.map_cons, List.any_cons, this]
    rfl
def isR : Kd → Bool
  | .P => true
  | .A => true
  | .R => true
  | .C => true
  | _ => false
def okOf (H0 : Hp) (ow : Ow) (Hb : Hp) : Kd → Ok
  | .P => ok1
  | .A => okA ow
  | .R => okN H0
  | _ => okN Hb
def plOf : Kd → Bool
  | .P => true
  | .A => true
  | _ => false
section
variable {K : PySem.W.Frag} {H0 Hb Hc H : Hp} {ow : Ow} {v : V} {d : D} {k : Kd}
theorem Rs.ra (hk : isR k = true) (h : Rs K H0 ow Hb H k v d) : RA K (okOf H0 ow Hb k) (plOf k) H v d := by
  cases k <;> first | exact h | cases hk
theorem Rs.of_ra (hk : isR k = true) (h : RA K (okOf H0 ow Hb k) (plOf k) H v d) : Rs K H0 ow Hb H k v d := by
  cases k <;> first | exact h | cases hk
theorem okOf_back (s : Same Hb Hc) (hk : isR k = true) : ∀ a, okOf H0 ow Hc k a → okOf H0 ow Hb k a := fun a z => by
  cases k <;> first | exact z | exact s.free z | cases hk
theorem Rs.of_flat (hf : flat d = true) (h : RA K ok0 false H v d) : Rs K H0 ow Hb H k v d := by
  cases k with
  | P => exact RA.flat hf h
  | B L => exact .inl (RA.flat hf h)
  | A => exact RA.flat hf h
  | R => exact RA.flat hf h
  | F => exact .inl ⟨hf, h⟩
  | C => exact RA.flat hf h
  | FC => exact .inl ⟨hf, h⟩
  | T =>
    obtain ⟨as, h1, _, h3⟩ := RA.rt h
    cases as with
    | nil => exact ⟨[], h1, .nil, fun _ z => by cases z⟩
    | cons a r => exact (h3 a List.mem_cons_self).elim
theorem Rs.back (s : Same Hb Hc) (h : Rs K H0 ow Hc H k v d) : Rs K H0 ow Hb H k v d := by
  cases k with
  | P => exact h
  | B L => exact h
  | A => exact h
  | R => exact h
  | F =>
    rcases h with h | ⟨a, xs, ds, h1, h2, h3, h4⟩
    · exact .inl h
    · exact .inr ⟨a, xs, ds, h1, h2, s.free h3, h4⟩
  | C => exact RA.imp (fun a z => s.free z) (fun z => z) h
  | FC =>
    rcases h with h | ⟨a, xs, ds, h1, h2, h3, h4, h5⟩
    · exact .inl h
    · exact .inr ⟨a, xs, ds, h1, h2, s.free h3, h4, h5.imp (fun b z => ⟨s.free z.1, z.2⟩) (fun z => z)⟩
  | T =>
    obtain ⟨as, h1, h2, h3⟩ := h
    exact ⟨as, h1, h2, fun a z => s.free (h3 a z)⟩
end
def tDB (K : PySem.W.Frag) (fl : List Fl) (k : Kd) (f : FA) : TA := fun σ H Q => ∃ G ow δ ds, Rel K fl G ow σ H δ ∧ f δ = some ds ∧ ∀ vs H', Same H H' → RAs K (okOf G.H0 ow H k) (plOf k) H' vs ds → Q vs H'
abbrev DB (X : Cx) (fl : List Fl) (k : Kd) (es : List Expr) (f : FA) : Prop := PA X es (tDB X.K fl k f)
section
variable {X : Cx} {fl : List Fl} {e a b c : Expr} {es rest : List Expr} {k : Kd} {f fa fb fc : FE} {ft gt : FT} {pos : Pos}
theorem db_nil : DB X fl k [] dNil := PA.imp pa_nil fun σ H Q h => by
  obtain ⟨G, ow, δ, ds, R, hf, q⟩ := h
  cases hf
  exact q [] H (Same.refl H) .nil
theorem db_cons {fr : FA} (hk : isR k = true) (h : DE X fl k e f) (hr : DB X fl k es fr) (hs : starEach (e :: es) X.env = (false, eval e X.env) :: starEach es X.env := by exact star_of rfl) : DB X fl k (e :: es) (dCons f fr) := PA.imp (pa_cons h hr hs) fun σ H Q h => by
  obtain ⟨G, ow, δ, ds, R, hf, q⟩ := h
  obtain ⟨d, e1, hf⟩ := bind1 hf
  obtain ⟨r, e2, hf⟩ := bind1 hf
  cases hf
  refine ⟨G, ow, δ, d, R, e1, fun v H1 s1 r1 => ⟨G, ow, δ, r, R.grow s1, e2, fun vs H2 s2 r2 => ?_⟩⟩
  exact q _ H2 (s1.trans s2) (.cons ((r1.ra hk).same s2) (r2.imp (okOf_back s1 hk) (fun z => z)))
theorem da_of (h : DB X fl .P es fa') : DA X fl es fa' := PA.imp h fun σ H Q h => by
  obtain ⟨G, ow, δ, ds, R, hf, q⟩ := h
  exact ⟨G, ow, δ, ds, R, hf, fun vs H' s r => q vs H' s r⟩
theorem de_tup {x1} {fa : FA} (hk : isR k = true) (h : DB X fl k es fa) : DE X fl k (.Tuple es x1 pos) (dTup fa) := PE.imp (pe_tup h) fun σ H Q h => by
  obtain ⟨G, ow, δ, d, R, hf, q⟩ := h
  obtain ⟨l, e1, e2⟩ := bind1 hf
  by_cases z : l.length ≤ sizeLine
  · rw [if_pos z] at e2
    cases e2
    refine ⟨G, ow, δ, l, R, e1, fun vs H' s r => ⟨by rw [r.length]; exact z, fun p hp => ?_⟩⟩
    have g := same_new hp (.tup vs)
    exact q _ _ (s.trans g) (Rs.of_ra hk (.tup (SqT.of upd_same) (r.same g)))
  · rw [if_neg z] at e2
    cases e2
theorem de_lstC {fa : FA} (h : DB X fl .C es fa) : DE X fl .FC (.List es pos) (dLst fa) := PE.imp (pe_lst h) fun σ H Q h => by
  obtain ⟨G, ow, δ, d, R, hf, q⟩ := h
  obtain ⟨l, e1, e2⟩ := bind1 hf
  by_cases z : l.length ≤ sizeLine
  · rw [if_pos z] at e2
    cases e2
    refine ⟨G, ow, δ, l, R, e1, fun vs H' s r => ⟨by rw [r.length]; exact z, fun p hp => ?_⟩⟩
    have g := same_new hp (.lst vs)
    exact q _ _ (s.trans g) (.inr ⟨p, vs, l, rfl, rfl, s.free hp, upd_same, (r.track.imp (fun b w => ⟨w.1, fun e => w.2 (e ▸ hp)⟩) (fun z => z)).same g⟩)
  · rw [if_neg z] at e2
    cases e2
theorem RAs.at {K : PySem.W.Frag} {ok : Ok} {pl : Bool} {H : Hp} {vs : List V} {l : List D} {i : Int} {d : D} (r : RAs K ok pl H vs l) (h : pAt l i = some d) : ∃ v, atI vs i = some v ∧ RA K ok pl H v d := by
  unfold pAt at h
  unfold atI
  obtain ⟨j, e1, e2⟩ := bind1 h
  obtain ⟨y, e3, ry⟩ := r.get e2
  exact ⟨y, by rw [r.length, show ixN l.length i = some j from e1]; exact e3, ry⟩
theorem de_ix {L : List Nat} (ha : DE X fl (.B L) a fa) (hb : DE X fl .P b fb) (hs : PlainIx b) : DE X fl .A (.Subscript a b pos) (dOp gIx fa fb) := PE.imp (pe_ix ix_seq ha hb hs) fun σ H Q h => by
  obtain ⟨G, ow, δ, d, R, hf, q⟩ := h
  obtain ⟨x, y, e1, e2, e3⟩ := bind2 hf
  refine ⟨G, ow, δ, x, R, e1, fun v H1 s1 r1 => ⟨G, ow, δ, y, R.grow s1, e2, fun u H2 s2 r2 => ?_⟩⟩
  unfold gIx at e3
  split at e3
  · next l i =>
    obtain rfl := RA.intE r2
    rcases r1 with r1 | ⟨i', _, p, xs, ds, ho, rfl, ez, hx, hr⟩
    · obtain ⟨p, xs, rfl, hx, hr⟩ := RA.lstE (RA.same s2 r1)
      obtain ⟨z, ez, rz⟩ := hr.at e3
      exact .inl ⟨p, xs, i, z, rfl, rfl, hx, ez, q z H2 (s1.trans s2) rz⟩
    · cases ez
      obtain ⟨z, ez, rz⟩ := (hr.same s2).at e3
      exact .inl ⟨p, xs, i, z, rfl, rfl, SqL.of (s2 _ _ hx), ez, q z H2 (s1.trans s2) rz⟩
  · next l i =>
    obtain rfl := RA.intE r2
    rcases r1 with r1 | ⟨i', _, p, xs, ds, ho, rfl, ez, hx, hr⟩
    · obtain ⟨p, xs, rfl, hx, hr⟩ := RA.tupE (RA.same s2 r1)
      obtain ⟨z, ez, rz⟩ := hr.at e3
      exact .inr (.inl ⟨p, xs, i, z, rfl, rfl, hx, ez, q z H2 (s1.trans s2) rz⟩)
    · cases ez
  · cases e3
theorem de_one {op : BoolOp} (h : DE X fl k a f) : DE X fl k (.BoolOp op [a] pos) f := pe_one h
theorem de_and (h1 : DE X fl .P a fa) (h2 : DE X fl k (.BoolOp .And (b :: rest) pos) fb) : DE X fl k (.BoolOp .And (a :: b :: rest) pos) (dAnd fa fb) := PE.imp (pe_and h1 h2) fun σ H Q h => by
  obtain ⟨G, ow, δ, d, R, hf, q⟩ := h
  obtain ⟨x, e1, e2⟩ := bind1 hf
  refine ⟨G, ow, δ, x, R, e1, fun v H1 s1 r1 => ?_⟩
  split at e2
  · obtain rfl := RA.blE r1
    exact ⟨true, rfl, iteT ⟨G, ow, δ, d, R.grow s1, e2, fun u H2 s2 r2 => q u H2 (s1.trans s2) (r2.back s1)⟩⟩
  · obtain rfl := RA.blE r1
    cases e2
    exact ⟨false, rfl, iteF (q _ H1 s1 (Rs.of_flat rfl (.bl _)))⟩
  · cases e2
theorem de_not (h1 : DE X fl .P a fa) : DE X fl .FC (.UnaryOp .Not a pos) (dNot fa) := PE.imp (pe_not h1) fun σ H Q h => by
  obtain ⟨G, ow, δ, d, R, hf, q⟩ := h
  obtain ⟨x, e1, e2⟩ := bind1 hf
  refine ⟨G, ow, δ, x, R, e1, fun v H1 s1 r1 => ?_⟩
  split at e2
  · next c =>
    obtain rfl := RA.blE r1
    cases e2
    exact ⟨c, rfl, q _ H1 s1 (Rs.of_flat rfl (.bl _))⟩
  · cases e2
theorem dt_not (h : DT X fl a ft) : DT X fl (.UnaryOp .Not a pos) (tNot ft) := PT.imp (pt_not h) fun σ H Q h => by
  obtain ⟨G, ow, δ, t, R, hf, q⟩ := h
  unfold tNot at hf
  cases e : ft δ with
  | none => rw [e] at hf; cases hf
  | some x =>
    rw [e] at hf
    cases hf
    exact ⟨G, ow, δ, x, R, e, fun H' s => q H' s⟩
theorem dw_and1 (h : DT X fl a ft) : DW X fl (.BoolOp .And [a] pos) ft := pw_and1 h
theorem dw_or1 (h : DT X fl a ft) : DW X fl (.BoolOp .Or [a] pos) ft := pw_or1 h
theorem dw_and (h1 : DT X fl a ft) (h2 : DW X fl (.BoolOp .And (b :: rest) pos) gt) : DW X fl (.BoolOp .And (a :: b :: rest) pos) (tAnd ft gt) := PW.imp (pw_and h1 h2) fun σ H Q h => by
  obtain ⟨G, ow, δ, t, R, hf, q⟩ := h
  obtain ⟨x, e1, e2⟩ := bind1 hf
  refine ⟨G, ow, δ, x, R, e1, fun H1 s1 => ?_⟩
  cases x with
  | true => exact iteT ⟨G, ow, δ, t, R.grow s1, e2, fun H2 s2 => q H2 (s1.trans s2)⟩
  | false => cases e2; exact iteF (q H1 s1)
theorem dw_or (h1 : DT X fl a ft) (h2 : DW X fl (.BoolOp .Or (b :: rest) pos) gt) : DW X fl (.BoolOp .Or (a :: b :: rest) pos) (tOr ft gt) := PW.imp (pw_or h1 h2) fun σ H Q h => by
  obtain ⟨G, ow, δ, t, R, hf, q⟩ := h
  obtain ⟨x, e1, e2⟩ := bind1 hf
  refine ⟨G, ow, δ, x, R, e1, fun H1 s1 => ?_⟩
  cases x with
  | true => cases e2; exact iteT (q H1 s1)
  | false => exact iteF ⟨G, ow, δ, t, R.grow s1, e2, fun H2 s2 => q H2 (s1.trans s2)⟩
theorem dt_w (h : DW X fl a ft) : DT X fl a ft := PW.pt h
def BrC (K : PySem.W.Frag) (r : List V → Hp → VK → Prop) (g : List D → Option D) : Prop := ∀ (H : Hp) (xs : List V) (ds : List D) (d : D) (Q : VK), RAs K ok1 true H xs ds → g ds = some d → (∀ v, flat d = true → RA K ok0 false H v d → Q v H) → r xs H Q
theorem de_blt {id : String} {r : List V → Hp → VK → Prop} {g : List D → Option D} {x : Str} {p : Pos} {fa : FA} (hc : CallR X (.builtin id) r) (hb : BrC X.K r g) (hg : Gl X x) (hm : X.mg x = none) (hv : bootBuiltins x = some (.builtin id)) (ha : DB X fl .P (e :: es) fa) (hn : x ≠ "__name__" := by decide) (hdb : (x == ("__debug__" : Str)) = false := by decide)
    (he : starEach (e :: es) X.env = (false, eval e X.env) :: starEach es X.env := by exact star_of rfl) (hpl : (backTo pos (starEach es X.env)).any (·.1) = false := by exact pl_of rfl) : DE X fl .FC (.Call (.Name x p) (e :: es) [] pos) (dCall g fa) :=
  PE.imp (pe_callB hc hg hm hv ha hn hdb he hpl) fun σ H Q h => by
  obtain ⟨G, ow, δ, d, R, hf, q⟩ := h
  obtain ⟨ds, e1, e2⟩ := bind1 hf
  exact ⟨G, ow, δ, ds, R, e1, fun vs H' s r' => hb H' vs ds d Q r' e2 fun v hv rv => q v H' s (.inl ⟨hv, rv⟩)⟩
theorem b_len {K : PySem.W.Frag} : BrC K (fun xs H Q => ∃ p ys, xs = [.ref p] ∧ (SqL K H p ys ∨ SqT K H p ys) ∧ Q (.int ys.length) H) gLen := by
  intro H xs ds d Q r e q
  unfold gLen at e
  split at e
  · next l =>
    cases e
    cases r with
    | cons r1 r2 =>
      cases r2
      obtain ⟨a, ys, rfl, hx, hr⟩ := r1.lstE
      refine ⟨a, ys, rfl, .inl hx, ?_⟩
      rw [hr.length]
      exact q _ rfl (.int _)
  · next l =>
    cases e
    cases r with
    | cons r1 r2 =>
      cases r2
      obtain ⟨a, ys, rfl, hx, hr⟩ := r1.tupE
      refine ⟨a, ys, rfl, .inr hx, ?_⟩
      rw [hr.length]
      exact q _ rfl (.int _)
  · cases e
theorem b_abs {K : PySem.W.Frag} : BrC K (fun xs H Q => ∃ i, xs = [.int i] ∧ Q (.int (if i < 0 then -i else i)) H) gAbs := by
  intro H xs ds d Q r e q
  unfold gAbs at e
  split at e
  · cases e
    cases r with
    | cons r1 r2 =>
      cases r2
      obtain rfl := r1.intE
      exact ⟨_, rfl, q _ rfl (.int _)⟩
  · cases e
theorem tyD_mem (d : D) : tyD d = "NoneType" ∨ tyD d = "bool" ∨ tyD d = "int" ∨ tyD d = "str" ∨ tyD d = "list" ∨ tyD d = "tuple" ∨ tyD d = "dict" := by
  cases d <;> simp [tyD]
def rIsD (K : PySem.W.Frag) : List V → Hp → VK → Prop := fun xs H Q => ∃ x c d, xs = [x, .ty c] ∧ (c = "int" ∨ c = "bool" ∨ c = "tuple" ∨ c = "list" ∨ c = "str") ∧ RA K ok1 true H x d ∧ Q (.bl (isT c (tyD d))) H
theorem call_isD : CallR X (.builtin "isinstance") (rIsD X.K) := by
  intro pins s σ H xs us Q I r h
  obtain ⟨x, c, d, rfl, hc, ra, q⟩ := h
  obtain ⟨u, w', rfl, rx, rc⟩ := vals2 r
  cases rc
  have kn := kit_nn (K := X.K) hc (tyD_mem d)
  have fin : ∀ tk, EP X pins σ Q (.bool (isT c (tyD d))) { s with toks := tk } := fun tk => ⟨.bl _, H, I.tok _, rfl, q⟩
  cases ra with
  | non => cases (show u = Value.none from rx); exact PySem.W.kia_one PySem.W.kitx_none I.kIn True.intro kn (fun z => nomatch z) fin
  | bl b => cases (show u = Value.bool b from rx); exact PySem.W.kia_one PySem.W.kitx_bool I.kIn True.intro kn (fun z => nomatch z) fin
  | int i => obtain ⟨t, z⟩ := (show ∃ t, u = Value.int i t from rx); cases z; exact PySem.W.kia_one PySem.W.kitx_int I.kIn True.intro kn (fun z => nomatch z) fin
  | str y => obtain ⟨t, z⟩ := (show ∃ t, u = Value.str y t from rx); cases z; exact PySem.W.kia_one PySem.W.kitx_str I.kIn True.intro kn (fun z => nomatch z) fin
  | @lst a xs ds e k q' =>
    cases (show u = Value.ref a from rx)
    obtain ⟨its, _, ⟨o, n, e1, e2, _⟩, _⟩ := I.list (SqL.of e)
    exact PySem.W.kia_one PySem.W.kitx_list I.kIn ⟨_, e1, e2⟩ kn (fun z => nomatch z) fin
  | @lsk a xs ds e k q' =>
    cases (show u = Value.ref a from rx)
    obtain ⟨its, _, ⟨o, n, e1, e2, _⟩, _⟩ := I.list e.sq
    exact PySem.W.kia_one PySem.W.kitx_list I.kIn ⟨_, e1, e2⟩ kn (fun z => nomatch z) fin
  | @tup a xs ds e q' =>
    cases (show u = Value.ref a from rx)
    obtain ⟨its, _, ⟨o, e1, e2, _⟩, _⟩ := I.tuple e
    exact PySem.W.kia_one PySem.W.kitx_tuple I.kIn ⟨_, e1, e2⟩ kn (fun z => nomatch z) fin
  | @dic a kvs e k =>
    exact isinst_ok I rx (TyOf.dK e) kn fin
theorem de_isi {T : String} {x : Str} {p p' : Pos} (hc : T = "int" ∨ T = "bool" ∨ T = "tuple" ∨ T = "list" ∨ T = "str") (h : DE X fl .P a f) (hg : Gl X "isinstance") (hm : X.mg "isinstance" = none) (hg' : Gl X x) (hm' : X.mg x = none) (hv' : bootBuiltins x = some (.type T))
    (hn' : x ≠ "__name__" := by decide) (hd' : (x == ("__debug__" : Str)) = false := by decide)
    (he : starEach [a, .Name x p'] X.env = (false, eval a X.env) :: starEach [.Name x p'] X.env := by rfl) (he2 : starEach [.Name x p'] X.env = (false, eval (.Name x p') X.env) :: starEach [] X.env := by rfl) (hpl : (backTo pos (starEach [.Name x p'] X.env)).any (·.1) = false := by rfl) :
    DE X fl .FC (.Call (.Name "isinstance" p) [a, .Name x p'] [] pos) (dUn (gIs T) f) :=
  PE.imp (pe_callB call_isD hg hm boot_isinstance (pa_cons h (pa_cons (pe_bltn (v := .ty T) hg' hm' hv' rfl hn' hd') pa_nil he2) he) (by decide) (by decide) he hpl) fun σ H Q h => by
  obtain ⟨G, ow, δ, d, R, hf, q⟩ := h
  obtain ⟨x, e1, e2⟩ := bind1 hf
  cases e2
  exact ⟨G, ow, δ, x, R, e1, fun v H1 s1 r1 => ⟨v, T, x, rfl, hc, r1, q _ H1 s1 (.inl ⟨rfl, .bl _⟩)⟩⟩
theorem de_neg (h : DE X fl .P a f) : DE X fl .FC (.UnaryOp .USub a pos) (dUn gNeg f) := PE.imp (pe_un un_neg h) fun σ H Q h => by
  obtain ⟨G, ow, δ, d, R, hf, q⟩ := h
  obtain ⟨x, e1, e2⟩ := bind1 hf
  refine ⟨G, ow, δ, x, R, e1, fun v H1 s1 r1 => ?_⟩
  unfold gNeg at e2
  split at e2
  · cases e2
    obtain rfl := RA.intE r1
    exact ⟨_, rfl, q _ H1 s1 (.inl ⟨rfl, .int _⟩)⟩
  · cases e2
end
def spD (K : PySem.W.Frag) (F : List D → Option D) : Sp := fun vs H Q _ => ∃ ds d, RAs K ok1 true H vs ds ∧ F ds = some d ∧ ∀ v H', Same H H' → RA K (okN H) false H' v d → Q v H'
section
variable {P : Program} {w : World} {K : PySem.W.Frag} {mg : Str → Option Value} {base : Heap} {x : Str} {ps N : List Str} {st : Stmt} {k n : Nat} {fs : FS} {fl : List Fl}
theorem rel_start {vs : List V} {ds : List D} {H : Hp} (p : Nat) (hp : ∀ i, i < p → fl[i]? = some .A) (hl : ds.length = p) (hN : p ≤ N.length) (r : RAs K ok1 true H vs ds) :
    Rel K fl ⟨H, H, fun _ => none, fun _ => []⟩ ow0 (L2.start N vs) H (ds.map (fun d => some (.d d)) ++ List.replicate (N.length - p) none) := by
  have hv : vs.length = p := by rw [r.length]; exact hl
  have get : ∀ i d, (ds.map (fun d => some (U.d d)) ++ List.replicate (N.length - p) none)[i]? = some (some (.d d)) → i < p ∧ ds[i]? = some d := fun i d h => by
    by_cases hi : i < p
    · rw [List.getElem?_append_left (by rw [List.length_map, hl]; exact hi), List.getElem?_map] at h
      cases e : ds[i]? with
      | none => rw [e] at h; cases h
      | some z => rw [e] at h; cases h; exact ⟨hi, rfl⟩
    · rw [List.getElem?_append_right (by rw [List.length_map, hl]; omega), List.getElem?_replicate] at h
      split at h <;> cases h
  refine ⟨Same.refl H, Same.refl H, ?_, fun i a h => (by cases h), fun i j a h => (by cases h), fun i h => rfl, fun i d h _ _ => ?_, fun i d h _ h2 _ => ?_, fun i a h => (by cases h), fun i j a h => (by cases h), fun i j a h => (by cases h), fun i h => rfl, fun i d hn h => ?_⟩
  · unfold L2.start
    simp only [List.length_append, List.length_map, List.length_replicate, hv, hl]
  · obtain ⟨hi, e⟩ := get i d h
    obtain ⟨v, e1, e2⟩ := r.get e
    refine ⟨v, ?_, e2.imp (fun _ _ => ⟨fun i z => (by cases z), fun i z => (by cases z)⟩) (fun z => z)⟩
    unfold L2.start
    rw [List.getElem?_append_left (by rw [List.length_map, hv]; exact hi), List.getElem?_map, e1]
    rfl
  · exact absurd (hp i (get i d h).1) h2
  · rw [hp i (get i d h).1] at hn
    cases hn
end
section
variable {X : Cx} {fl : List Fl} {e : Expr} {es : List Expr} {pos p : Pos} {x : Str} {ps : List Str} {n : Nat} {F : List D → Option D} {fa : FA}
theorem de_call (h : Has X.prog X.w X.K X.mg X.base n x ps (spD X.K F)) (hr : Room n X.A) (ha : DB X fl .P (e :: es) fa) (hg : Gl X x := by rfl) (hdb : (x == ("__debug__" : Str)) = false := by decide)
    (he : starEach (e :: es) X.env = (false, eval e X.env) :: starEach es X.env := by exact star_of rfl) (hpl : (backTo pos (starEach es X.env)).any (·.1) = false := by exact pl_of rfl) :
    DE X fl .C (.Call (.Name x p) (e :: es) [] pos) (dCall F fa) := PE.imp (pe_callH h hr ha hg hdb he hpl) fun σ H Q h => by
  obtain ⟨G, ow, δ, d, R, hf, q⟩ := h
  obtain ⟨ds, e1, e2⟩ := bind1 hf
  refine ⟨G, ow, δ, ds, R, e1, fun vs H' s r => ?_⟩
  show spD X.K F (vs ++ []) H' Q E0
  rw [List.append_nil]
  exact ⟨ds, d, r, e2, fun v H2 s2 r2 => q v H2 (s.trans s2) (RA.imp (fun a z => s.free z) (fun z => z) r2)⟩
end
end D3
namespace D3
open PySem PySem.Spec PyProof.Rows L2 My
section
variable {X : Cx} {fl fl' : List Fl} {e a b c elt tg iter : Expr} {es ifs : List Expr} {k : Kd} {f fa fb fc : FE} {ft gt : FT} {pos : Pos} {scope : Scope} {ix L TT : List Nat} {fi : FA} {g : FG}
theorem new_F {K : PySem.W.Frag} {G : Gh} {ow : Ow} {H H1 : Hp} {p : Addr} {vs : List V} {l : List D} (s : Same H H1) (hp : H1 p = none) (r : RAs K (okA ow) true H1 vs l) : Rs K G.H0 ow H (upd H1 p (.lst vs)) .F (.ref p) (.list l) :=
  .inr ⟨p, vs, l, rfl, rfl, s.free hp, upd_same, (r.track.imp (fun b w => ⟨w.1, fun e => w.2 (e ▸ hp)⟩) (fun z => z)).same (same_new hp _)⟩
theorem B_list {K : PySem.W.Frag} {H0 : Hp} {ow : Ow} {Hb H : Hp} {L : List Nat} {v : V} {l : List D} (r : Rs K H0 ow Hb H (.B L) v (.list l)) : ∃ a xs, v = .ref a ∧ SqL K H a xs ∧ RAs K (okA ow) true H xs l := by
  rcases r with r | ⟨i, hi, a, xs, ds, ho, rfl, e, hx, hr⟩
  · exact r.lstE
  · cases e
    exact ⟨a, xs, rfl, SqL.of hx, hr⟩
def rCatS (K : PySem.W.Frag) : R2 := fun x y H Q => ∃ l b xs zs, x = .ref l ∧ y = .ref b ∧ SqL K H l xs ∧ SqL K H b zs ∧ xs.length + zs.length ≤ sizeLine ∧ ∀ p, H p = none → Q (.ref p) (upd H p (.lst (xs ++ zs)))
theorem op_catS : OpR X (binaryOp .Add) (rCatS X.K) := by
  intro pins s σ H x y v u Q I rx ry h
  obtain ⟨l, b, xs, zs, rfl, rfl, hH, hB, hz, q⟩ := h
  cases rx
  cases ry
  obtain ⟨its, r, p, _⟩ := I.list hH
  obtain ⟨its2, r2, p2, _⟩ := I.list hB
  obtain ⟨⟨cls, dd, data, sl⟩, ho, hc, n, hd⟩ := p.isList
  obtain ⟨⟨cls2, dd2, data2, sl2⟩, ho2, hc2, n2, hd2⟩ := p2.isList
  simp only at hc hd hc2 hd2
  subst hc hd hc2 hd2
  have e1 := r.length
  have e2 := r2.length
  have e : its.toArray ++ its2.toArray = (its ++ its2).toArray := by simp
  refine concat_meets ⟨_, ho, rfl⟩ ⟨_, ho2, rfl⟩ noFill_list_add seq_list_add PySem.F.slot_list_add PySem.F.entry_list_add (PySem.F.args_list_add_2 _ _) (list_addW l b its.toArray its2.toArray n n2 dd dd2 sl sl2 (by simp; omega)) ⟨ho, ho2, ?_⟩
  rw [e]
  exact ⟨.ref _, _, I.lnew (t' := s.toks) (r.append r2) (by rw [List.length_append]; omega), rfl, q _ I.fresh⟩
theorem de_cat {L L' : List Nat} (h1 : DE X fl (.B L) a fa) (h2 : DE X fl (.B L') b fb) : DE X fl .F (.BinOp a .Add b pos) (dOp gCat fa fb) := PE.imp (pe_op op_catS h1 h2) fun σ H Q h => by
  obtain ⟨G, ow, δ, d, R, hf, q⟩ := h
  obtain ⟨x, y, e1, e2, e3⟩ := bind2 hf
  refine ⟨G, ow, δ, x, R, e1, fun v H1 s1 r1 => ⟨G, ow, δ, y, R.grow s1, e2, fun u H2 s2 r2 => ?_⟩⟩
  unfold gCat at e3
  split at e3
  · next l m =>
    by_cases z : l.length + m.length ≤ 1000000
    · rw [if_pos z] at e3
      cases e3
      obtain ⟨p, xs, rfl, hx, hr⟩ := B_list r1
      obtain ⟨p', ys, rfl, hy, hr'⟩ := B_list r2
      refine ⟨p, p', xs, ys, rfl, rfl, s2.seq hx, hy, ?_, fun pn hp => q _ _ ((s1.trans s2).trans (same_new hp _)) (new_F (G := G) (s1.trans s2) hp ((hr.same s2).append hr'))⟩
      rw [hr.length, hr'.length]
      exact Nat.le_trans z (by decide)
    · rw [if_neg z] at e3
      cases e3
  · cases e3
theorem PO.imp {o : Option Expr} {t t' : TO} (h : PO X o t) (i : ∀ σ H Q, t' σ H Q → t σ H Q) : PO X o t' := fun pins s σ H Q I q => h pins s σ H Q I (i σ H Q q)
theorem ds_never {st : Stmt} : DS1 X fl st (fun _ => none) := PS.imp ps_never fun Dn σ H h => by
  obtain ⟨G, ow, δ, o, R, hf, q⟩ := h
  cases hf
end
end D3
namespace D3
open PySem PySem.Spec PyProof.Rows L2 My
section
variable {X : Cx} {pins : List (Addr × Obj)} {σ : St} {H : Hp} {s : Shared} {h' : Heap}
end
section
variable {X : Cx} {fl : List Fl} {a : Expr} {f : FE} {pos : Pos}
end
structure Bl (mg : Str → Option Value) : Prop where
  len_ : mg "len" = none
  range_ : mg "range" = none
  abs_ : mg "abs" = none
  isinstance_ : mg "isinstance" = none
  int_ : mg "int" = none
  bool_ : mg "bool" = none
  tuple_ : mg "tuple" = none
  list_ : mg "list" = none
  str_ : mg "str" = none
  max_ : mg "max" = none
  min_ : mg "min" = none
  sorted_ : mg "sorted" = none
  sum_ : mg "sum" = none
  reversed_ : mg "reversed" = none
  enumerate_ : mg "enumerate" = none
  zip_ : mg "zip" = none
  set_ : mg "set" = none
  any_ : mg "any" = none
  all_ : mg "all" = none
  dict_ : mg "dict" = none
end D3
namespace D3
open PySem PySem.Spec PyProof.Rows L2 My
structure FunD (K : PySem.W.Frag) (x : Str) (st : Stmt) (f : Addr) (fd : FuncData) : Prop where
  ex : ∃ (oc : Value) (od : Option Addr) (dV kV doc pm : Value) (an : Option Addr) (cdv ct : Value) (osl : Array (Option Value)),
    fd = PySem.W.fnOf x x (defArgs st) (defBody st) (defScope st) dV kV doc pm an cdv ct ∧ K.lookup f = some ⟨oc, od, .func fd, osl⟩ ∧ PySem.W.codeIn K cdv x = true
  kp : PySem.W.keepIn K (.ref f) = true
structure Dg (K : PySem.W.Frag) (mg : Str → Option Value) (x : Str) (st : Stmt) (ps : List Str) : Prop where
  ex : ∃ (f : Addr) (fd : FuncData), FunD K x st f fd ∧ Binds K fd ps [] ∧ mg x = some (.ref f)
theorem dg_mkD {K : PySem.W.Frag} {h : Heap} {mg : Str → Option Value} {f T : Addr} {oc kV dc pm cd ct : Value} {od an : Option Addr} {sl : Array (Option Value)} {x : Str} {st : Stmt} {ps : List Str} {o : Obj} {items : Array Value} {n : Nat} (X : K.In h) (G : h.Ns mainGlobals mg)
    (hb : ∀ (kV doc pm : Value) (an : Option Addr) (cdv ct : Value) (us : List Value), us.length = ps.length → ∃ k, bindArgs (PySem.W.fnOf x x (defArgs st) (defBody st) (defScope st) (.ref T) kV doc pm an cdv ct) ⟨us, []⟩ = (seqItems? (.ref T) >>= k) ∧ k (some items) = pure (ps.zip us))
    (a : PySem.W.nsIn K mainGlobals x = some (some (.ref f))) (l : K.lookup f = some ⟨oc, od, .func (PySem.W.fnOf x x (defArgs st) (defBody st) (defScope st) (.ref T) kV dc pm an cd ct), sl⟩) (c : PySem.W.codeIn K cd x = true) (k : PySem.W.keepIn K (.ref f) = true)
    (hT : K.lookup T = some o) (hs : o.data = .seq items n) : Dg K mg x st ps :=
  ⟨_, _, ⟨⟨oc, od, .ref T, kV, dc, pm, an, cd, ct, sl, rfl, l, c⟩, k⟩, fun s us KX hl => by
    rw [List.append_nil] at hl ⊢
    obtain ⟨k, h1, h2⟩ := hb kV dc pm an cd ct us hl
    exact BindsTo.of_defaults (T := T) rfl (KX T o hT) hs h1 h2, PySem.W.mg_of X G a⟩
theorem dg_mk {K : PySem.W.Frag} {h : Heap} {mg : Str → Option Value} {f : Addr} {oc kV dc pm cd ct : Value} {od an : Option Addr} {sl : Array (Option Value)} {x : Str} {st : Stmt} {ps : List Str} (X : K.In h) (G : h.Ns mainGlobals mg)
    (hb : ∀ (kV doc pm : Value) (an : Option Addr) (cdv ct : Value) (us : List Value), us.length = ps.length → bindArgs (PySem.W.fnOf x x (defArgs st) (defBody st) (defScope st) .none kV doc pm an cdv ct) ⟨us, []⟩ = pure (ps.zip us))
    (a : PySem.W.nsIn K mainGlobals x = some (some (.ref f))) (l : K.lookup f = some ⟨oc, od, .func (PySem.W.fnOf x x (defArgs st) (defBody st) (defScope st) .none kV dc pm an cd ct), sl⟩) (c : PySem.W.codeIn K cd x = true) (k : PySem.W.keepIn K (.ref f) = true) : Dg K mg x st ps :=
  ⟨_, _, ⟨⟨oc, od, .none, kV, dc, pm, an, cd, ct, sl, rfl, l, c⟩, k⟩, .all (hb kV dc pm an cd ct), PySem.W.mg_of X G a⟩
structure Dl (K : PySem.W.Frag) (mg : Str → Option Value) (x y : Str) (st : Stmt) : Prop where
  ex : ∃ (f : Addr) (fd : FuncData), FunD K x st f fd ∧ (∀ (s : Shared) (u : Value), BindsTo s fd ⟨[u], []⟩ [(y, u)]) ∧ mg x = some (.ref f)
theorem dl_mk {K : PySem.W.Frag} {h : Heap} {mg : Str → Option Value} {f : Addr} {oc kV dc pm cd ct : Value} {od an : Option Addr} {sl : Array (Option Value)} {x y : Str} {st : Stmt} (X : K.In h) (G : h.Ns mainGlobals mg)
    (hb : ∀ (kV doc pm : Value) (an : Option Addr) (cdv ct : Value) (u : Value), bindArgs (PySem.W.fnOf x x (defArgs st) (defBody st) (defScope st) .none kV doc pm an cdv ct) ⟨[u], []⟩ = pure [(y, u)])
    (a : PySem.W.nsIn K mainGlobals x = some (some (.ref f))) (l : K.lookup f = some ⟨oc, od, .func (PySem.W.fnOf x x (defArgs st) (defBody st) (defScope st) .none kV dc pm an cd ct), sl⟩) (c : PySem.W.codeIn K cd x = true) (k : PySem.W.keepIn K (.ref f) = true) : Dl K mg x y st :=
  ⟨_, _, ⟨⟨oc, od, .none, kV, dc, pm, an, cd, ct, sl, rfl, l, c⟩, k⟩, fun s u => .of_eq (hb kV dc pm an cd ct u), PySem.W.mg_of X G a⟩
section
variable {P : Program} {w : World} {K : PySem.W.Frag} {mg : Str → Option Value} {base : Heap} {x : Str} {ps N : List Str} {st : Stmt} {k n : Nat} {fs : FS} {fl : List Fl}
theorem FunD.ok {f : Addr} {fd : FuncData} {sp : Sp} (F : FunD K x st f fd) (S : FnScope N ps (defScope st)) (len : ∀ vs H Q E, sp vs H Q E → vs.length = ps.length)
    (hbody : ∀ (cdv : Value) (A : Around) (outer : List Env) (s : Shared) (H : Hp) (vs : List V) (Q : VK) (E : XK), Room k (A.deeper (envOfC x (defScope st) s.heap.objs.size f cdv)) → sp vs H Q E →
      ∃ t, PSs (cxOf CX0 P w K mg base N x (defScope st) f cdv A outer s H E).nox (defBody st) t ∧ t { nx := fun _ H' => Q .non H', rt := Q } (L2.start N vs) H) : FnOk P w K mg base CX0 (k + 1) f fd ps sp := by
  obtain ⟨oc, od, dV, kV, doc, pm, an, cdv, ct, osl, rfl, lk, hcd⟩ := F.ex
  refine fn_of lk hcd S len fun A outer s H vs Q E hr hsp => ?_
  obtain ⟨t, h, q⟩ := hbody cdv A outer s H vs Q E hr hsp
  exact ⟨t, h.nox, q⟩
theorem fun_ok {f : Addr} {fd : FuncData} (Fn : FunD K x st f fd) (S : FnScope N ps (defScope st)) (hp : ∀ i, i < ps.length → fl[i]? = some .A) (hN : ps.length ≤ N.length)
    (hbody : ∀ (f : Addr) (cdv : Value) (A : Around) (outer : List Env) (s : Shared) (H : Hp) (E : XK), Room k (A.deeper (envOfC x (defScope st) s.heap.objs.size f cdv)) → DSs (cx P w K mg base N x st f cdv A outer s H E) fl (defBody st) fs) :
    FnOk P w K mg base CX0 (k + 1) f fd ps (spD K (fnD ps.length (N.length - ps.length) fs)) := by
  refine Fn.ok S (fun vs H Q E h => ?_) (fun cdv A outer s H vs Q E hr h => ?_)
  · obtain ⟨ds, d, r, hf, _⟩ := h
    unfold fnD at hf
    by_cases z : ds.length = ps.length
    · rw [r.length]; exact z
    · rw [if_neg z] at hf; cases hf
  · obtain ⟨ds, d, r, hf, q⟩ := h
    refine ⟨_, hbody f cdv A outer s H E hr, ?_⟩
    unfold fnD at hf
    by_cases z : ds.length = ps.length
    · rw [if_pos z] at hf
      split at hf
      · next d' e =>
        cases hf
        exact ⟨_, _, _, _, rel_start ps.length hp z hN r, e, fun v H' s r => q v H' s r⟩
      · next δ' e =>
        cases hf
        exact ⟨_, _, _, _, rel_start ps.length hp z hN r, e, fun ow' σ' H' R' => q .non H' R'.same0 .non⟩
      · cases hf
    · rw [if_neg z] at hf; cases hf
theorem dg_ok (Dd : Dg K mg x st ps) (S : FnScope N ps (defScope st)) (hp : ∀ i, i < ps.length → fl[i]? = some .A) (hN : ps.length ≤ N.length)
    (hbody : ∀ (f : Addr) (cdv : Value) (A : Around) (outer : List Env) (s : Shared) (H : Hp) (E : XK), Room k (A.deeper (envOfC x (defScope st) s.heap.objs.size f cdv)) → DSs (cx P w K mg base N x st f cdv A outer s H E) fl (defBody st) fs) :
    Has P w K mg base (k + 1) x ps (spD K (fnD ps.length (N.length - ps.length) fs)) := by
  obtain ⟨f, fd, Fn, b, m⟩ := Dd.ex
  exact ⟨f, fd, fun_ok Fn S hp hN hbody, b, Fn.kp, m⟩
end
def spLaw (K : PySem.W.Frag) : Sp := fun vs H Q _ => ∃ (a : Addr) (ns : List Int), vs = [.ref a] ∧ SqL K H a (ns.map V.int) ∧ ns.length ≤ 63 ∧ ∀ H', Q (.bl true) H'
theorem ra_ints {K : PySem.W.Frag} {ok : Ok} {pl : Bool} {H : Hp} : ∀ ns : List Int, RAs K ok pl H (ns.map V.int) (ns.map PyData.int)
  | [] => .nil
  | n :: r => .cons (.int n) (ra_ints r)
theorem law_imp {K : PySem.W.Frag} {F : List D → Option D} (hF : ∀ ns : List Int, ns.length ≤ 63 → F [.list (ns.map .int)] = some (.bool true)) (vs : List V) (H : Hp) (Q : VK) (E : XK) (h : spLaw K vs H Q E) : spD K F vs H Q E := by
  obtain ⟨a, ns, rfl, hS, hl, q⟩ := h
  refine ⟨_, _, .cons ?_ .nil, hF ns hl, fun v H' s r => ?_⟩
  · rcases hS with (h | ⟨o, h⟩) | h
    · exact .lst h trivial (ra_ints ns)
    · exact .lsk (.inl ⟨o, h⟩) rfl (ra_ints ns)
    · exact .lsk (.inr h) rfl (ra_ints ns)
  · obtain rfl := r.blE
    exact q H'
end D3
namespace D3
open PySem PySem.Spec PyProof.Rows L2 My
section
variable {prog : Program} {w : World} {A : Around} {E : Value → Shared → Prop} {s : Shared}
end
section
variable {X : Cx} {fl : List Fl} {a : Expr} {f : FE} {pos p p2 pos2 : Pos}
end
section
variable {X : Cx} {fl : List Fl} {a b : Expr} {pos p p2 pos2 : Pos} {fa : FA}
end
end D3
namespace D3
open PySem PySem.Spec PyProof.Rows L2 My
section
variable {X : Cx}
theorem intsD_ra {K : PySem.W.Frag} {ok : Ok} {pl : Bool} {H : Hp} : ∀ {l : List D} {ns : List Int} {ys : List V}, intsD l = some ns → RAs K ok pl H ys l → ys = ns.map V.int
  | [], _, _, e, .nil => by cases e; rfl
  | d :: r, ns, _, e, .cons h t => by
    cases d <;> first | (cases e; done) | skip
    obtain rfl := h.intE
    cases e2 : intsD r with
    | none => rw [intsD, e2] at e; cases e
    | some m =>
      rw [intsD, e2] at e
      cases e
      rw [intsD_ra e2 t]
      rfl
theorem b_sum {K : PySem.W.Frag} : BrC K (fun xs H Q => ∃ (p : Addr) (ns : List Int), xs = [.ref p] ∧ SqL K H p (ns.map V.int) ∧ Q (.int ns.sum) H) gSum := by
  intro H xs ds d Q r e q
  unfold gSum at e
  split at e
  · next l =>
    cases e2 : intsD l with
    | none => rw [e2] at e; cases e
    | some ns =>
      rw [e2] at e
      cases e
      cases r with
      | cons r1 r2 =>
        cases r2
        obtain ⟨a, ys, rfl, hx, hr⟩ := r1.lstE
        obtain rfl := intsD_ra e2 hr
        exact ⟨a, ns, rfl, hx, q _ rfl (.int _)⟩
  · cases e
theorem vals_ints : ∀ {ns : List Int} {its : List Value}, IntsAre its ns → Vals (ns.map V.int) its
  | _, _, .nil => .nil
  | _, _, .cons n t r => .cons ⟨t, rfl⟩ (vals_ints r)
end
end D3
namespace D3
open PySem PySem.Spec PyProof.Rows L2 My
def gK (n : Nat) (us ws : List α) : List α := if ws.length = n then us ++ ws else []
structure HasD (P : Program) (w : World) (K : PySem.W.Frag) (mg : Str → Option Value) (base : Heap) (n : Nat) (x : Str) (ps : List Str) (sp : Sp) (dvs : List V) (ks : List Str) : Prop where
  ex : ∃ (f : Addr) (fd : FuncData) (ds : List Value), FnOk P w K mg base CX0 n f fd ps sp ∧ Binds K fd ps ds ∧ Vals dvs ds ∧ KBinds K fd ps ks (gK ks.length) (gK ks.length) ∧ PySem.W.keepIn K (.ref f) = true ∧ mg x = some (.ref f)
structure DgD (K : PySem.W.Frag) (mg : Str → Option Value) (x : Str) (st : Stmt) (ps : List Str) (dvs : List V) (ks : List Str) : Prop where
  ex : ∃ (f : Addr) (fd : FuncData) (ds : List Value), FunD K x st f fd ∧ Binds K fd ps ds ∧ Vals dvs ds ∧ KBinds K fd ps ks (gK ks.length) (gK ks.length) ∧ mg x = some (.ref f)
theorem gK_rel {n : Nat} {vs zs : List V} {us ws : List Value} (h : Vals vs us) (h' : Vals zs ws) : Vals (gK n vs zs) (gK n us ws) := by
  unfold gK
  rw [h'.length]
  split
  · exact h.append h'
  · exact .nil
section
variable {P : Program} {w : World} {K : PySem.W.Frag} {mg : Str → Option Value} {base : Heap} {x : Str} {ps N ks : List Str} {st : Stmt} {k n : Nat} {fs : FS} {fl : List Fl} {dvs : List V}
theorem HasD.mono {sp : Sp} (h : HasD P w K mg base k x ps sp dvs ks) (l : k ≤ n) : HasD P w K mg base n x ps sp dvs ks := by
  obtain ⟨f, fd, ds, F, b, v, kb, kp, m⟩ := h.ex
  exact ⟨f, fd, ds, F.mono l, b, v, kb, kp, m⟩
theorem dgD_ok (Dd : DgD K mg x st ps dvs ks) (S : FnScope N ps (defScope st)) (hp : ∀ i, i < ps.length → fl[i]? = some .A) (hN : ps.length ≤ N.length)
    (hbody : ∀ (f : Addr) (cdv : Value) (A : Around) (outer : List Env) (s : Shared) (H : Hp) (E : XK), Room k (A.deeper (envOfC x (defScope st) s.heap.objs.size f cdv)) → DSs (cx P w K mg base N x st f cdv A outer s H E) fl (defBody st) fs) :
    HasD P w K mg base (k + 1) x ps (spD K (fnD ps.length (N.length - ps.length) fs)) dvs ks := by
  obtain ⟨f, fd, ds, Fn, b, v, kb, m⟩ := Dd.ex
  exact ⟨f, fd, ds, fun_ok Fn S hp hN hbody, b, v, kb, Fn.kp, m⟩
end
theorem dgD_mk {K : PySem.W.Frag} {h : Heap} {mg : Str → Option Value} {f T : Addr} {oc kV dc pm cd ct : Value} {od an : Option Addr} {sl : Array (Option Value)} {x : Str} {st : Stmt} {ps ks : List Str} {o : Obj} {items : Array Value} {n : Nat} {ds : List Value} {dvs : List V} (X : K.In h) (G : h.Ns mainGlobals mg)
    (hb : ∀ (kV doc pm : Value) (an : Option Addr) (cdv ct : Value) (us : List Value), (us ++ ds).length = ps.length → ∃ k, bindArgs (PySem.W.fnOf x x (defArgs st) (defBody st) (defScope st) (.ref T) kV doc pm an cdv ct) ⟨us, []⟩ = (seqItems? (.ref T) >>= k) ∧ k (some items) = pure (ps.zip (us ++ ds)))
    (hk : ∀ (kV doc pm : Value) (an : Option Addr) (cdv ct : Value) (us ws : List Value), ws.length = ks.length → (us ++ ws).length = ps.length → ∃ k, bindArgs (PySem.W.fnOf x x (defArgs st) (defBody st) (defScope st) (.ref T) kV doc pm an cdv ct) ⟨us, ks.zip ws⟩ = (seqItems? (.ref T) >>= k) ∧ k (some items) = pure (ps.zip (us ++ ws)))
    (hp : ps ≠ [])
    (a : PySem.W.nsIn K mainGlobals x = some (some (.ref f))) (l : K.lookup f = some ⟨oc, od, .func (PySem.W.fnOf x x (defArgs st) (defBody st) (defScope st) (.ref T) kV dc pm an cd ct), sl⟩) (c : PySem.W.codeIn K cd x = true) (k : PySem.W.keepIn K (.ref f) = true)
    (hT : K.lookup T = some o) (hs : o.data = .seq items n) (hv : Vals dvs ds) : DgD K mg x st ps dvs ks :=
  ⟨_, _, ds, ⟨⟨oc, od, .ref T, kV, dc, pm, an, cd, ct, sl, rfl, l, c⟩, k⟩, fun s us KX hl => by
    obtain ⟨k, h1, h2⟩ := hb kV dc pm an cd ct us hl
    exact BindsTo.of_defaults (T := T) rfl (KX T o hT) hs h1 h2, hv,
    ⟨fun s us ws KX hl => by
      unfold gK at hl ⊢
      by_cases e : ws.length = ks.length
      · rw [if_pos e] at hl ⊢
        obtain ⟨k, h1, h2⟩ := hk kV dc pm an cd ct us ws e hl
        exact BindsTo.of_defaults (T := T) rfl (KX T o hT) hs h1 h2
      · rw [if_neg e] at hl
        exact absurd (List.length_eq_zero_iff.mp hl.symm) hp, gK_rel⟩, PySem.W.mg_of X G a⟩
theorem dgD_mk1 {K : PySem.W.Frag} {h : Heap} {mg : Str → Option Value} {f T : Addr} {oc kV dc pm cd ct : Value} {od an : Option Addr} {sl : Array (Option Value)} {x : Str} {st : Stmt} {ps ks : List Str} {o : Obj} {items : Array Value} {n : Nat} {dvs : List V} (X : K.In h) (G : h.Ns mainGlobals mg)
    (hb : ∀ (kV doc pm : Value) (an : Option Addr) (cdv ct : Value) (us : List Value), (us ++ items.toList).length = ps.length → ∃ k, bindArgs (PySem.W.fnOf x x (defArgs st) (defBody st) (defScope st) (.ref T) kV doc pm an cdv ct) ⟨us, []⟩ = (seqItems? (.ref T) >>= k) ∧ k (some items) = pure (ps.zip (us ++ items.toList)))
    (hk : ∀ (kV doc pm : Value) (an : Option Addr) (cdv ct : Value) (us ws : List Value), ws.length = ks.length → (us ++ ws).length = ps.length → ∃ k, bindArgs (PySem.W.fnOf x x (defArgs st) (defBody st) (defScope st) (.ref T) kV doc pm an cdv ct) ⟨us, ks.zip ws⟩ = (seqItems? (.ref T) >>= k) ∧ k (some items) = pure (ps.zip (us ++ ws)))
    (hp : ps ≠ [])
    (a : PySem.W.nsIn K mainGlobals x = some (some (.ref f))) (l : K.lookup f = some ⟨oc, od, .func (PySem.W.fnOf x x (defArgs st) (defBody st) (defScope st) (.ref T) kV dc pm an cd ct), sl⟩) (c : PySem.W.codeIn K cd x = true) (k : PySem.W.keepIn K (.ref f) = true)
    (hT : K.lookup T = some o) (hs : o.data = .seq items n) (hv : Vals dvs items.toList) : DgD K mg x st ps dvs ks :=
  dgD_mk (ds := items.toList) X G hb hk hp a l c k hT hs hv
section
variable {X : Cx} {fl : List Fl} {e ke : Expr} {es : List Expr} {pos p kpos : Pos} {x kn : Str} {ps : List Str} {n : Nat} {F : List D → Option D} {fa : FA} {fk : FE} {i : Int} {dvs : List V}
theorem de_callD (h : HasD X.prog X.w X.K X.mg X.base n x ps (spD X.K F) [V.int i] [kn]) (hr : Room n X.A) (ha : DB X fl .P (e :: es) fa) (hg : Gl X x := by rfl) (hdb : (x == ("__debug__" : Str)) = false := by decide)
    (he : starEach (e :: es) X.env = (false, eval e X.env) :: starEach es X.env := by exact star_of rfl) (hpl : (backTo pos (starEach es X.env)).any (·.1) = false := by exact pl_of rfl) :
    DE X fl .C (.Call (.Name x p) (e :: es) [] pos) (dCallD F i fa) := by
  obtain ⟨f, fd, ds0, Fo, b, v, kb, kp, m⟩ := h.ex
  refine PE.imp (pe_call Fo hr hg m kp b v pass0 ha hdb he hpl) fun σ H Q h => ?_
  obtain ⟨G, ow, δ, d, R, hf, q⟩ := h
  obtain ⟨ds, e1, e2⟩ := bind1 hf
  refine ⟨G, ow, δ, ds, R, e1, fun vs H' s r => ?_⟩
  exact ⟨ds ++ [.int i], d, r.append (.cons (.int i) .nil), e2, fun v H2 s2 r2 => q v H2 (s.trans s2) (RA.imp (fun a z => s.free z) (fun z => z) r2)⟩
theorem de_callK (h : HasD X.prog X.w X.K X.mg X.base n x ps (spD X.K F) dvs [kn]) (hr : Room n X.A) (ha : DB X fl .P (e :: es) fa) (hk : DE X fl .P ke fk) (hg : Gl X x := by rfl) (hdb : (x == ("__debug__" : Str)) = false := by decide)
    (hall : (backToKw pos (keywordEach [⟨some kn, ke, kpos⟩] X.env)).all (·.1.isSome) = true := by rfl) (hks : (backToKw pos (keywordEach [⟨some kn, ke, kpos⟩] X.env)).filterMap (·.1) = [kn] := by rfl)
    (he : starEach (e :: es) X.env = (false, eval e X.env) :: starEach es X.env := by exact star_of rfl)
    (hpl : ((backTo pos (starEach (e :: es) X.env)).any (·.1) || (backToKw pos (keywordEach [⟨some kn, ke, kpos⟩] X.env)).any (·.1.isNone)) = false := by rfl) :
    DE X fl .C (.Call (.Name x p) (e :: es) [⟨some kn, ke, kpos⟩] pos) (dCallK F fa fk) := by
  obtain ⟨f, fd, ds0, Fo, b, v, kb, kp, m⟩ := h.ex
  refine PE.imp (pe_callK Fo hr hg m kp kb pass0 ha (pk_cons hk pk_nil) hall hks hdb he hpl) fun σ H Q h => ?_
  obtain ⟨G, ow, δ, d, R, hf, q⟩ := h
  obtain ⟨ds, e1, hf1⟩ := bind1 hf
  obtain ⟨y, e2, e3⟩ := bind1 hf1
  refine ⟨G, ow, δ, ds, R, e1, fun vs H1 s1 r1 => ⟨G, ow, δ, y, R.grow s1, e2, fun u H2 s2 r2 => ?_⟩⟩
  show spD X.K F (gK 1 vs [u]) H2 Q E0
  rw [show gK 1 vs [u] = vs ++ [u] from rfl]
  exact ⟨ds ++ [y], d, (r1.same s2).append (.cons r2 .nil), e3, fun v H3 s3 r3 => q v H3 (s1.trans (s2.trans s3)) (RA.imp (fun a z => (s1.trans s2).free z) (fun z => z) r3)⟩
end
end D3
namespace D3
open PySem PySem.Spec PyProof.Rows L2 My
section
variable {X : Cx}
theorem boolsD_ra {K : PySem.W.Frag} {ok : Ok} {pl : Bool} {H : Hp} : ∀ {l : List D} {bs : List Bool} {ys : List V}, boolsD l = some bs → RAs K ok pl H ys l → ys = bs.map V.bl
  | [], _, _, e, .nil => by cases e; rfl
  | d :: r, bs, _, e, .cons h t => by
    cases d <;> first | (cases e; done) | skip
    obtain rfl := h.blE
    cases e2 : boolsD r with
    | none => rw [boolsD, e2] at e; cases e
    | some m =>
      rw [boolsD, e2] at e
      cases e
      rw [boolsD_ra e2 t]
      rfl
theorem b_all {K : PySem.W.Frag} : BrC K (fun xs H Q => ∃ (p : Addr) (bs : List Bool), xs = [.ref p] ∧ SqL K H p (bs.map V.bl) ∧ Q (.bl (bs.all id)) H) gAll := by
  intro H xs ds d Q r e q
  unfold gAll at e
  split at e
  · next l =>
    cases e2 : boolsD l with
    | none => rw [e2] at e; cases e
    | some bs =>
      rw [e2] at e
      cases e
      cases r with
      | cons r1 r2 =>
        cases r2
        obtain ⟨a, ys, rfl, hx, hr⟩ := r1.lstE
        obtain rfl := boolsD_ra e2 hr
        exact ⟨a, bs, rfl, hx, q _ rfl (.bl _)⟩
  · cases e
theorem b_any {K : PySem.W.Frag} : BrC K (fun xs H Q => ∃ (p : Addr) (bs : List Bool), xs = [.ref p] ∧ SqL K H p (bs.map V.bl) ∧ Q (.bl (bs.any id)) H) gAny := by
  intro H xs ds d Q r e q
  unfold gAny at e
  split at e
  · next l =>
    cases e2 : boolsD l with
    | none => rw [e2] at e; cases e
    | some bs =>
      rw [e2] at e
      cases e
      cases r with
      | cons r1 r2 =>
        cases r2
        obtain ⟨a, ys, rfl, hx, hr⟩ := r1.lstE
        obtain rfl := boolsD_ra e2 hr
        exact ⟨a, bs, rfl, hx, q _ rfl (.bl _)⟩
  · cases e
end
section
variable {X : Cx} {fl : List Fl} {a : Expr} {f : FE} {pos : Pos} {ta : TE}
end
section
variable {X : Cx} {fl : List Fl} {a b c : Expr} {f fa fb fc : FE} {pos : Pos}
end
section
variable {X : Cx} {fl : List Fl} {a b : Expr} {f g : FE} {pos : Pos}
theorem RsB.same {K : PySem.W.Frag} {G : Gh} {ow : Ow} {Hb H H' : Hp} {L : List Nat} {v : V} {d : D} (e : Same H H') (h : Rs K G.H0 ow Hb H (.B L) v d) : Rs K G.H0 ow Hb H' (.B L) v d := by
  rcases h with h | ⟨i, hi, a, xs, ds, h1, h2, h3, h4, h5⟩
  · exact .inl (RA.same e h)
  · exact .inr ⟨i, hi, a, xs, ds, h1, h2, h3, e _ _ h4, h5.same e⟩
end
end D3
namespace D3
open PySem PySem.Spec PyProof.Rows L2 My
theorem RTs.length {K : PySem.W.Frag} {H : Hp} : ∀ {v : List V} {d : List D} {as : List Addr}, RTs K H v d as → v.length = d.length
  | _, _, _, .nil => rfl
  | _, _, _, .cons _ q => by simp [RTs.length q]
section
variable {X : Cx} {fl : List Fl} {e a b c : Expr} {es rest : List Expr} {k : Kd} {f fa fb fc : FE} {ft gt : FT} {pos : Pos}
theorem de_dicT : DE X fl .T (.Dict [] [] pos) (dC (.dict [])) := PE.imp pe_dnewK fun σ H Q h => by
  obtain ⟨G, ow, δ, d, R, hf, q⟩ := h
  cases hf
  intro p hp
  exact q _ _ (same_new hp _) ⟨[p], .dic upd_same, List.nodup_cons.mpr ⟨List.not_mem_nil, .nil⟩, fun x hx => by rw [List.mem_singleton.mp hx]; exact hp⟩
theorem c_T_C (h : DE X fl .T e f) : DE X fl .C e f := de_cast h fun Hb H G ow σ δ v d R r => by
  obtain ⟨as, h1, h2, h3⟩ := r
  exact h1.ra h3
end
section
variable {K : PySem.W.Frag} {fl : List Fl}
end
section
variable {K : PySem.W.Frag} {H : Hp}
end
section
variable {X : Cx} {fl : List Fl} {e ke : Expr} {f fk : FE} {pos : Pos}
end
end D3
namespace D3
open PySem
def gIn : D → D → Option D := fun x y => match y with
  | .list l => if (SeqAt.shaped x && SeqAt.shaped (.list l)) = true then some (.bool (l.any fun z => PyData.eqv z x)) else none
  | .tuple l => if (SeqAt.shaped x && SeqAt.shaped (.tuple l)) = true then some (.bool (l.any fun z => PyData.eqv z x)) else none
  | _ => none
end D3
namespace D3
open PySem PySem.Spec PyProof.Rows L2 My
section
variable {X : Cx}
end
section
variable {X : Cx} {fl : List Fl} {e ke : Expr} {f fk : FE} {pos : Pos}
end
section
variable {X : Cx} {fl : List Fl} {a : Expr} {pos p p2 pos2 : Pos} {fa : FA}
end
end D3
namespace D3
open PySem PySem.Spec PyProof.Rows L2 My
section
variable {X : Cx} {pins : List (Addr × Obj)} {σ : L2.St} {H : Hp} {s : Shared}
end
section
variable {X : Cx} {K : PySem.W.Frag}
end
section
variable {X : Cx} {fl : List Fl} {es : List Expr} {pos : Pos}
end
section
variable {X : Cx} {fl : List Fl} {e : Expr} {f : FE}
end
section
variable {X : Cx} {fl : List Fl} {a : Expr} {f : FE} {pos p : Pos}
end
section
variable {X : Cx} {fl : List Fl} {a b : Expr} {fa fb : FE} {pos : Pos}
end
end D3
namespace D3
open PySem PySem.Spec PyProof.Rows L2 My
section
variable {X : Cx} {K : PySem.W.Frag}
def rInD (K : PySem.W.Frag) : R2 := fun x y H Q => ∃ da l, RdV K H x da ∧ ((RdV K H y (.list l) ∧ SeqAt.shaped (.list l) = true) ∨ (RdV K H y (.tuple l) ∧ SeqAt.shaped (.tuple l) = true)) ∧ SeqAt.shaped da = true ∧ Q (.bl (l.any fun z => PyData.eqv z da)) H
theorem in_room {A : Around} {l : List D} {d : D} (hu : A.units + 64 < cLine) (h : PyData.depthAll l + 1 ≤ 64) : A.units + 1 + min (PyData.depthAll l) d.depth < cLine := by
  have := Nat.min_le_left (PyData.depthAll l) d.depth
  omega
theorem shaped_list {l : List D} (h : SeqAt.shaped (.list l) = true) : PyData.canLayAll0 l = true ∧ PyData.depthAll l + 1 ≤ 64 := by
  unfold SeqAt.shaped at h
  rw [Bool.and_eq_true] at h
  refine ⟨by simpa [PyData.canLay0] using h.1, ?_⟩
  have := of_decide_eq_true h.2
  simpa [PyData.depth] using this
theorem shaped_tuple {l : List D} (h : SeqAt.shaped (.tuple l) = true) : PyData.canLayAll0 l = true ∧ PyData.depthAll l + 1 ≤ 64 := by
  unfold SeqAt.shaped at h
  rw [Bool.and_eq_true] at h
  refine ⟨by simpa [PyData.canLay0] using h.1, ?_⟩
  have := of_decide_eq_true h.2
  simpa [PyData.depth] using this
theorem op_inD (hu : X.A.units + 64 < cLine) : OpR X (compareOp .In) (rInD X.K) := by
  intro pins s σ H x y v u Q I rx ry h
  obtain ⟨da, l, ha, hb, sa, q⟩ := h
  obtain ⟨as, za⟩ := ha.reads I rx
  rcases hb with ⟨hb, sb⟩ | ⟨hb, sb⟩
  · obtain ⟨bs, zb⟩ := hb.reads I ry
    exact SeqAt.in_list_reads zb za (shaped_list sb).1 (SeqAt.canLay_of_shaped sa) (in_room hu (shaped_list sb).2) ⟨.bl _, H, I, rfl, q⟩
  · obtain ⟨bs, zb⟩ := hb.reads I ry
    exact SeqAt.in_tuple_reads zb za (shaped_tuple sb).1 (SeqAt.canLay_of_shaped sa) (in_room hu (shaped_tuple sb).2) ⟨.bl _, H, I, rfl, q⟩
theorem b_in : BrO K (rInD K) gIn := by
  intro H x y dx dy d Q rx ry e q
  cases dy with
  | list l =>
    by_cases z : (SeqAt.shaped dx && SeqAt.shaped (.list l)) = true
    · have e : (if (SeqAt.shaped dx && SeqAt.shaped (.list l)) = true then some (PyData.bool (l.any fun z => PyData.eqv z dx)) else none) = some d := e
      rw [if_pos z] at e
      cases e
      rw [Bool.and_eq_true] at z
      exact ⟨dx, l, rx.rd (SeqAt.canLay_of_shaped z.1), .inl ⟨ry.rd (SeqAt.canLay_of_shaped z.2), z.2⟩, z.1, q _ rfl (.bl _)⟩
    · have e : (if (SeqAt.shaped dx && SeqAt.shaped (.list l)) = true then some (PyData.bool (l.any fun z => PyData.eqv z dx)) else none) = some d := e
      rw [if_neg z] at e
      cases e
  | tuple l =>
    by_cases z : (SeqAt.shaped dx && SeqAt.shaped (.tuple l)) = true
    · have e : (if (SeqAt.shaped dx && SeqAt.shaped (.tuple l)) = true then some (PyData.bool (l.any fun z => PyData.eqv z dx)) else none) = some d := e
      rw [if_pos z] at e
      cases e
      rw [Bool.and_eq_true] at z
      exact ⟨dx, l, rx.rd (SeqAt.canLay_of_shaped z.1), .inr ⟨ry.rd (SeqAt.canLay_of_shaped z.2), z.2⟩, z.1, q _ rfl (.bl _)⟩
    · have e : (if (SeqAt.shaped dx && SeqAt.shaped (.tuple l)) = true then some (PyData.bool (l.any fun z => PyData.eqv z dx)) else none) = some d := e
      rw [if_neg z] at e
      cases e
  | _ => cases e
end
section
variable {X : Cx} {fl : List Fl} {a : Expr} {f : FE} {pos : Pos}
end
section
variable {X : Cx} {fl : List Fl} {e : Expr} {es : List Expr} {f : FE} {pos p : Pos} {x : Str} {n : Nat} {F : List D → Option D} {fa : FA}
end
section
variable {P : Program} {w : World} {K : PySem.W.Frag} {mg : Str → Option Value} {base : Heap} {x : Str} {ps N : List Str} {st : Stmt} {k n : Nat} {fs : FS} {fl : List Fl}
end
section
variable {P : Program} {w : World} {K : PySem.W.Frag} {mg : Str → Option Value} {base : Heap} {x : Str} {ps : List Str} {st : Stmt} {n : Nat}
end
end D3
namespace D3
open PySem PySem.Spec PyProof.Rows L2 My
section
variable {K : PySem.W.Frag} {fl flA : List Fl} {G : Gh} {ow : Ow} {σ σ' : St} {H H1 : Hp} {δ : DS} {T : List Nat}
end
section
variable {X : Cx} {fl flA : List Fl} {e : Expr} {es : List Expr} {f : FE} {fa : FA} {pos : Pos}
end
section
variable {X : Cx} {fl : List Fl} {pos : Pos}
end
end D3
namespace D3
open PySem
inductive Or where
  | o (x : Oc)
  | ex (c : Str) (v : D)
abbrev FX := DS → Option Or
def xOf (f : FS) : FX := fun δ => (f δ).bind fun o => some (.o o)
def xSeq (f g : FX) : FX := fun δ => (f δ).bind fun o => match o with
  | .o (.nx δ') => g δ'
  | o => some o
def xIf (c : FT) (f g : FX) : FX := fun δ => (c δ).bind fun b => if b = true then f δ else g δ
def xRaise (c : Str) (f : FE) : FX := fun δ => (f δ).bind fun d => some (.ex c d)
def fnX (p q : Nat) (b : FX) : List D → Option Or := fun ds => if ds.length = p then match b (ds.map (fun d => some (.d d)) ++ List.replicate q none) with
    | some (.o (.rt d)) => some (.o (.rt d))
    | some (.o (.nx _)) => some (.o (.rt .none))
    | some (.ex c d) => some (.ex c d)
    | _ => none
  else none
def sTry1 (F : List D → Option Or) (cs : List Str) (dd : List D) (fa : FA) : FS := fun δ => (fa δ).bind fun ds => match F (ds ++ dd) with
  | some (.o (.rt _)) => some (.nx δ)
  | some (.ex c _) => if c ∈ cs then some (.rt (.bool true)) else none
  | _ => none
end D3
namespace XC
open PySem
open Sem (wp)
structure Two (h : Heap) (C N I : Addr) (bmB : List Value) (mN mI : Str → Option Value) (B newId : String) : Prop where
  ex : ∃ (nm q : Str) (bs : List Value) (sn : List Str) (sub : List Value) (ab : Bool) (col : Option Bool) (dd : Option Addr) (k0 k1 k2 k3 k5 : Option Value),
    h.get? C = some (excClassObj nm q C N bs (.ref I :: bmB) true sn sub ab col dd k0 k1 k2 k3 k5 newId)
  nsC : h.Ns N mN
  up : ∃ (nm q : Str) (NI : Addr) (bs : List Value) (sn : List Str) (sub : List Value) (ab : Bool) (col : Option Bool) (dd : Option Addr) (k0 k1 k2 k3 k5 : Option Value) (nid : String),
    h.get? I = some (excClassObj nm q I NI bs bmB true sn sub ab col dd k0 k1 k2 k3 k5 nid) ∧ h.Ns NI mI
  mro : mroOf (.type B) = pure bmB
section
variable {M : Model} {A : Around} {E : Value → Shared → Prop} {h : Heap} {g : Array GenState} {d : Drawn} {t : Nat} {os : OsState}
variable {C N I : Addr} {bmB : List Value} {mN mI : Str → Option Value} {B newId initId : String}
theorem Two.keeps {h' : Heap} (T : Two h C N I bmB mN mI B newId) (k : ∀ b o, h.get? b = some o → h'.get? b = some o) : Two h' C N I bmB mN mI B newId := by
  obtain ⟨⟨nm, q, bs, sn, sub, ab, col, dd, k0, k1, k2, k3, k5, hC⟩, hn, ⟨jnm, jq, NI, jbs, jsn, jsub, jab, jcol, jdd, j0, j1, j2, j3, j5, nid, hI, hm⟩, hb⟩ := T
  exact ⟨⟨nm, q, bs, sn, sub, ab, col, dd, k0, k1, k2, k3, k5, k _ _ hC⟩, hn.keeps k, ⟨jnm, jq, NI, jbs, jsn, jsub, jab, jcol, jdd, j0, j1, j2, j3, j5, nid, k _ _ hI, hm.keeps k⟩, hb⟩
theorem Two.tail (T : Two h C N I bmB mN mI B newId) (hi : mI "__init__" = none) : OwnTail h bmB (.ref I :: bmB) := by
  obtain ⟨jnm, jq, NI, jbs, jsn, jsub, jab, jcol, jdd, j0, j1, j2, j3, j5, nid, hI, hm⟩ := T.up
  exact .own hI hm hi .base
theorem Two.look {name : Str} {y : Option Value} {Q : Option Value → Shared → Prop} (T : Two h C N I bmB mN mI B newId) (hB : typeLookup (.type B) name = pure y)
    (hq : Q (match mN name with
      | some v => some v
      | none => match mI name with
        | some v => some v
        | none => y) ⟨h, g, d, t, os⟩) : wpAny M A (typeLookup (.ref C) name) Q E ⟨h, g, d, t, os⟩ := by
  obtain ⟨⟨nm, q, bs, sn, sub, ab, col, dd, k0, k1, k2, k3, k5, hC⟩, hn, ⟨jnm, jq, NI, jbs, jsn, jsub, jab, jcol, jdd, j0, j1, j2, j3, j5, nid, hI, hm⟩, hb⟩ := T
  have rest : lookupAlong bmB name = pure y := by
    rw [typeLookup_eq, hb] at hB
    exact hB
  rw [typeLookup_eq]
  refine wpAny_bind (wpAny_mroOf_exc hC ?_)
  rw [lookupAlong_cons]
  refine wpAny_bind (wpAny_classOwn_exc hC hn ?_)
  cases e1 : mN name with
  | some v =>
    rw [e1] at hq
    exact wpAny_pure hq
  | none =>
    rw [e1] at hq
    show wpAny M A (lookupAlong (.ref I :: bmB) name) Q E _
    rw [lookupAlong_cons]
    refine wpAny_bind (wpAny_classOwn_cls hI hm ?_)
    cases e2 : mI name with
    | some v =>
      rw [e2] at hq
      exact wpAny_pure hq
    | none =>
      rw [e2] at hq
      show wpAny M A (lookupAlong bmB name) Q E _
      rw [rest]
      exact wpAny_pure hq
end
section
variable {prog : Program} {w : World} {A : Around} {E : Value → Shared → Prop} {h : Heap} {g : Array GenState} {d : Drawn} {t : Nat} {os : OsState}
variable {C N I : Addr} {bmB : List Value} {mN mI : Str → Option Value} {B newId initId : String}
theorem Two.make {rest : List Value} {fI : Addr} {oI : Obj} {Q : Fin → Shared → Prop} (T : Two h C N I bmB mN mI B newId) (F : ExcBaseFacts B newId initId bmB) (hi : mI "__init__" = none) (hN : mN "__init__" = some (.ref fI))
    (hf : h.get? fI = some oI) (hfc : oI.cls = .type "function") (hrest : rest.length ≤ sizeLine)
    (hq : ∀ h' e, h.objs.size ≤ e → Heap.MadeExcOf h h' e (.ref C) rest → wpAny (model prog w) A (call (.ref fI) (.ref e :: rest)) (fun r s' => r = .none ∧ Q (.done (.ret (.ref e))) s') E ⟨h', g, d, t, os⟩) :
    wpAny (model prog w) A (Builtin.«type.__call__» ⟨.ref C :: rest, []⟩) Q E ⟨h, g, d, t, os⟩ := by
  have TT := T.tail hi
  have T0 := T
  obtain ⟨⟨nm, q, bs, sn, sub, ab, col, dd, k0, k1, k2, k3, k5, hC⟩, hn, ⟨jnm, jq, NI, jbs, jsn, jsub, jab, jcol, jdd, j0, j1, j2, j3, j5, nid, hI, hm⟩, hb⟩ := T
  repeat (first
    | with_reducible refine wpAny_loadPart_at hC ?_
    | with_reducible refine wpAny_madeBy_exc hC ?_
    | wp_step)
  refine codeAny_call_builtin_code (Code.quiet_builtin _ F.quiet) (wpAny_check_new_subT F TT hC ?_)
  refine codeAny_exc_new_subT F TT hC ?_ hrest
  show wpAny _ _ _ _ _ _
  obtain ⟨h2, e2⟩ : ∃ h2, h2 = (h.push { cls := .type "tuple", data := .seq rest.toArray }).push { cls := .ref C, data := .fields #[.ref h.objs.size, .none, .none, .none, .bool false, .none] } := ⟨_, rfl⟩
  rw [← e2]
  have kp : ∀ b o, h.get? b = some o → h2.get? b = some o := fun b o z => by
    rw [e2]; exact Heap.get?_push_of_some _ (Heap.get?_push_of_some _ z)
  have hx : h2.get? (h.objs.size + 1) = some { cls := .ref C, data := .fields #[.ref h.objs.size, .none, .none, .none, .bool false, .none] } := by
    rw [e2]; heap_get
  have ht : h2.get? h.objs.size = some { cls := .type "tuple", data := .seq rest.toArray } := by
    rw [e2]; exact Heap.get?_push_of_some _ (Heap.get?_push_at rfl rfl)
  have hC2 := kp _ _ hC
  have cc : (Value.ref C :: .ref I :: bmB).contains (.ref C) = true := by simp
  unfold isInstance
  repeat (first
    | with_reducible refine wpAny_loadPart_at hx ?_
    | (with_reducible refine wpAny_isSubtype_exc hC2 ?_; rw [cc])
    | wp_step)
  show wpAny _ _ (typeLookup (.ref C) _) _ _ _
  refine (T0.keeps kp).look F.init.lookup ?_
  rw [hN]
  refine wpAny_holding (wpAny_bind ?_)
  unfold bindSpecial
  refine wpAny_bind (wpAny_typeOf (T := "function") ⟨_, kp _ _ hf, hfc⟩ ?_)
  rw [if_pos (by decide)]
  refine wpAny_pure (wpAny_bind (wpAny_mono (hq h2 (h.objs.size + 1) (Nat.le_succ _) ⟨kp, Heap.get?_none_of_le (Nat.le_succ _), h.objs.size, hx, Heap.get?_none_of_le (Nat.le_refl _), ht⟩) (fun r s' hr => ?_) fun _ _ z => z))
  obtain ⟨rfl, hQ⟩ := hr
  wp_walk
  exact hQ
end
end XC
namespace XC
open PySem Builtin Builtin.ObjectAttr
open Sem (wp)
section
variable {prog : Program} {w : World} {A : Around} {E : Value → Shared → Prop} {h : Heap} {g : Array GenState} {d : Drawn} {t : Nat} {os : OsState}
variable {C N I x : Addr} {bmB : List Value} {mN mI : Str → Option Value} {B newId initId sa owner : String} {name : Str} {v : Value}
theorem Two.store0 {tk : Tok} {o : Obj} {Q : Fin → Shared → Prop} (T : Two h C N I bmB mN mI B newId) (SF : StoreFacts B bmB sa owner) (n1 : mN name = none) (n2 : mI name = none) (hB : typeLookup (.type B) name = pure none)
    (hx : h.get? x = some o) (hc : o.cls = .ref C) (hnc : ∀ c, o.data ≠ .cls c) (hdn : o.dict = none)
    (hq : ∀ h' tk' dx, h'.get? x = some { o with dict := some dx } → h.objs.size ≤ dx → dx ≠ x → h'.Ns1 dx (fun y => if y = name then some v else none) → (∀ b u, b ≠ x → h.get? b = some u → h'.get? b = some u) → Q (.done (.ret .none)) ⟨h', g, d, tk', os⟩) :
    wpAny (model prog w) A (Builtin.«object.__setattr__» ⟨[.ref x, .str name tk, v], []⟩) Q E ⟨h, g, d, t, os⟩ := by
  have T0 := T
  obtain ⟨⟨nm, q, bs, sn, sub, ab, col, dd, k0, k1, k2, k3, k5, hC⟩, hn, ⟨jnm, jq, NI, jbs, jsn, jsub, jab, jcol, jdd, j0, j1, j2, j3, j5, nid, hI, hm⟩, hb⟩ := T
  have pass : refuseLoop (.ref x) "__setattr__" (.ref C :: .ref I :: bmB) = pure () := by
    rw [refuseLoop_ref, refuseLoop_ref]; exact SF.passes _
  unfold Builtin.«object.__setattr__»
  repeat (first
    | rw [refuse_eq]
    | rw [pass]
    | (with_reducible refine wpAny_loadPart_at hx ?_; rw [hc])
    | with_reducible refine wpAny_mroOf_exc hC ?_
    | (with_reducible refine T0.look hB ?_; rw [n1, n2])
    | wp_step)
  rw [hdn, if_neg (by simp [typeHasDict])]
  split
  · rename_i z
    cases z
  split
  · rename_i c z
    exact absurd z (hnc c)
  obtain ⟨h1, e1⟩ : ∃ h1, h1 = h.push { cls := .type "dict", data := .dict #[] } := ⟨_, rfl⟩
  have x1 : h1.get? x = some o := by rw [e1]; exact Heap.get?_push_of_some _ hx
  have ne : x ≠ h.objs.size := Nat.ne_of_lt (Heap.lt_size hx)
  refine wpAny_bind (wpAny_alloc' ?_)
  rw [← e1]
  refine wpAny_bind (wpAny_update' x1 (wpAny_pure ?_))
  obtain ⟨h2, e2⟩ : ∃ h2, h2 = h1.update x fun o => { cls := o.cls, dict := some h.objs.size, data := o.data, slots := o.slots } := ⟨_, rfl⟩
  rw [← e2]
  have d2 : h2.get? h.objs.size = some { cls := .type "dict", data := .dict #[] } := by
    rw [e2, e1]
    exact (Heap.get?_update_ne _ _ _ _ ne.symm).trans (Heap.get?_push_at rfl rfl)
  have x2 : h2.get? x = some { cls := o.cls, dict := some h.objs.size, data := o.data, slots := o.slots } := by
    rw [e2]
    refine Heap.get?_update_self _ x1 ?_
    have fr := (Heap.get?_some_iff.mp hx).2
    obtain ⟨oc, od, odt, osl⟩ := o
    cases odt <;> first | rfl | exact fr
  have k2 : ∀ b u, b ≠ x → h.get? b = some u → h2.get? b = some u := fun b u z q => by
    rw [e2, e1]
    exact (Heap.get?_update_ne _ _ _ _ z).trans (Heap.get?_push_of_some _ q)
  have n0 : h2.Ns h.objs.size (fun _ => none) := ⟨_, #[], _, d2, rfl, fun e z => absurd z (by simp), fun _ => rfl⟩
  show wpAny _ _ (storeInDict h.objs.size (.str name tk) name v) _ _ _
  unfold storeInDict newKeyGuard
  refine wpAny_bind (wpAny_pure (wpAny_bind (wpAny_nsSet1 (Heap.Ns1.of_empty n0) fun h3 n3 hs => ?_)))
  obtain ⟨oD, esD, epD, a1, a2, a3⟩ := n3.count (Within.cons name v Within.nil)
  refine wpAny_bind (wpAny_lookBehind a1 (by rw [a2]; exact pastItsLine_dict (Nat.le_trans a3 (show 1 ≤ sizeLine + 1 by decide))) ?_)
  wp_walk
  exact hq h3 _ h.objs.size ((hs.2 x ne).trans x2) (Nat.le_refl _) ne.symm n3 fun b u z q => (hs.2 b (Nat.ne_of_lt (Heap.lt_size q))).trans (k2 b u z q)
theorem Two.set0 {o : Obj} {Q : Unit → Shared → Prop} (T : Two h C N I bmB mN mI B newId) (SF : StoreFacts B bmB sa owner) (s1 : mN "__setattr__" = none) (s2 : mI "__setattr__" = none) (n1 : mN name = none) (n2 : mI name = none) (hB : typeLookup (.type B) name = pure none)
    (hx : h.get? x = some o) (hc : o.cls = .ref C) (hnc : ∀ c, o.data ≠ .cls c) (hdn : o.dict = none)
    (hq : ∀ h' tk' dx, h'.get? x = some { o with dict := some dx } → h.objs.size ≤ dx → dx ≠ x → h'.Ns1 dx (fun y => if y = name then some v else none) → (∀ b u, b ≠ x → h.get? b = some u → h'.get? b = some u) → Q () ⟨h', g, d, tk', os⟩) :
    wpAny (model prog w) A (setAttr (.ref x) name v) Q E ⟨h, g, d, t, os⟩ := by
  have T0 := T
  obtain ⟨⟨nm, q, bs, sn, sub, ab, col, dd, k0, k1, k2, k3, k5, hC⟩, hn, ⟨jnm, jq, NI, jbs, jsn, jsub, jab, jcol, jdd, j0, j1, j2, j3, j5, nid, hI, hm⟩, hb⟩ := T
  have f3 := SF.slot.bind (.ref x)
  have own : (Value.ref C :: .ref I :: bmB).contains (.type owner) = true := by
    rw [List.contains_cons, List.contains_cons, SF.hasOwner, Bool.or_true, Bool.or_true]
  unfold setAttr callSpecial? specialOf
  repeat (any_goals (first
    | assumption
    | (with_reducible refine wpAny_loadPart_at hx ?_; rw [hc])
    | (with_reducible refine T0.look SF.slot.lookup ?_; rw [s1, s2])
    | wp_step))
  refine codeAny_call_builtin SF.slot.plain SF.entry ?_
  have ck : ∀ {A : Around} {E : Value → Shared → Prop} (tk : Tok) (Q : Unit → Shared → Prop) (t : Nat), Q () ⟨h, g, d, t, os⟩ → wpAny (model prog w) A (checkBuiltinCall sa ⟨[.ref x, .str name tk, v], []⟩) Q E ⟨h, g, d, t, os⟩ := by
    intro A E tk Q t z
    have ha := SF.args (.ref x) (.str name tk) v
    simp only [checkBuiltinCall, SF.kind, SF.split]
    refine wpAny_bind ?_
    unfold isInstance
    repeat (first
      | (with_reducible refine wpAny_loadPart_at hx ?_; rw [hc])
      | (with_reducible refine wpAny_isSubtype_exc hC ?_; rw [own])
      | wp_step)
    cases sg : Manifest.signature? sa with
    | none => exact wpAny_pure z
    | some sig =>
      simp only [argsOk, sg] at ha
      have ha : Bind.checkArgs sa sig ⟨[.ref x, .str name tk, v], []⟩ = pure () := ha
      show wpAny _ _ (Bind.checkArgs sa sig ⟨[.ref x, .str name tk, v], []⟩) _ _ _
      rw [ha]
      exact wpAny_pure z
  refine ck _ _ _ (T0.store0 SF n1 n2 hB hx hc hnc hdn fun h' tk' dx z1 z2 z3 z4 z5 => ?_)
  repeat (any_goals (first | assumption | wp_step))
  exact hq h' tk' dx z1 z2 z3 z4 z5
end
end XC
namespace XC
open PySem PySem.Spec PyProof.Rows L2 My
section
variable {P : Program} {w : World} {K : PySem.W.Frag} {mg : Str → Option Value} {base : Heap}
variable {C N I x : Addr} {bmB : List Value} {mN mI : Str → Option Value} {B newId initId sa owner : String}
theorem init_run {k : Nat} {fI : Addr} {name qual f : Str} {params : Arguments} {scope : Scope} {dV kV doc pm cdv ct oc : Value} {an od : Option Addr} {osl : Array (Option Value)} {p1 p2 p3 p4 : Pos}
    (lk : K.lookup fI = some ⟨oc, od, .func (PySem.W.fnOf name qual params [.Assign [.Attribute (.Name "self" p1) f p2] (.Name f p3) p4] scope dV kV doc pm an cdv ct), osl⟩) (hcd : PySem.W.codeIn K cdv qual = true)
    (S : FnScope ["self", f] ["self", f] scope) (l1 : scope.names.lookup ("self" : Str) = some NameKind.local) (l2 : scope.names.lookup f = some .local) (fs : ("self" : Str) ≠ f) (fd : (f == ("__debug__" : Str)) = false) (fc : (f == ("__classdict__" : Str)) = false)
    (hb : Binds K (PySem.W.fnOf name qual params [.Assign [.Attribute (.Name "self" p1) f p2] (.Name f p3) p4] scope dV kV doc pm an cdv ct) ["self", f] [])
    {A : Around} {outer : List Env} {s : Shared} {H : Hp} (hr : Room (k + 1) A) (e0 : Env0 P w K mg base A outer s H)
    (T : Two s.heap C N I bmB mN mI B newId) (SF : StoreFacts B bmB sa owner) (s1 : mN "__setattr__" = none) (s2 : mI "__setattr__" = none) (n1 : mN f = none) (n2 : mI f = none) (hB : typeLookup (.type B) f = pure none)
    {o : Obj} (hx : s.heap.get? x = some o) (hc : o.cls = .ref C) (hnc : ∀ c, o.data ≠ .cls c) (hdn : o.dict = none) {v : V} {u : Value} (rv : RelV v u) {R : Result → Shared → Prop}
    (hq : ∀ h' tk' dx, h'.get? x = some { o with dict := some dx } → s.heap.objs.size ≤ dx → dx ≠ x → h'.Ns1 dx (fun y => if y = f then some u else none) → (∀ b ob, b ≠ x → s.heap.get? b = some ob → h'.get? b = some ob) → R (.ok (.ret .none)) { s with heap := h', toks := tk' }) :
    codeAny (model P w) A (.call (.ref fI) ⟨[.ref x, u], []⟩) R s := by
  have KX : K.In s.heap := e0.mod.kin.keeps fun b o e => (e0.bs b o e).1
  have lim : s.heap.NoLimit := e0.mod.nolimit.keeps fun b o e => (e0.bs b o e).1
  have kinds : ∀ y ∈ (["self", f] : List Str).zip [Value.ref x, u], scope.names.lookup y.1 = some .local ∨ (scope.names.lookup y.1 = some .cell ∧ ((cellsFrom (s.heap.objs.size + 1) scope.names []).lookup y.1).isSome = true) := by
    rintro ⟨n, z⟩ hy
    rcases S.par n (List.of_mem_zip hy).1 with q | q
    · exact .inl q
    · exact .inr ⟨q, PySem.W.cellsFrom_some _ _ _ (.inl q)⟩
  refine codeAny_call_function hr.depth (KX _ _ lk) rfl S.co S.gen rfl (PySem.W.codeRec_of KX hcd) (hb s [.ref x, u] KX rfl _ _ _ _ ?_)
  refine wpAny_newFunctionEnv_cells S.kind kinds fun env he s3 y => ?_
  subst he
  refine ⟨lim.keeps y.toInCall.keep, codeAny_func ?_⟩
  obtain ⟨h3, tk3, rfl, kp⟩ := y.done
  have ns := y.toInCall.ns
  have m1 : bindL (envOfC qual scope s.heap.objs.size fI cdv).kindOf ((["self", f] : List Str).zip [Value.ref x, u]) (fun _ => none) "self" = some (.ref x) :=
    bindL_get S.nd (i := 0) rfl rfl l1
  have m2 : bindL (envOfC qual scope s.heap.objs.size fI cdv).kindOf ((["self", f] : List Str).zip [Value.ref x, u]) (fun _ => none) f = some u :=
    bindL_get S.nd (i := 1) rfl rfl l2
  refine wpAny_execs_cons (plainObj_wpAny_Assign_Attribute (wpAny_Name (wpAny_loadName_local S.kind l2 ns m2 (wpAny_Name (wpAny_loadName_local S.kind l1 ns m1 ?_))) fd))
  refine (T.keeps kp).set0 SF s1 s2 n1 n2 hB (kp _ _ hx) hc hnc hdn fun h' tk' dx z1 z2 z3 z4 z5 => ?_
  refine wpAny_execs_nil ?_
  exact hq h' tk' dx z1 (Nat.le_trans (Nat.le_trans y.toInCall.fresh (Nat.le_of_lt ns.lt)) z2) z3 z4 fun b ob e q => z5 b ob e (kp _ _ q)
end
end XC
namespace XC
open PySem PySem.Spec PyProof.Rows L2 My
structure Fly (h : Heap) (a C dx : Addr) (f : Str) (u : Value) (tb : Option Addr) : Prop where
  obj : ∃ vs sl, h.get? a = some ⟨.ref C, some dx, .fields vs, sl⟩ ∧ vs[1]? = some (tb.elim .none .ref)
  dic : h.Ns1 dx (fun y => if y = f then some u else none)
  ne : dx ≠ a
  hd : ∀ T, tb = some T → T ≠ a ∧ T ≠ dx ∧ ∃ oT ts, h.get? T = some oT ∧ oT.data = .fields ts ∧ ts[3]? = some .none
section
variable {M : Model} {A : Around} {E : Value → Shared → Prop} {s : Shared}
theorem entry_new {base : Heap} {env : Env} {outer : List Env} {L a : Addr} {oe : Obj} {vs : Array Value} {head : Value} {hn : Bool} {Q : Unit → Shared → Prop}
    (hfr : A.frames = some (env :: outer)) (hl : s.heap.FunFrames base (env :: outer)) (hf : env.frame = some L) (he : s.heap.get? a = some oe) (hd : oe.data = .fields vs) (hsz : 1 < vs.size)
    (h : ∀ h' T, s.heap.objs.size ≤ T → h'.get? a = some (oe.mapFields (·.setIfInBounds 1 (.ref T))) → (∃ oT ts, h'.get? T = some oT ∧ oT.data = .fields ts ∧ ts[3]? = some .none) →
      (∀ b o, b ≠ a → b ∉ frs (env :: outer) → s.heap.get? b = some o → h'.get? b = some o) → (∀ b o, b ≠ a → s.heap.get? b = some o → ∃ sl, h'.get? b = some { o with slots := sl }) → Q () { s with heap := h' }) :
    wpAny M A (do let z ← frameOf env; let pl ← entryPlaceOf L hn; let b ← EntryCells.newEntry head z .none (rawInt L) .none pl; setField (.ref a) 1 b) (fun _ s' => wpAny M A (setFlight (.ref a) none) Q E s') E s := by
  have nf : a ∉ (env :: outer).filterMap (·.frame) := fun z => by
    obtain ⟨_, o, ho, q⟩ := hl.mem z
    rw [he] at ho
    cases ho
    exact q vs hd
  refine wpAny_bind (wpAny_frameOf_fun hfr hl hf fun h1 hs => ?_)
  refine wpAny_bind (wpAny_entryPlaceOf fun pl hpl => ?_)
  unfold EntryCells.newEntry newFields
  refine wpAny_bind (wpAny_newObj_type ?_ (hpl.sizeOk5 _ _ _ _ _))
  obtain ⟨ob, eob⟩ : ∃ ob : Obj, ob = { cls := .type "traceback", dict := none, data := .fields ([head, .ref L, .none, rawInt L, .none] ++ (if pl.isEmpty then List.replicate 6 Value.none else pl)).toArray } := ⟨_, rfl⟩
  rw [← eob]
  have od : ob.data = .fields ([head, .ref L, .none, rawInt L, .none] ++ (if pl.isEmpty then List.replicate 6 Value.none else pl)).toArray := by rw [eob]
  have ofr : ob.isFreed = false := by rw [eob]; rfl
  have a1 : h1.get? a = some oe := (hs.2.1 a nf).trans he
  have a2 : (h1.push ob).get? a = some oe := Heap.get?_push_of_some _ a1
  refine wpAny_setField a2 hd hsz ?_
  have sz : h1.objs.size = s.heap.objs.size := hs.1
  have ne : h1.objs.size ≠ a := Nat.ne_of_gt (Heap.lt_size a1)
  have d3 := Obj.data_mapFields hd (·.setIfInBounds 1 (Value.ref h1.objs.size))
  obtain ⟨h3, e3⟩ : ∃ h3, h3 = (h1.push ob).update a (Obj.mapFields (·.setIfInBounds 1 (Value.ref h1.objs.size))) := ⟨_, rfl⟩
  rw [← e3]
  have a3 : h3.get? a = some (oe.mapFields (·.setIfInBounds 1 (.ref h1.objs.size))) := by
    rw [e3]; exact Heap.get?_update_self _ a2 (Obj.isFreed_of_fields d3)
  have t3 : h3.get? h1.objs.size = some ob := by
    rw [e3]; exact (Heap.get?_update_other _ _ ne.symm).trans (Heap.get?_push_size h1 ofr)
  have o3 : ∀ b, b ≠ a → b ≠ h1.objs.size → h3.get? b = h1.get? b := fun b z1 z2 => by
    rw [e3, Heap.get?_update_other _ _ (Ne.symm z1)]
    exact Heap.get?_push_ne _ _ _ z2
  unfold setFlight
  refine wpAny_bind (wpAny_field a3 d3 (x := .ref h1.objs.size) (by simp [hsz]) ?_)
  rw [if_pos (show (Value.ref h1.objs.size != Value.none) = true by simp)]
  have d4 := Obj.data_mapFields od (·.setIfInBounds 3 ((none : Option Addr).elim Value.none fun f => rawInt f))
  refine wpAny_setField t3 od (by simp only [List.size_toArray, List.length_append, List.length_cons, List.length_nil] <;> omega) ?_
  obtain ⟨h4, e4⟩ : ∃ h4, h4 = h3.update h1.objs.size (Obj.mapFields (·.setIfInBounds 3 ((none : Option Addr).elim Value.none fun f => rawInt f))) := ⟨_, rfl⟩
  rw [← e4]
  have o4 : ∀ b, b ≠ h1.objs.size → h4.get? b = h3.get? b := fun b z => by rw [e4]; exact Heap.get?_update_other _ _ (Ne.symm z)
  refine h h4 h1.objs.size (Nat.le_of_eq sz.symm) ((o4 a (Ne.symm ne)).trans a3) ⟨_, _, by rw [e4]; exact Heap.get?_update_self _ t3 (Obj.isFreed_of_fields d4), d4, ?_⟩ (fun b o z1 z2 q => ?_) fun b o z1 q => ?_
  · rcases hpl with rfl | ⟨_, _, _, _, _, _, _, rfl⟩ <;> simp
  · have q1 : h1.get? b = some o := (hs.2.1 b z2).trans q
    have z3 : b ≠ h1.objs.size := Nat.ne_of_lt (Heap.lt_size q1)
    exact (o4 b z3).trans ((o3 b z1 z3).trans q1)
  · obtain ⟨sl, q1⟩ := hs.2.2 b o q
    have z3 : b ≠ h1.objs.size := Nat.ne_of_lt (Heap.lt_size q1)
    exact ⟨sl, (o4 b z3).trans ((o3 b z1 z3).trans q1)⟩
end
end XC
namespace XC
open PySem PySem.Spec PyProof.Rows L2 My
section
variable {M : Model} {A : Around} {E : Value → Shared → Prop} {s : Shared}
theorem note_fly {base : Heap} {env : Env} {outer : List Env} {L a C dx : Addr} {f : Str} {u : Value} {tb : Option Addr} {Q : Unit → Shared → Prop}
    (hfr : A.frames = some (env :: outer)) (hl : s.heap.FunFrames base (env :: outer)) (hf : env.frame = some L) (F : Fly s.heap a C dx f u tb) (nd : dx ∉ frs (env :: outer))
    (h : ∀ h' T, s.heap.objs.size ≤ T → Fly h' a C dx f u (some T) → (∀ b o, b ≠ a → tb ≠ some b → b ∉ frs (env :: outer) → s.heap.get? b = some o → h'.get? b = some o) →
      (∀ b o, b ≠ a → tb ≠ some b → s.heap.get? b = some o → ∃ sl, h'.get? b = some { o with slots := sl }) → Q () { s with heap := h' }) :
    wpAny M A (noteFrame (.ref a) env) (fun _ s' => wpAny M A (setFlight (.ref a) none) Q E s') E s := by
  obtain ⟨⟨vs, sl, ea, e1⟩, hdic, hne, hhd⟩ := F
  have hsz : 1 < vs.size := (Array.getElem?_eq_some_iff.mp e1).1
  have dlt : dx < s.heap.objs.size := by
    obtain ⟨o, _, _, q, _⟩ := hdic
    exact Heap.lt_size q
  unfold noteFrame
  simp only [hf]
  cases tb with
  | none =>
    refine wpAny_bind (wpAny_field ea rfl e1 ?_)
    rw [if_neg (by decide)]
    refine entry_new hfr hl hf ea rfl hsz fun h' T hT q1 q2 q3 q4 => h h' T hT ⟨⟨_, sl, q1, by simp [hsz]⟩, ?_, hne, fun T' z => ?_⟩ (fun b o z1 _ z2 z3 => q3 b o z1 z2 z3) fun b o z1 _ z2 => q4 b o z1 z2
    · obtain ⟨o, es, ep, r1, r2⟩ := hdic
      exact ⟨o, es, ep, q3 dx o hne nd r1, r2⟩
    · cases z
      refine ⟨fun z => ?_, fun z => ?_, q2⟩
      · rw [z] at hT
        exact absurd (Heap.lt_size ea) (Nat.not_lt.mpr hT)
      · rw [z] at hT
        exact absurd dlt (Nat.not_lt.mpr hT)
  | some T =>
    obtain ⟨Ta, Td, oT, ts, t1, t2, t3⟩ := hhd T rfl
    refine wpAny_bind (wpAny_field ea rfl e1 ?_)
    rw [if_pos (show ((Option.elim (some T) Value.none Value.ref) != Value.none) = true by simp)]
    refine wpAny_bind (wpAny_field t1 t2 t3 ?_)
    rw [if_neg (show ¬ ((Value.none == rawInt L) = true) by simp [rawInt])]
    refine wpAny_bind (wpAny_setField t1 t2 (Array.getElem?_eq_some_iff.mp t3).1 ?_)
    obtain ⟨h2, e2⟩ : ∃ h2, h2 = s.heap.update T (Obj.mapFields (·.setIfInBounds 3 Value.none)) := ⟨_, rfl⟩
    rw [← e2]
    have o2 : ∀ b, b ≠ T → h2.get? b = s.heap.get? b := fun b z => by rw [e2]; exact Heap.get?_update_other _ _ (Ne.symm z)
    have sz2 : h2.objs.size = s.heap.objs.size := by rw [e2]; exact Heap.size_update ..
    have nT : T ∉ frs (env :: outer) := fun z => by
      obtain ⟨_, o, ho, q⟩ := hl.mem z
      rw [t1] at ho
      cases ho
      exact q ts t2
    have hl2 : h2.FunFrames base (env :: outer) := hl.of_keeps fun b o hb q => ⟨o, (o2 b fun z => by rw [z, t1] at hb; cases hb; exact q ts t2).trans hb, rfl⟩
    refine entry_new (s := { s with heap := h2 }) hfr hl2 hf ((o2 a (Ne.symm Ta)).trans ea) rfl hsz fun h' T' hT q1 q2 q3 q4 => h h' T' (by rw [← sz2]; exact hT) ⟨⟨_, sl, q1, by simp [hsz]⟩, ?_, hne, fun T2 z => ?_⟩
      (fun b o z1 z0 z2 z3 => q3 b o z1 z2 ((o2 b fun z => z0 (by rw [z])).trans z3)) fun b o z1 z0 z2 => q4 b o z1 ((o2 b fun z => z0 (by rw [z])).trans z2)
    · obtain ⟨o, es, ep, r1, r2⟩ := hdic
      exact ⟨o, es, ep, q3 dx o hne nd ((o2 dx (Ne.symm Td)).trans r1), r2⟩
    · cases z
      have hT : s.heap.objs.size ≤ T' := by rw [← sz2]; exact hT
      refine ⟨fun z => ?_, fun z => ?_, q2⟩
      · rw [z] at hT
        exact absurd (Heap.lt_size ea) (Nat.not_lt.mpr hT)
      · rw [z] at hT
        exact absurd dlt (Nat.not_lt.mpr hT)
end
end XC
namespace XC
open PySem PySem.Spec PyProof.Rows L2 My
structure Loose (X : Cx) (pins : List (Addr × Obj)) (H : Hp) (b : Addr) : Prop where
  new : X.s₀.heap.objs.size ≤ b
  loc : b ≠ X.env.locals
  cel : ∀ x c, X.env.cells.lookup x = some c → c ≠ b
  pin : ∀ p ∈ X.pn ++ pins, p.1 ≠ b
  out : H b = none
section
variable {X : Cx} {pins : List (Addr × Obj)} {σ : L2.St} {H H' : Hp} {s : Shared}
theorem Loose.of (I : Inv X pins σ H s) {b : Addr} (hb : s.heap.objs.size ≤ b) (hH : H' b = none) : Loose X pins H' b := by
  refine ⟨Nat.le_trans I.sz hb, fun z => ?_, fun x c e z => ?_, fun p hp z => ?_, hH⟩
  · rw [z] at hb; exact absurd I.lt (Nat.not_lt.mpr hb)
  · obtain ⟨v, o, ho, _⟩ := I.cell x c e
    rw [z] at ho
    exact absurd (Heap.lt_size ho) (Nat.not_lt.mpr hb)
  · have := (I.pin p hp).1
    rw [z] at this
    exact absurd (Heap.lt_size this) (Nat.not_lt.mpr hb)
theorem Loose.nofs (I : Inv X pins σ H s) {b : Addr} (L : Loose X pins H' b) : b ∉ X.env.locals :: X.fs := fun z => by
  rcases List.mem_cons.mp z with e | e
  · exact L.loc e
  · obtain ⟨_, o, ho, _⟩ := I.ok.funs.mem e
    exact absurd (Heap.lt_size ho) (Nat.not_lt.mpr L.new)
theorem inv_note {M : Model} {A : Around} {E : Value → Shared → Prop} {a C dx : Addr} {f : Str} {u : Value} {tb : Option Addr} {Q : Unit → Shared → Prop} (hA : A.frames = X.A.frames) (I : Inv X pins σ H s) (hst : X.stack = X.env :: X.outer) (hfr : X.env.frame = some X.env.locals)
    (F : Fly s.heap a C dx f u tb) (La : Loose X pins H a) (Ld : Loose X pins H dx) (Lt : ∀ T, tb = some T → Loose X pins H T)
    (h : ∀ s' T, Inv X pins σ H s' → Fly s'.heap a C dx f u (some T) → s'.os = s.os → s'.gens = s.gens → Loose X pins H T → Q () s') :
    wpAny M A (noteFrame (.ref a) X.env) (fun _ s' => wpAny M A (setFlight (.ref a) none) Q E s') E s := by
  have fl := I.stack
  rw [hst] at fl
  have fe : frs (X.env :: X.outer) = X.env.locals :: X.fs := by unfold frs; rw [List.filterMap_cons, hfr]; rfl
  refine note_fly (hA.trans (I.ok.frames.trans (by rw [hst]))) fl hfr F (by rw [fe]; exact Ld.nofs I) fun h' T hT F' k1 k2 => ?_
  have LT : Loose X pins H T := Loose.of I hT (I.hok.fresh hT)
  refine h _ T ?_ F' rfl rfl LT
  rw [fe] at k1
  have ex : ∀ b, H b ≠ none → b ≠ a ∧ tb ≠ some b ∧ b ∉ X.env.locals :: X.fs := fun b hb => by
    refine ⟨fun z => hb (by rw [z]; exact La.out), fun z => hb (Lt b z).out, fun z => hb ?_⟩
    exact I.stkFree b (by rw [hst, fe]; exact z)
  obtain ⟨m, ⟨o, es, ep, ho, r⟩, _⟩ := id I.loc
  obtain ⟨sl, hL⟩ := k2 _ o (Ne.symm La.loc) (fun z => (Lt _ z).loc rfl) ho
  refine I.step (g' := s.gens) (d' := s.drawn) (t' := s.toks) (ch := a :: tb.toList) (fun b hb => ?_) (fun b o z1 z2 z3 q _ => k1 b o (fun z => z3 (by rw [z]; exact List.mem_cons_self)) (fun z => z3 (List.mem_cons_of_mem _ (by rw [z]; exact List.mem_singleton.mpr rfl))) (fun z => (List.mem_cons.mp z).elim z1 z2) q)
    (fun b o z1 z2 z3 q _ => k2 b o (fun z => z3 (by rw [z]; exact List.mem_cons_self)) (fun z => z3 (List.mem_cons_of_mem _ (by rw [z]; exact List.mem_singleton.mpr rfl))) q) (fun _ _ _ _ z => z)
    (fun b o z3 q => let ⟨_, w⟩ := k2 b o (fun z => z3 (by rw [z]; exact List.mem_cons_self)) (fun z => z3 (List.mem_cons_of_mem _ (by rw [z]; exact List.mem_singleton.mpr rfl))) q; ⟨_, w⟩) (fun _ _ e => e) (fun _ _ _ e => e) (fun b ps e => ⟨#[], by rw [e]; simp⟩) (fun m' hm => ?_) (fun b w e => ?_) I.bare
  · rcases List.mem_cons.mp hb with e | e
    · rw [e]; exact ⟨.inr La.new, La.loc, La.cel, La.pin⟩
    · cases tb with
      | none => cases e
      | some T0 =>
        have e : b = T0 := by simpa using e
        have := Lt T0 rfl
        rw [e]; exact ⟨.inr this.new, this.loc, this.cel, this.pin⟩
  · obtain ⟨o', es', ep', ho', r'⟩ := hm
    rw [ho] at ho'; cases ho'
    exact ⟨_, es', ep', hL, r'⟩
  · refine (I.hok b w e).stay (fun c v hc q => ?_) (fun _ q => q) fun _ _ q => q
    obtain ⟨z1, z2, z3⟩ := ex c (by
      rcases hc with z | z
      · rw [z, e]; simp
      · rw [z]; simp)
    exact k1 c v z1 z2 z3 q
end
end XC
namespace XC
open PySem PySem.Spec PyProof.Rows L2 My
section
variable {prog : Program} {w : World} {A : Around} {E : Value → Shared → Prop} {h : Heap} {g : Array GenState} {d : Drawn} {t : Nat} {os : OsState}
variable {C N I : Addr} {bmB : List Value} {mN mI : Str → Option Value} {B newId initId : String}
theorem Two.call {rest : List Value} {fI : Addr} {oI : Obj} {Q : Value → Shared → Prop} (T : Two h C N I bmB mN mI B newId) (F : ExcBaseFacts B newId initId bmB) (hi : mI "__init__" = none) (hN : mN "__init__" = some (.ref fI))
    (hf : h.get? fI = some oI) (hfc : oI.cls = .type "function") (hrest : rest.length ≤ sizeLine)
    (hq : ∀ h' e, h.objs.size ≤ e → Heap.MadeExcOf h h' e (.ref C) rest → wpAny (model prog w) (A.under (.builtin "type.__call__" ⟨.ref C :: rest, []⟩)) (call (.ref fI) (.ref e :: rest)) (fun r s' => r = .none ∧ Q (.ref e) s') E ⟨h', g, d, t, os⟩) :
    wpAny (model prog w) A (call (.ref C) rest) Q E ⟨h, g, d, t, os⟩ := by
  have T0 := T
  obtain ⟨⟨nm, q, bs, sn, sub, ab, col, dd, k0, k1, k2, k3, k5, hC⟩, hn, ⟨jnm, jq, NI, jbs, jsn, jsub, jab, jcol, jdd, j0, j1, j2, j3, j5, nid, hI, hm⟩, hb⟩ := T
  have g1 := tc_lookup
  have g2 := tc_bind (.ref C)
  have ty : (⟨h, g, d, t, os⟩ : Shared).TypeIs (.ref C) "type" := ⟨_, hC, rfl⟩
  refine wpAny_call (codeAny_of_tree ?_)
  show wpAny _ _ (callAny (.ref C) _) _ _ _
  repeat (any_goals (first
    | assumption
    | with_reducible refine wpAny_loadPart_at hC ?_
    | wp_step))
  refine ⟨rfl, ?_⟩
  refine codeAny_call_builtin_at (Code.quiet_builtin _ (by decide +kernel)) entry_typeCall (wpAny_check_type_call_sub hC (T0.make F hi hN hf hfc hrest fun h' e hz hm => ?_))
  exact hq h' e hz hm
theorem raise_made {M : Model} {A : Around} {s : Shared} {env : Env} {x : Sem Value} {Q : Flow → Shared → Prop} (hh : A.handled = none) (hbase : bmB.contains (.type "BaseException") = true)
    (h : wpAny M A x (fun v s₁ => ∃ e oe, v = .ref e ∧ Two s₁.heap C N I bmB mN mI B newId ∧ s₁.heap.get? e = some oe ∧ oe.cls = .ref C ∧ (∃ vs, oe.data = .fields vs ∧ vs[1]? = some .none) ∧ E (.ref e) s₁) E s) :
    wpAny M A (raiseStmt env (some x) none) Q E s := by
  have cB : (Value.ref C :: .ref I :: bmB).contains (.type "BaseException") = true := by
    rw [List.contains_cons, List.contains_cons, hbase, Bool.or_true, Bool.or_true]
  unfold raiseStmt
  refine wpAny_bind (wpAny_mono h (fun v s₁ q => ?_) fun _ _ z => z)
  obtain ⟨e, oe, rfl, T, he, hc, ⟨vs, hd, h1⟩, hE⟩ := q
  obtain ⟨⟨nm, q, bs, sn, sub, ab, col, dd, k0, k1, k2, k3, k5, hC⟩, hn, ⟨jnm, jq, NI, jbs, jsn, jsub, jab, jcol, jdd, j0, j1, j2, j3, j5, nid, hI, hm⟩, hb⟩ := T
  obtain ⟨hp, g, d, tk, os⟩ := s₁
  repeat (first
    | (with_reducible refine wpAny_loadPart_at he ?_; rw [hc])
    | with_reducible refine wpAny_loadPart_at hC ?_
    | (with_reducible refine wpAny_isSubtype_exc hC ?_; rw [cB])
    | (with_reducible refine wpAny_field he hd h1 ?_)
    | wp_step)
  exact wpAny_raiseNew_none hh hE
end
end XC
namespace XC
open PySem PySem.Spec PyProof.Rows L2 My
abbrev bmV : List Value := [.type "ValueError", .type "Exception", .type "BaseException", .type "object"]
structure Init (K : PySem.W.Frag) (f : Str) (fI : Addr) : Prop where
  ex : ∃ (name qual : Str) (params : Arguments) (scope : Scope) (dV kV doc pm cdv ct : Value) (an od : Option Addr) (osl : Array (Option Value)) (p1 p2 p3 p4 : Pos),
    K.lookup fI = some ⟨.type "function", od, .func (PySem.W.fnOf name qual params [.Assign [.Attribute (.Name "self" p1) f p2] (.Name f p3) p4] scope dV kV doc pm an cdv ct), osl⟩ ∧ PySem.W.codeIn K cdv qual = true ∧
    FnScope ["self", f] ["self", f] scope ∧ scope.names.lookup ("self" : Str) = some NameKind.local ∧ scope.names.lookup f = some NameKind.local ∧
    Binds K (PySem.W.fnOf name qual params [.Assign [.Attribute (.Name "self" p1) f p2] (.Name f p3) p4] scope dV kV doc pm an cdv ct) ["self", f] []
  ne : ("self" : Str) ≠ f
  nd : (f == ("__debug__" : Str)) = false
  nc : (f == ("__classdict__" : Str)) = false
structure Exc (K : PySem.W.Frag) (mg : Str → Option Value) (cn f : Str) (C I : Addr) : Prop where
  mgC : mg cn = some (.ref C)
  kp : PySem.W.keepIn K (.ref C) = true
  hB : typeLookup (.type "ValueError") f = pure none
  ex : ∃ (N fI : Addr) (mN mI : Str → Option Value), (∀ h, K.In h → Two h C N I bmV mN mI "ValueError" "ValueError.__new__") ∧ mN "__init__" = some (.ref fI) ∧ mI "__init__" = none ∧ mN "__setattr__" = none ∧ mI "__setattr__" = none ∧ mN f = none ∧ mI f = none ∧ Init K f fI
section
variable {X : Cx} {pins : List (Addr × Obj)} {σ : L2.St} {H : Hp} {s : Shared} {cn f : Str} {C I : Addr} {arg : Expr} {ta : TE} {p pos : Pos} {k : Nat}
theorem make_exc {R : V → Hp → Prop} (Ex : Exc X.K X.mg cn f C I) (hr : Room (k + 2) X.A) (hg : Gl X cn) (hdb : (cn == ("__debug__" : Str)) = false) (ha : PE X arg ta) (J : Inv X pins σ H s) (h : ta σ H R)
    (he : starEach [arg] X.env = (false, eval arg X.env) :: starEach [] X.env := by rfl) (hpl : (backTo pos (starEach [] X.env)).any (·.1) = false := by rfl) :
    wpAny (model X.prog X.w) X.A (eval (.Call (.Name cn p) [arg] [] pos) X.env) (fun r s' => ∃ (v : V) (H1 : Hp) (a dx : Addr) (u : Value), r = .ref a ∧ R v H1 ∧ RelV v u ∧ Inv X pins σ H1 s' ∧ Fly s'.heap a C dx f u none ∧ Loose X pins H1 a ∧ Loose X pins H1 dx) X.xe s := by
  obtain ⟨mgC, kp, hB, N, fI, mN, mI, TK, i1, i2, s1, s2, n1, n2, ⟨⟨name, qual, params, scope, dV, kV, doc, pm, cdv, ct, an, od, osl, p1, p2, p3, p4, lk, hcd, S, l1, l2, hb⟩, ne, nd, nc⟩⟩ := Ex
  refine wpAny_Call_Name_kw (ld_glob J hg mgC ?_ hdb)
  have h' : tCons ta tNil σ H fun vs H1 => match vs with
      | [v] => R v H1
      | _ => False := h
  refine PySem.W.callWith_K (h₀ := X.base) J.ok.mod.kin kp (thn (pa_cons ha pa_nil he pos pins s σ H _ J h') fun us z ⟨vs, H1, J1, r, q⟩ => ⟨J1.kIn, ?_⟩) he hpl
  obtain ⟨v, u, rfl, rfl, rv⟩ : ∃ v u, vs = [v] ∧ us = [u] ∧ RelV v u := by
    cases r with
    | nil => exact q.elim
    | cons a b => cases b with
      | nil => exact ⟨_, _, rfl, rfl, a⟩
      | cons _ _ => exact q.elim
  obtain ⟨hp, g, d, tk, os⟩ := z
  refine (TK _ J1.kIn).call PySem.F.excBase_ValueError i2 i1 (J1.kIn _ _ lk) rfl (show 1 ≤ sizeLine by decide) fun h' e hz hm => ?_
  have J2 : Inv X pins σ H1 ⟨h', g, d, tk, os⟩ := J1.kept (t' := tk) hm.keeps
  obtain ⟨t, ht, _, _⟩ := hm.there
  refine wpAny_call (init_run (x := e) lk hcd S l1 l2 ne nd nc hb (hr.make C [u] []) (J2.env0.make C [u] []) (TK _ J2.kIn) PySem.F.store_ValueError s1 s2 n1 n2 hB ht rfl (fun c z => by cases z) rfl rv fun h3 tk3 dx z1 z2 z3 z4 z5 => ?_)
  have k3 : ∀ b ob, hp.get? b = some ob → h3.get? b = some ob := fun b ob w => z5 b ob (fun y => by
    rw [y] at w
    exact absurd (Heap.lt_size w) (Nat.not_lt.mpr hz)) (hm.keeps _ _ w)
  have J3 : Inv X pins σ H1 ⟨h3, g, d, tk3, os⟩ := J1.kept (t' := tk3) k3
  have szz : hp.objs.size ≤ dx := by
    have e1 : e < h'.objs.size := Heap.lt_size ht
    exact Nat.le_trans hz (Nat.le_trans (Nat.le_of_lt e1) z2)
  exact ⟨rfl, v, H1, e, dx, u, rfl, q, rv, J3, ⟨⟨_, _, z1, rfl⟩, z4, z3, fun T y => by cases y⟩, Loose.of J1 hz (J1.hok.fresh hz), Loose.of J1 szz (J1.hok.fresh szz)⟩
end
end XC
namespace XC
open PySem PySem.Spec PyProof.Rows L2 My
def CXE (P : Program) (w : World) (fld : Addr → Str) : CXT := fun outer H s E e s' => ∃ (a C dx T : Addr) (u : Value) (H' : Hp), e = .ref a ∧ s'.os = s.os ∧ AllBare s'.gens ∧ Un (frs outer) [] H H' s.heap s'.heap ∧ HOk P w H' s'.heap ∧ Fly s'.heap a C dx (fld C) u (some T) ∧
  s.heap.objs.size ≤ a ∧ s.heap.objs.size ≤ dx ∧ s.heap.objs.size ≤ T ∧ H' a = none ∧ H' dx = none ∧ H' T = none ∧ E u (some C) H'
theorem CXE.no {P : Program} {w : World} {fld : Addr → Str} {outer : List Env} {H : Hp} {s s' : Shared} {e : Value} (h : CXE P w fld outer H s E0 e s') : False := by
  obtain ⟨_, _, _, _, _, _, _, _, _, _, _, _, _, _, _, _, _, _, z⟩ := h
  exact z
section
variable {P : Program} {w : World} {K : PySem.W.Frag} {mg : Str → Option Value} {base : Heap} {N : List Str} {qual : Str} {scope : Scope} {fa : Addr} {cdv : Value} {A : Around} {outer : List Env} {s₀ : Shared} {H₀ : Hp} {E : XK} {fld : Addr → Str}
variable {pins : List (Addr × Obj)} {σ : L2.St} {H : Hp} {s : Shared}
theorem xe_of {a C dx : Addr} {u : Value} {tb : Option Addr} (I : Inv (cxOf (CXE P w fld) P w K mg base N qual scope fa cdv A outer s₀ H₀ E) pins σ H s) (F : Fly s.heap a C dx (fld C) u tb)
    (La : Loose (cxOf (CXE P w fld) P w K mg base N qual scope fa cdv A outer s₀ H₀ E) pins H a) (Ld : Loose (cxOf (CXE P w fld) P w K mg base N qual scope fa cdv A outer s₀ H₀ E) pins H dx)
    (Lt : ∀ T, tb = some T → Loose (cxOf (CXE P w fld) P w K mg base N qual scope fa cdv A outer s₀ H₀ E) pins H T) (q : E u (some C) H) : (cxOf (CXE P w fld) P w K mg base N qual scope fa cdv A outer s₀ H₀ E).xe (.ref a) s := by
  show wpAny _ _ (leaving _ (.ref a)) _ _ s
  unfold leaving
  refine wpAny_bind (inv_note rfl I rfl rfl F La Ld Lt fun s' T I' F' o1 o2 LT => ?_)
  exact ⟨a, C, dx, T, u, H, rfl, I'.os, I'.bare, I'.base, I'.hok, F', La.new, Ld.new, LT.new, La.out, Ld.out, LT.out, q⟩
end
section
variable {X : Cx} {pins : List (Addr × Obj)} {σ : L2.St} {H : Hp} {s : Shared} {cn f : Str} {C I : Addr} {arg : Expr} {ta : TE} {p pos rpos : Pos} {k : Nat}
theorem raise_at {Q : Flow → Shared → Prop} {R : V → Hp → Prop} (Ex : Exc X.K X.mg cn f C I) (hr : Room (k + 2) X.A) (hg : Gl X cn) (hdb : (cn == ("__debug__" : Str)) = false) (ha : PE X arg ta) (J : Inv X pins σ H s) (h : ta σ H R)
    (hx : ∀ (v : V) (H1 : Hp) (a dx : Addr) (u : Value) (s' : Shared), R v H1 → RelV v u → Inv X pins σ H1 s' → Fly s'.heap a C dx f u none → Loose X pins H1 a → Loose X pins H1 dx → X.xe (.ref a) s')
    (he : starEach [arg] X.env = (false, eval arg X.env) :: starEach [] X.env := by rfl) (hpl : (backTo pos (starEach [] X.env)).any (·.1) = false := by rfl) :
    wpAny (model X.prog X.w) X.A (exec (.Raise (some (.Call (.Name cn p) [arg] [] pos)) none rpos) X.env) Q X.xe s := by
  have Ex0 := Ex
  obtain ⟨mgC, kp, hB, N, fI, mN, mI, TK, i1, i2, s1, s2, n1, n2, _⟩ := Ex
  rw [arm_exec_Raise]
  simp only [evalOpt, Option.map]
  refine wpAny_bind (wpAny_standAt (raise_made (C := C) (N := N) (I := I) (bmB := bmV) (mN := mN) (mI := mI) (B := "ValueError") (newId := "ValueError.__new__") hr.hd (by decide) ?_))
  refine wpAny_bind (wpAny_mono (make_exc Ex0 hr hg hdb ha J h he hpl) (fun r s' q => ?_) fun _ _ z => z)
  obtain ⟨v, H1, a, dx, u, rfl, q, rv, J', F, La, Ld⟩ := q
  refine wpAny_bind (wpAny_standAt (wpAny_pure ?_))
  obtain ⟨vs, sl, e1, e2⟩ := F.obj
  exact ⟨a, _, rfl, TK _ J'.kIn, e1, rfl, ⟨vs, rfl, e2⟩, hx v H1 a dx u s' q rv J' F La Ld⟩
end
end XC
namespace XC
open PySem PySem.Spec PyProof.Rows L2 My
section
variable {M : Model} {A : Around} {E : Value → Shared → Prop} {h : Heap} {g : Array GenState} {d : Drawn} {t : Nat} {os : OsState}
variable {C N I a : Addr} {bmB : List Value} {mN mI : Str → Option Value} {B newId : String} {oe : Obj}
theorem Two.match_up {Q : Bool → Shared → Prop} (T : Two h C N I bmB mN mI B newId) (he : h.get? a = some oe) (hc : oe.cls = .ref C) (hbase : bmB.contains (.type "BaseException") = true) (hq : Q true ⟨h, g, d, t, os⟩) :
    wpAny M A (excMatches (.ref a) (.ref I)) Q E ⟨h, g, d, t, os⟩ := by
  obtain ⟨⟨nm, q, bs, sn, sub, ab, col, dd, k0, k1, k2, k3, k5, hC⟩, hn, ⟨jnm, jq, NI, jbs, jsn, jsub, jab, jcol, jdd, j0, j1, j2, j3, j5, nid, hI, hm⟩, hb⟩ := T
  have c1 : (Value.ref I :: bmB).contains (.type "BaseException") = true := by rw [List.contains_cons, hbase, Bool.or_true]
  have c2 : (Value.ref C :: .ref I :: bmB).contains (.ref I) = true := by simp
  have f := tc_notTuple
  unfold excMatches
  repeat (first
    | (with_reducible refine wpAny_loadPart_at he ?_; rw [hc])
    | with_reducible refine wpAny_loadPart_at hI ?_
    | with_reducible refine wpAny_loadPart_at hC ?_
    | (with_reducible refine wpAny_isSubtype_exc hI ?_; rw [c1])
    | (with_reducible refine wpAny_isSubtype_exc hC ?_; rw [c2])
    | wp_step)
  exact hq
theorem Two.match_self {Q : Bool → Shared → Prop} (T : Two h C N I bmB mN mI B newId) (he : h.get? a = some oe) (hc : oe.cls = .ref C) (hbase : bmB.contains (.type "BaseException") = true) (hq : Q true ⟨h, g, d, t, os⟩) :
    wpAny M A (excMatches (.ref a) (.ref C)) Q E ⟨h, g, d, t, os⟩ := by
  obtain ⟨⟨nm, q, bs, sn, sub, ab, col, dd, k0, k1, k2, k3, k5, hC⟩, hn, _, hb⟩ := T
  exact wpAny_excMatches_sub_self hC he hc (by rw [List.contains_cons, hbase, Bool.or_true]) hq
end
end XC
namespace XC
open PySem PySem.Spec PyProof.Rows L2 My
section
variable {prog : Program} {w : World} {A : Around} {E : Value → Shared → Prop} {h : Heap} {g : Array GenState} {d : Drawn} {t : Nat} {os : OsState}
variable {C N I a D : Addr} {bmB : List Value} {mN mI : Str → Option Value} {B newId : String} {oe oD : Obj}
theorem Two.isi_own {Q : Value → Shared → Prop} (T : Two h C N I bmB mN mI B newId) (he : h.get? a = some oe) (hc : oe.cls = .ref C) (hD : h.get? D = some oD) (hDc : oD.cls = .type "type") (hDd : ∃ cd, oD.data = .cls cd) (hb : (Value.ref C :: .ref I :: bmB).contains (.ref D) = true) (hq : Q (.bool true) ⟨h, g, d, t, os⟩) :
    wpAny (model prog w) A (PySem.call (.builtin "isinstance") [.ref a, .ref D]) Q E ⟨h, g, d, t, os⟩ := by
  obtain ⟨⟨nm, q, bs, sn, sub, ab, col, dd, k0, k1, k2, k3, k5, hC⟩, _⟩ := T
  refine call_isinstance_of ?_ (by intro e; cases e)
  unfold Builtin.«isinstance.nested»
  have ty : (⟨h, g, d, t, os⟩ : Shared).TypeIs (.ref D) "type" := ⟨_, hD, hDc⟩
  repeat (first
    | (with_reducible refine wpAny_loadPart_at he ?_; rw [hc])
    | (with_reducible refine wpAny_loadPart_at hD ?_; rw [hDc])
    | wp_step)
  by_cases e : (Value.ref C == Value.ref D) = true
  · rw [if_pos e]
    refine wpAny_bind (wpAny_rule ?_)
    exact wpAny_pure hq
  · rw [if_neg e]
    refine wpAny_bind (wpAny_typeOf ty ?_)
    rw [if_pos (by decide)]
    repeat (first
      | (with_reducible refine wpAny_loadPart_at he ?_; rw [hc])
      | (with_reducible refine wpAny_loadPart_at hD ?_; rw [hDc])
      | (with_reducible refine wpAny_isSubtype_exc hC ?_; rw [hb])
      | wp_step)
    obtain ⟨cd, hcd⟩ := hDd
    rw [hcd]
    repeat (first
      | (with_reducible refine wpAny_loadPart_at he ?_; rw [hc])
      | (with_reducible refine wpAny_isSubtype_exc hC ?_; rw [hb])
      | wp_step)
    exact hq
theorem Two.isi_blt {T0 : String} {Q : Value → Shared → Prop} (T : Two h C N I bmB mN mI B newId) (he : h.get? a = some oe) (hc : oe.cls = .ref C) (hty : typeOf (.type T0) = pure (.type "type")) (hb : (Value.ref C :: .ref I :: bmB).contains (.type T0) = true) (hq : Q (.bool true) ⟨h, g, d, t, os⟩) :
    wpAny (model prog w) A (PySem.call (.builtin "isinstance") [.ref a, .type T0]) Q E ⟨h, g, d, t, os⟩ := by
  obtain ⟨⟨nm, q, bs, sn, sub, ab, col, dd, k0, k1, k2, k3, k5, hC⟩, _⟩ := T
  refine call_isinstance_of ?_ (by intro e; cases e)
  unfold Builtin.«isinstance.nested»
  repeat (first
    | (with_reducible refine wpAny_loadPart_at he ?_; rw [hc])
    | (with_reducible refine wpAny_isSubtype_exc hC ?_; rw [hb])
    | wp_step)
  exact hq
end
end XC
namespace XC
open PySem PySem.Spec PyProof.Rows L2 My
def suiteCx (X : Cx) (a : Addr) (oa : Obj) (dx : Addr) (od : Obj) : Cx := { X with A := X.A.mark (some (.ref a)), calm := false, pn := X.pn ++ [(a, oa), (dx, od)], xe := fun _ _ => False }
section
variable {X : Cx} {pins : List (Addr × Obj)} {σ : L2.St} {H : Hp} {s : Shared} {a C dx : Addr} {f : Str} {u : Value} {tb : Option Addr}
theorem inv_suite (I : Inv X pins σ H s) (F : Fly s.heap a C dx f u tb) (La : Loose X pins H a) (Ld : Loose X pins H dx) : ∃ oa od, s.heap.get? a = some oa ∧ s.heap.get? dx = some od ∧ Inv (suiteCx X a oa dx od) pins σ H s := by
  obtain ⟨vs, sl, e1, _⟩ := F.obj
  obtain ⟨od, es, ep, e2, e3, _⟩ := F.dic
  refine ⟨_, od, e1, e2, ⟨⟨I.ok.mod, I.ok.kind, I.ok.glob, I.ok.blt, I.ok.above, I.ok.inj, I.ok.has, I.ok.cab, fun z => (by cases z), I.ok.frames, I.ok.stk, I.ok.exf, I.ok.bs, I.ok.bsz, I.ok.noex, I.ok.exfs, I.ok.funs, I.ok.frf⟩, I.os, I.bare, I.base, I.loc, I.cell, I.free, I.freeC, fun p hp => ?_, I.hok, I.len⟩⟩
  have hp : p ∈ (X.pn ++ [(a, (⟨.ref C, some dx, .fields vs, sl⟩ : Obj)), (dx, od)]) ++ pins := hp
  rcases List.mem_append.mp hp with hp | hp
  · rcases List.mem_append.mp hp with hp | hp
    · exact I.pin p (List.mem_append_left _ hp)
    · rcases List.mem_cons.mp hp with rfl | hp
      · exact ⟨e1, La.out, La.loc, fun z => La.nofs I (List.mem_cons_of_mem _ z), fun v z => by cases z⟩
      · rw [List.mem_singleton.mp hp]
        exact ⟨e2, Ld.out, Ld.loc, fun z => Ld.nofs I (List.mem_cons_of_mem _ z), fun v z => by rw [e3] at z; cases z⟩
  · exact I.pin p (List.mem_append_right _ hp)
theorem inv_back {σ' : L2.St} {H' : Hp} {s' : Shared} {oa od : Obj} (ok : X.Ok) (I : Inv (suiteCx X a oa dx od) pins σ' H' s') : Inv X pins σ' H' s' := by
  refine ⟨ok, I.os, I.bare, I.base, I.loc, I.cell, I.free, I.freeC, fun p hp => ?_, I.hok, I.len⟩
  rcases List.mem_append.mp hp with hp | hp
  · exact I.pin p (List.mem_append_left _ (List.mem_append_left _ hp))
  · exact I.pin p (List.mem_append_right _ hp)
end
end XC
namespace XC
open PySem PySem.Spec PyProof.Rows L2 My
section
variable {X : Cx} {pins : List (Addr × Obj)} {σ : L2.St} {H : Hp} {s : Shared} {a C dx T : Addr} {f : Str} {u : Value}
theorem inv_flight {M : Model} {A : Around} {E : Value → Shared → Prop} {Q : Unit → Shared → Prop} (I : Inv X pins σ H s) (F : Fly s.heap a C dx f u (some T)) (hn : H T = none) (hL : T ≠ X.env.locals) (h1 : X.s₀.heap.objs.size ≤ T) (h2 : ∀ x c, X.env.cells.lookup x = some c → c ≠ T) (h3 : ∀ p ∈ X.pn ++ pins, p.1 ≠ T)
    (h : ∀ s', Inv X pins σ H s' → Fly s'.heap a C dx f u (some T) → Q () s') : wpAny M A (setFlight (.ref a) none) Q E s := by
  obtain ⟨⟨vs, sl, ea, e1⟩, hdic, hne, hhd⟩ := F
  obtain ⟨Ta, Td, oT, ts, t1, t2, t3⟩ := hhd T rfl
  unfold setFlight
  refine wpAny_bind (wpAny_field ea rfl e1 ?_)
  rw [if_pos (show ((Option.elim (some T) Value.none Value.ref) != Value.none) = true by simp)]
  refine wpAny_setField t1 t2 (Array.getElem?_eq_some_iff.mp t3).1 ?_
  obtain ⟨h', e2⟩ : ∃ h', h' = s.heap.update T (Obj.mapFields (·.setIfInBounds 3 ((none : Option Addr).elim Value.none fun f => rawInt f))) := ⟨_, rfl⟩
  rw [← e2]
  have o2 : ∀ b, b ≠ T → h'.get? b = s.heap.get? b := fun b z => by rw [e2]; exact Heap.get?_update_other _ _ (Ne.symm z)
  have d4 := Obj.data_mapFields t2 (·.setIfInBounds 3 ((none : Option Addr).elim Value.none fun f => rawInt f))
  have tT : h'.get? T = some (oT.mapFields (·.setIfInBounds 3 ((none : Option Addr).elim Value.none fun f => rawInt f))) := by
    rw [e2]; exact Heap.get?_update_self _ t1 (Obj.isFreed_of_fields d4)
  have I' : Inv X pins σ H { s with heap := h', toks := s.toks } := Inv.turned (t' := s.toks) I (fun b o z q => (o2 b z).trans q) hn hL (.inr h1) h2 h3
  refine h _ I' ⟨⟨vs, sl, (o2 a (Ne.symm Ta)).trans ea, e1⟩, ?_, hne, fun T' z => ?_⟩
  · obtain ⟨o, es, ep, r1, r2⟩ := hdic
    exact ⟨o, es, ep, (o2 dx (Ne.symm Td)).trans r1, r2⟩
  · cases z
    refine ⟨Ta, Td, _, _, tT, d4, ?_⟩
    have := (Array.getElem?_eq_some_iff.mp t3).1
    simp [this]
end
end XC
namespace XC
open PySem PySem.Spec PyProof.Rows L2 My
section
variable {X : Cx} {pins : List (Addr × Obj)} {σ : L2.St} {H : Hp} {s : Shared} {a C I0 dx T D : Addr} {cn f ic n : Str} {u : Value} {i : Nat} {b0 : Stmt} {suite : List Stmt} {np hpos : Pos}
theorem name_goes {M : Model} {A : Around} {E : Value → Shared → Prop} {Q : Unit → Shared → Prop} (I : Inv X pins σ H s) (hl : X.env.scope.names.lookup n = some .local)
    (h : ∀ s', Inv X pins (List.replicate σ.length none) H s' → Q () s') : wpAny M A (do bindName X.env n .none; unbindBehindTheSuite X.env n hpos) Q E s := by
  obtain ⟨m, hn, _⟩ := id I.loc
  have cls : (X.env.scope.kind == .class || (X.env.scope.kind == .module && X.env.locals != X.env.globals)) = false := by rw [I.ok.kind]; rfl
  refine wpAny_nameGoes hl hn cls fun h' m' hn' hs => h _ ?_
  have neL : ∀ b o, X.s₀.heap.get? b = some o → b ≠ X.env.locals := fun b o e z => by
    rw [z] at e
    exact absurd (Heap.lt_size e) (Nat.not_lt.mpr I.ok.above)
  refine ⟨I.ok, I.os, I.bare, ⟨fun b o e z1 z2 z3 => (hs.2 b (neL b o e)).trans (I.base.keep b o e z1 z2 z3), fun b o e z1 z2 z3 => ?_, I.base.free, fun b o e z1 => ?_, I.base.tups, I.base.frzs, I.base.tbls⟩, ⟨m', hn', fun j y v e1 e2 _ => ?_⟩, fun y c e => ?_, I.free, I.freeC, fun p hp => ?_, fun b ob e => ?_, by rw [List.length_replicate]; exact I.len⟩
  · obtain ⟨sl, w⟩ := I.base.slot b o e z1 z2 z3
    exact ⟨sl, (hs.2 b (neL b o e)).trans w⟩
  · obtain ⟨o', w⟩ := I.base.there b o e z1
    exact ⟨o', (hs.2 b (neL b o e)).trans w⟩
  · rw [List.getElem?_replicate] at e2
    split at e2 <;> cases e2
  · obtain ⟨w, z⟩ := I.cell y c e
    exact ⟨w, z.sameBut hs (I.cne y c e)⟩
  · obtain ⟨e, z1, z2, z3, z4⟩ := I.pin p hp
    exact ⟨(hs.2 p.1 z2).trans e, z1, z2, z3, z4⟩
  · refine (I.hok b ob e).stay (fun c w hc q => (hs.2 c fun z => ?_).trans q) (fun _ q => q) fun _ _ q => q
    rcases hc with y | y
    · rw [← y, z, I.free] at e; cases e
    · rw [z, I.free] at y; cases y
theorem land {Dn : Ends} {ts : TS} (I : Inv X pins σ H s) (F : Fly s.heap a C dx f u (some T)) (La : Loose X pins H a) (Ld : Loose X pins H dx) (LT : Loose X pins H T) (Ex : Exc X.K X.mg cn f C I0) (hD : D = C ∨ D = I0) (hic : X.mg ic = some (.ref D)) (hg : Gl X ic) (hdb : (ic == ("__debug__" : Str)) = false)
    (hi : X.N[i]? = some n) (hN : X.N.Nodup) (hl : X.env.scope.names.lookup n = some .local)
    (hs : ∀ oa od, s.heap.get? a = some oa → s.heap.get? dx = some od → PSs (suiteCx X a oa dx od) (b0 :: suite) ts ∧ ts { nx := fun _ _ => False, rt := Dn.rt } (σ.set i (some (.ref a))) H) :
    wpAny (model X.prog X.w) X.A (handleBy (.ref a) X.env [.ExceptHandler (some (.Name ic np)) (some n) (b0 :: suite) hpos]) (SP X pins Dn) X.xe s := by
  obtain ⟨oa, od, ea, ed, IS⟩ := inv_suite I F La Ld
  obtain ⟨hps, ht⟩ := hs oa od ea ed
  obtain ⟨mgC, kp, hB, N, fI, mN, mI, TK, _⟩ := Ex
  have TT := TK _ I.kIn
  obtain ⟨vs, sl, e1, _⟩ := F.obj
  refine wpAny_handleBy_cons (codeAny_handlers_test (ld_glob (X := suiteCx X a oa dx od) IS hg hic ?_ hdb)) (by intro q; cases q)
  have go : ∀ {E' : Value → Shared → Prop} {Q' : Bool → Shared → Prop}, Q' true s → wpAny (model X.prog X.w) (X.A.mark (some (.ref a))) (excMatches (.ref a) (.ref D)) Q' E' s := fun {E' Q'} q => by
    obtain ⟨hp, g, d, tk, os⟩ := s
    rcases hD with rfl | rfl
    · exact TT.match_self e1 rfl (by decide) q
    · exact TT.match_up e1 rfl (by decide) q
  refine go ?_
  refine codeAny_handlers_suite_as ?_
  have LT' : ∀ p ∈ (suiteCx X a oa dx od).pn ++ pins, p.1 ≠ T := fun p hp => by
    obtain ⟨Ta, Td, _⟩ := F.hd T rfl
    have hp : p ∈ (X.pn ++ [(a, oa), (dx, od)]) ++ pins := hp
    rcases List.mem_append.mp hp with hp | hp
    · rcases List.mem_append.mp hp with hp | hp
      · exact LT.pin p (List.mem_append_left _ hp)
      · rcases List.mem_cons.mp hp with rfl | hp
        · exact Ne.symm Ta
        · rw [List.mem_singleton.mp hp]; exact Ne.symm Td
    · exact LT.pin p (List.mem_append_right _ hp)
  refine inv_flight IS F LT.out LT.loc LT.new LT.cel LT' fun s1 I1 _ => ?_
  refine store_ok (X := suiteCx X a oa dx od) (i := i) (v := V.ref a) I1 hN hi (.inl hl) rfl (fun s2 I2 => ?_) (.inr hl)
  refine wpAny_mono (hps pins s2 _ H _ I2 ht) (fun fl s3 q => ?_) fun _ _ z => z.elim
  cases fl with
  | ret v =>
    obtain ⟨v', σ', H', I3, rv, q3⟩ := q
    exact name_goes (inv_back I.ok I3) hl fun s4 I4 => ⟨v', _, H', I4, rv, q3⟩
  | next =>
    obtain ⟨_, _, _, z⟩ := q
    exact z.elim
  | brk =>
    obtain ⟨_, _, _, z⟩ := q
    exact z.elim
  | cont =>
    obtain ⟨_, _, _, z⟩ := q
    exact z.elim
end
end XC
namespace XC
open PySem PySem.Spec PyProof.Rows L2 My
def XP (fld : Addr → Str) (X : Cx) (pins : List (Addr × Obj)) (σ : L2.St) (EX : XK) (e : Value) (s' : Shared) : Prop := ∃ (a C dx T : Addr) (u : Value) (H' : Hp), e = .ref a ∧ Inv X pins σ H' s' ∧ Fly s'.heap a C dx (fld C) u (some T) ∧ Loose X pins H' a ∧ Loose X pins H' dx ∧ Loose X pins H' T ∧ EX u (some C) H'
section
variable {X : Cx} {pins : List (Addr × Obj)} {σ : L2.St} {H : Hp} {s : Shared} {fld : Addr → Str} {k : Nat} {f : Addr} {fd : FuncData} {ps : List Str} {sp : Sp} {dvs : List V} {ds : List Value} {EX : XK}
theorem run_fnE {Q : VK} {us : List Value} {vs : List V} (F : FnOk X.prog X.w X.K X.mg X.base (CXE X.prog X.w fld) k f fd ps sp) (hr : Room k X.A) (hb : Binds X.K fd ps ds) (hd : Vals dvs ds) (J : Inv X pins σ H s) (r : Vals vs us) (h : sp (vs ++ dvs) H Q EX) :
    wpAny (model X.prog X.w) X.A (PySem.call (.ref f) us) (EP X pins σ Q) (XP fld X pins σ EX) s := by
  have rr2 := r.append hd
  have hl : (us ++ ds).length = ps.length := by
    rw [← rr2.length]
    exact F.len _ _ _ _ h
  refine wpAny_call (codeAny_mono (F.run X.A X.stack s H ⟨us, []⟩ (us ++ ds) (vs ++ dvs) Q EX hr J.env0 (hb s us J.kIn hl) rr2 h) fun rr s' q => ?_)
  cases rr with
  | error e =>
    obtain ⟨a, C, dx, T, u, H', rfl, os, bare, un, hok, Fl, ha, hdx, hT, na, nd, nT, q⟩ := q
    exact ⟨a, C, dx, T, u, H', rfl, Inv.call' (ch := []) J os un hok bare (fun b z => absurd z (by simp)), Fl, Loose.of J ha na, Loose.of J hdx nd, Loose.of J hT nT, q⟩
  | ok fl =>
    cases fl with
    | ret u => exact J.after q
    | next => exact q.elim
    | brk => exact q.elim
    | cont => exact q.elim
def PSE (fld : Addr → Str) (X : Cx) (st : Stmt) (t : Ends → XK → L2.St → Hp → Prop) : Prop :=
  ∀ (pins : List (Addr × Obj)) (s : Shared) (σ : L2.St) (H : Hp) (D : Ends) (EX : XK), Inv X pins σ H s → t D EX σ H → wpAny (model X.prog X.w) X.A (exec st X.env) (SP X pins D) (XP fld X pins σ EX) s
section
variable {x : Str} {p pos pos2 : Pos} {e : Expr} {es : List Expr} {ta : TA}
theorem pse_call (F : FnOk X.prog X.w X.K X.mg X.base (CXE X.prog X.w fld) k f fd ps sp) (hr : Room k X.A) (hg : Gl X x) (hm : X.mg x = some (.ref f)) (hk : PySem.W.keepIn X.K (.ref f) = true) (hb : Binds X.K fd ps ds) (hd : Vals dvs ds) (ha : PA X.nox (e :: es) ta)
    (hdb : (x == ("__debug__" : Str)) = false := by decide) (he : starEach (e :: es) X.env = (false, eval e X.env) :: starEach es X.env := by rfl) (hpl : (backTo pos (starEach es X.env)).any (·.1) = false := by rfl) (hs : swapsWith (.Call (.Name x p) (e :: es) [] pos) none pos2.line X.env = pure false := by rfl) :
    PSE fld X (.Expr (.Call (.Name x p) (e :: es) [] pos) pos2) (fun D EX σ H => ta σ H fun vs H1 => sp (vs ++ dvs) H1 (fun _ H2 => D.nx σ H2) EX) := by
  intro pins s σ H D EX J h
  refine wpAny_Expr_any ?_ J.quiet hs
  refine wpAny_Call_Name_kw (ld_glob J hg hm ?_ hdb)
  refine PySem.W.callWith_K (h₀ := X.base) J.ok.mod.kin hk (wpAny_mono (ha pos pins s σ H _ (J.wish _) h) (fun us s1 q => ?_) fun _ _ z => z.elim) he hpl
  obtain ⟨vs, H1, J1, r, q⟩ := q
  have J1 : Inv X pins σ H1 s1 := J1.wish _
  refine ⟨J1.kIn, wpAny_mono (run_fnE F hr hb hd J1 r q) (fun u s2 w => ?_) fun _ _ z => z⟩
  obtain ⟨v, H2, J2, rv, q2⟩ := w
  exact ⟨σ, H2, J2, q2⟩
end
end
end XC
namespace XC
open PySem PySem.Spec PyProof.Rows L2 My D3
def EndX (K : PySem.W.Frag) (mg : Str → Option Value) (fl : List Fl) (G : Gh) (Dn : Ends) (E : XK) : Or → Prop
  | .o x => EndD K fl G Dn x
  | .ex c d => ∀ (C : Addr) (v : V) (u : Value) (H' : Hp), mg c = some (.ref C) → Same G.H0 H' → RA K ok1 true H' v d → RelV v u → E u (some C) H'
def tDX (K : PySem.W.Frag) (mg : Str → Option Value) (fl : List Fl) (E : XK) (f : FX) : TS := fun Dn σ H => ∃ G ow δ o, Rel K fl G ow σ H δ ∧ f δ = some o ∧ EndX K mg fl G Dn E o
abbrev DX1 (X : Cx) (E : XK) (fl : List Fl) (s : Stmt) (f : FX) : Prop := PS X s (tDX X.K X.mg fl E f)
abbrev DXs (X : Cx) (E : XK) (fl : List Fl) (s : List Stmt) (f : FX) : Prop := PSs X s (tDX X.K X.mg fl E f)
section
variable {X : Cx} {E : XK} {fl : List Fl} {c : Expr} {st : Stmt} {sts body orelse : List Stmt} {fs : FS} {f g : FX} {ft : FT} {pos : Pos}
theorem PS.nox {t : TS} (h : PS X.nox st t) : PS X st t := fun pins s σ H D I hw => by
  refine wpAny_mono (h pins s σ H D (I.wish _) hw) (fun fl s' q => ?_) fun _ _ z => z.elim
  cases fl with
  | next => obtain ⟨σ', H', J, q⟩ := q; exact ⟨σ', H', J.wish _, q⟩
  | ret u => obtain ⟨v, σ', H', J, r, q⟩ := q; exact ⟨v, σ', H', J.wish _, r, q⟩
  | brk => obtain ⟨σ', H', J, q⟩ := q; exact ⟨σ', H', J.wish _, q⟩
  | cont => obtain ⟨σ', H', J, q⟩ := q; exact ⟨σ', H', J.wish _, q⟩
theorem dx_of (h : DS1 X.nox fl st fs) : DX1 X E fl st (xOf fs) := PS.imp (PS.nox h) fun Dn σ H h => by
  obtain ⟨G, ow, δ, o, R, hf, q⟩ := h
  obtain ⟨o1, e1, e2⟩ := bind1 hf
  cases e2
  exact ⟨G, ow, δ, o1, R, e1, q⟩
theorem dxs_of (h : DSs X.nox fl sts fs) : DXs X E fl sts (xOf fs) := PSs.imp (PSs.nox h) fun Dn σ H h => by
  obtain ⟨G, ow, δ, o, R, hf, q⟩ := h
  obtain ⟨o1, e1, e2⟩ := bind1 hf
  cases e2
  exact ⟨G, ow, δ, o1, R, e1, q⟩
theorem dxs_cons (h1 : DX1 X E fl st f) (h2 : DXs X E fl sts g) : DXs X E fl (st :: sts) (xSeq f g) := PSs.imp (pss_cons h1 h2) fun Dn σ H h => by
  obtain ⟨G, ow, δ, o, R, hf, q⟩ := h
  obtain ⟨o1, e1, e2⟩ := bind1 hf
  refine ⟨G, ow, δ, o1, R, e1, ?_⟩
  cases o1 with
  | ex c d => cases e2; exact q
  | o o1 =>
    cases o1 with
    | nx δ' => exact fun ow' σ' H' R' => ⟨G, ow', δ', o, R', e2, q⟩
    | rt d => cases e2; exact EndD.nx_imp (fl := fl) (o := .rt d) q (fun _ z => by cases z)
    | bk d => cases e2; exact EndD.nx_imp (fl := fl) (o := .bk d) q (fun _ z => by cases z)
    | ct d => cases e2; exact EndD.nx_imp (fl := fl) (o := .ct d) q (fun _ z => by cases z)
    | ex c f v => cases e2; exact q
theorem dxs_one (h1 : DX1 X E fl st f) : DXs X E fl [st] f := PSs.imp (pss_one h1) fun _ _ _ h => h
theorem dx_if (hc : DT X.nox fl c ft) (h1 : DXs X E fl body f) (h2 : DXs X E fl orelse g) : DX1 X E fl (.If c body orelse pos) (xIf ft f g) := PS.imp (ps_if (PT.nox hc) h1 h2) fun Dn σ H h => by
  obtain ⟨G, ow, δ, o, R, hf, q⟩ := h
  obtain ⟨t, e1, e2⟩ := bind1 hf
  refine ⟨G, ow, δ, t, R, e1, fun H' s => ?_⟩
  cases t with
  | true => exact iteT ⟨G, ow, δ, o, R.grow s, e2, q⟩
  | false => exact iteF ⟨G, ow, δ, o, R.grow s, e2, q⟩
end
structure ExcF (K : PySem.W.Frag) (mg : Str → Option Value) (fld : Addr → Str) (cn f : Str) : Prop where
  ex : ∃ C I, Exc K mg cn f C I ∧ fld C = f
section
variable {P : Program} {w : World} {K : PySem.W.Frag} {mg : Str → Option Value} {base : Heap} {N : List Str} {qual : Str} {scope : Scope} {fa : Addr} {cdv : Value} {A : Around} {outer : List Env} {s₀ : Shared} {H₀ : Hp} {E : XK} {fld : Addr → Str}
variable {fl : List Fl} {cn f : Str} {arg : Expr} {fe : FE} {p pos rpos : Pos} {k : Nat}
theorem dx_raise (Ex : ExcF K mg fld cn f) (hr : Room (k + 2) (A.deeper (envOfC qual scope s₀.heap.objs.size fa cdv)))
    (ha : DE (cxOf (CXE P w fld) P w K mg base N qual scope fa cdv A outer s₀ H₀ E).nox fl .P arg fe) (hg : Gl (cxOf (CXE P w fld) P w K mg base N qual scope fa cdv A outer s₀ H₀ E) cn := by rfl) (hdb : (cn == ("__debug__" : Str)) = false := by decide)
    (he : starEach [arg] (cxOf (CXE P w fld) P w K mg base N qual scope fa cdv A outer s₀ H₀ E).env = (false, eval arg (cxOf (CXE P w fld) P w K mg base N qual scope fa cdv A outer s₀ H₀ E).env) :: starEach [] (cxOf (CXE P w fld) P w K mg base N qual scope fa cdv A outer s₀ H₀ E).env := by exact star_of rfl)
    (hpl : (backTo pos (starEach [] (cxOf (CXE P w fld) P w K mg base N qual scope fa cdv A outer s₀ H₀ E).env)).any (·.1) = false := by exact pl_of rfl) :
    DX1 (cxOf (CXE P w fld) P w K mg base N qual scope fa cdv A outer s₀ H₀ E) E fl (.Raise (some (.Call (.Name cn p) [arg] [] pos)) none rpos) (xRaise cn fe) := by
  intro pins s σ H Dn J h
  obtain ⟨C, I0, Ex, hC⟩ := Ex.ex
  obtain ⟨G, ow, δ, o, R, hf, q⟩ := h
  obtain ⟨d, e1, e2⟩ := bind1 hf
  cases e2
  refine raise_at (R := fun v H1 => Same H H1 ∧ RA K ok1 true H1 v d) Ex hr hg hdb (PE.nox ha) J ⟨G, ow, δ, d, R, e1, fun v H' s r => ⟨s, r⟩⟩ (fun v H1 a dx u s' r rv J' Fl La Ld => ?_) he hpl
  rw [← hC] at Fl
  exact xe_of J' Fl La Ld (fun T z => by cases z) (q C v u H1 Ex.mgC (R.same0.trans r.1) r.2 rv)
end
def spX (K : PySem.W.Frag) (mg : Str → Option Value) (F : List D → Option Or) : Sp := fun vs H Q E => ∃ ds o, RAs K ok1 true H vs ds ∧ F ds = some o ∧ match o with
  | .o (.rt d) => ∀ v H', Same H H' → RA K (okN H) false H' v d → Q v H'
  | .ex c d => ∀ (C : Addr) (v : V) (u : Value) (H' : Hp), mg c = some (.ref C) → Same H H' → RA K ok1 true H' v d → RelV v u → E u (some C) H'
  | _ => False
structure HasX (P : Program) (w : World) (K : PySem.W.Frag) (mg : Str → Option Value) (base : Heap) (fld : Addr → Str) (n : Nat) (x : Str) (ps : List Str) (sp : Sp) (dvs : List V) : Prop where
  ex : ∃ (f : Addr) (fd : FuncData) (ds : List Value), FnOk P w K mg base (CXE P w fld) n f fd ps sp ∧ Binds K fd ps ds ∧ Vals dvs ds ∧ PySem.W.keepIn K (.ref f) = true ∧ mg x = some (.ref f)
section
variable {P : Program} {w : World} {K : PySem.W.Frag} {mg : Str → Option Value} {base : Heap} {fld : Addr → Str} {x : Str} {ps N ks : List Str} {st : Stmt} {k n : Nat} {f : FX} {fl : List Fl} {dvs : List V} {sp : Sp}
theorem HasX.mono (h : HasX P w K mg base fld k x ps sp dvs) (l : k ≤ n) : HasX P w K mg base fld n x ps sp dvs := by
  obtain ⟨f, fd, ds, F, b, v, kp, m⟩ := h.ex
  exact ⟨f, fd, ds, F.mono l, b, v, kp, m⟩
theorem funX_ok {fa : Addr} {fd : FuncData} (Fn : FunD K x st fa fd) (S : FnScope N ps (defScope st)) (hp : ∀ i, i < ps.length → fl[i]? = some .A) (hN : ps.length ≤ N.length)
    (hbody : ∀ (fa : Addr) (cdv : Value) (A : Around) (outer : List Env) (s : Shared) (H : Hp) (E : XK), Room k (A.deeper (envOfC x (defScope st) s.heap.objs.size fa cdv)) → DXs (cxOf (CXE P w fld) P w K mg base N x (defScope st) fa cdv A outer s H E) E fl (defBody st) f) :
    FnOk P w K mg base (CXE P w fld) (k + 1) fa fd ps (spX K mg (fnX ps.length (N.length - ps.length) f)) := by
  obtain ⟨oc, od, dV, kV, doc, pm, an, cdv, ct, osl, rfl, lk, hcd⟩ := Fn.ex
  have hlen : ∀ vs H Q E, spX K mg (fnX ps.length (N.length - ps.length) f) vs H Q E → vs.length = ps.length := fun vs H Q E h => by
    obtain ⟨ds, o, r, hf, _⟩ := h
    unfold fnX at hf
    by_cases z : ds.length = ps.length
    · rw [r.length]; exact z
    · rw [if_neg z] at hf; cases hf
  refine fn_of lk hcd S hlen fun A outer s H vs Q E hr h => ?_
  obtain ⟨ds, o, r, hf, q⟩ := h
  refine ⟨_, hbody fa cdv A outer s H E hr, ?_⟩
  unfold fnX at hf
  by_cases z : ds.length = ps.length
  · rw [if_pos z] at hf
    split at hf
    · next d' e =>
      cases hf
      exact ⟨_, _, _, _, rel_start ps.length hp z hN r, e, fun v H' s r => q v H' s r⟩
    · next δ' e =>
      cases hf
      exact ⟨_, _, _, _, rel_start ps.length hp z hN r, e, fun ow' σ' H' R' => q .non H' R'.same0 .non⟩
    · next c d e =>
      cases hf
      exact ⟨_, _, _, _, rel_start ps.length hp z hN r, e, fun C v u H' m s r rv => q C v u H' m s r rv⟩
    · cases hf
  · rw [if_neg z] at hf; cases hf
theorem dgX_ok (Dd : Dg K mg x st ps) (S : FnScope N ps (defScope st)) (hp : ∀ i, i < ps.length → fl[i]? = some .A) (hN : ps.length ≤ N.length)
    (hbody : ∀ (fa : Addr) (cdv : Value) (A : Around) (outer : List Env) (s : Shared) (H : Hp) (E : XK), Room k (A.deeper (envOfC x (defScope st) s.heap.objs.size fa cdv)) → DXs (cxOf (CXE P w fld) P w K mg base N x (defScope st) fa cdv A outer s H E) E fl (defBody st) f) :
    HasX P w K mg base fld (k + 1) x ps (spX K mg (fnX ps.length (N.length - ps.length) f)) [] := by
  obtain ⟨f, fd, Fn, b, m⟩ := Dd.ex
  exact ⟨f, fd, [], funX_ok Fn S hp hN hbody, b, .nil, Fn.kp, m⟩
theorem dgXD_ok (Dd : DgD K mg x st ps dvs ks) (S : FnScope N ps (defScope st)) (hp : ∀ i, i < ps.length → fl[i]? = some .A) (hN : ps.length ≤ N.length)
    (hbody : ∀ (fa : Addr) (cdv : Value) (A : Around) (outer : List Env) (s : Shared) (H : Hp) (E : XK), Room k (A.deeper (envOfC x (defScope st) s.heap.objs.size fa cdv)) → DXs (cxOf (CXE P w fld) P w K mg base N x (defScope st) fa cdv A outer s H E) E fl (defBody st) f) :
    HasX P w K mg base fld (k + 1) x ps (spX K mg (fnX ps.length (N.length - ps.length) f)) dvs := by
  obtain ⟨f, fd, ds, Fn, b, v, kb, m⟩ := Dd.ex
  exact ⟨f, fd, ds, funX_ok Fn S hp hN hbody, b, v, Fn.kp, m⟩
end
end XC
namespace XC
open PySem PySem.Spec PyProof.Rows L2 My D3
section
variable {X : Cx} {a C I0 dx D : Addr} {cn f ic n : Str} {oa od : Obj} {i : Nat} {cond a1 b1 : Expr} {rest : List Expr} {p p1 p2 pos np hpos rpos : Pos}
def tE (i : Nat) (a : Addr) : TE := fun σ H Q => σ[i]? = some (some (.ref a)) ∧ Q (.bl true) H
abbrev IsE (S : Cx) (i : Nat) (a : Addr) (cond : Expr) : Prop := PE S cond (tE i a)
theorem call_ise (Ex : Exc X.K X.mg cn f C I0) (hD : D = C ∨ D = I0) (hoa : oa.cls = .ref C) : CallR (suiteCx X a oa dx od) (.builtin "isinstance") (fun xs H Q => xs = [.ref a, .ref D] ∧ Q (.bl true) H) := by
  intro pins s σ H xs us Q I r h
  obtain ⟨rfl, q⟩ := h
  obtain ⟨u1, u2, rfl, r1, r2⟩ : ∃ u1 u2, us = [u1, u2] ∧ RelV (.ref a) u1 ∧ RelV (.ref D) u2 := by
    cases r with
    | cons r1 r => cases r with
      | cons r2 r => cases r; exact ⟨_, _, rfl, r1, r2⟩
  cases r1; cases r2
  obtain ⟨mgC, kp, hB, N, fI, mN, mI, TK, _⟩ := Ex
  have T := TK _ I.kIn
  have ha := (I.pin (a, oa) (List.mem_append_left _ (List.mem_append_right _ List.mem_cons_self))).1
  obtain ⟨hp, g, d, tk, os⟩ := s
  have hq : EP (suiteCx X a oa dx od) pins σ Q (.bool true) ⟨hp, g, d, tk, os⟩ := ⟨.bl true, H, I, rfl, q⟩
  obtain ⟨⟨nm, q0, bs, sn, sub, ab, col, dd, k0, k1, k2, k3, k5, hC⟩, hn, ⟨jnm, jq, NI, jbs, jsn, jsub, jab, jcol, jdd, j0, j1, j2, j3, j5, nid, hI, hm⟩, hb⟩ := id T
  rcases hD with rfl | rfl
  · exact T.isi_own ha hoa hC rfl ⟨_, rfl⟩ (by simp) hq
  · exact T.isi_own ha hoa hI rfl ⟨_, rfl⟩ (by simp) hq
theorem call_isb {T0 : String} (Ex : Exc X.K X.mg cn f C I0) (hty : typeOf (.type T0) = pure (.type "type")) (hb : bmV.contains (.type T0) = true) (hoa : oa.cls = .ref C) : CallR (suiteCx X a oa dx od) (.builtin "isinstance") (fun xs H Q => xs = [.ref a, .ty T0] ∧ Q (.bl true) H) := by
  intro pins s σ H xs us Q I r h
  obtain ⟨rfl, q⟩ := h
  obtain ⟨u1, u2, rfl, r1, r2⟩ : ∃ u1 u2, us = [u1, u2] ∧ RelV (.ref a) u1 ∧ RelV (.ty T0) u2 := by
    cases r with
    | cons r1 r => cases r with
      | cons r2 r => cases r; exact ⟨_, _, rfl, r1, r2⟩
  cases r1; cases r2
  obtain ⟨mgC, kp, hB, N, fI, mN, mI, TK, _⟩ := Ex
  have T := TK _ I.kIn
  have ha := (I.pin (a, oa) (List.mem_append_left _ (List.mem_append_right _ List.mem_cons_self))).1
  obtain ⟨hp, g, d, tk, os⟩ := s
  have hq : EP (suiteCx X a oa dx od) pins σ Q (.bool true) ⟨hp, g, d, tk, os⟩ := ⟨.bl true, H, I, rfl, q⟩
  refine T.isi_blt ha hoa hty ?_ hq
  rw [List.contains_cons, List.contains_cons, hb]
  simp
theorem ise_own (Ex : Exc X.K X.mg cn f C I0) (hD : D = C ∨ D = I0) (hoa : oa.cls = .ref C) (hic : X.mg ic = some (.ref D)) (hgi : Gl X "isinstance") (hmi : X.mg "isinstance" = none) (hg : Gl X ic) (hi : X.N[i]? = some n) (hv : Vis X.env.scope n)
    (hdb : (ic == ("__debug__" : Str)) = false := by decide) (hdn : (n == ("__debug__" : Str)) = false := by decide) (hcn : (n == ("__classdict__" : Str)) = false := by decide) :
    IsE (suiteCx X a oa dx od) i a (.Call (.Name "isinstance" p) [.Name n p1, .Name ic p2] [] pos) :=
  PE.imp (pe_callB (X := suiteCx X a oa dx od) (call_ise Ex hD hoa) hgi hmi boot_isinstance (pa_cons (pe_var (X := suiteCx X a oa dx od) hi hv hdn hcn) (pa_cons (pe_glob (X := suiteCx X a oa dx od) (v := .ref D) hg hic rfl hdb) pa_nil (by exact star_of rfl)) (by exact star_of rfl)) (by decide) (by decide) (by exact star_of rfl) (by exact pl_of rfl)) fun σ H Q h => by
    exact ⟨_, h.1, rfl, h.2⟩
theorem ise_blt {T0 : String} (Ex : Exc X.K X.mg cn f C I0) (hty : typeOf (.type T0) = pure (.type "type")) (hb : bmV.contains (.type T0) = true) (hoa : oa.cls = .ref C) (hic : X.mg ic = none) (hbo : bootBuiltins ic = some (.type T0)) (hgi : Gl X "isinstance") (hmi : X.mg "isinstance" = none) (hg : Gl X ic) (hi : X.N[i]? = some n) (hv : Vis X.env.scope n)
    (hnn : ic ≠ "__name__" := by decide) (hdb : (ic == ("__debug__" : Str)) = false := by decide) (hdn : (n == ("__debug__" : Str)) = false := by decide) (hcn : (n == ("__classdict__" : Str)) = false := by decide) :
    IsE (suiteCx X a oa dx od) i a (.Call (.Name "isinstance" p) [.Name n p1, .Name ic p2] [] pos) :=
  PE.imp (pe_callB (X := suiteCx X a oa dx od) (call_isb Ex hty hb hoa) hgi hmi boot_isinstance (pa_cons (pe_var (X := suiteCx X a oa dx od) hi hv hdn hcn) (pa_cons (pe_bltn (X := suiteCx X a oa dx od) (v := .ty T0) hg hic hbo rfl hnn hdb) pa_nil (by exact star_of rfl)) (by exact star_of rfl)) (by decide) (by decide) (by exact star_of rfl) (by exact pl_of rfl)) fun σ H Q h => by
    exact ⟨_, h.1, rfl, h.2⟩
theorem ise_and {S : Cx} (h1 : IsE S i a a1) (h2 : IsE S i a (.BoolOp .And (b1 :: rest) pos)) : IsE S i a (.BoolOp .And (a1 :: b1 :: rest) pos) :=
  PE.imp (pe_and h1 h2) fun σ H Q h => ⟨h.1, _, rfl, by rw [if_pos rfl]; exact h⟩
theorem ise_one {S : Cx} (h1 : IsE S i a a1) : IsE S i a (.BoolOp .And [a1] pos) := PE.imp (pe_one h1) fun σ H Q h => h
end
end XC
namespace XC
open PySem PySem.Spec PyProof.Rows L2 My D3
section
variable {X : Cx} {fl : List Fl} {fld : Addr → Str} {n i : Nat} {x ic en : Str} {ps cs : List Str} {F : List D → Option Or} {dvs : List V} {dd : List D} {e cond : Expr} {es : List Expr} {fa : FA} {p pos pos2 np rpos hpos tpos : Pos}
def Lands (X : Cx) (fld : Addr → Str) (ic : Str) (i : Nat) (cond : Expr) (c : Str) : Prop :=
  ∃ C I0 D, Exc X.K X.mg c (fld C) C I0 ∧ (D = C ∨ D = I0) ∧ X.mg ic = some (.ref D) ∧ ∀ a oa dx od, oa.cls = .ref C → IsE (suiteCx X a oa dx od) i a cond
theorem ds_try1 (h : HasX X.prog X.w X.K X.mg X.base fld n x ps (spX X.K X.mg F) dvs) (hdd : ∀ H, RAs X.K ok1 true H dvs dd) (hr : Room n X.A) (ha : DB X fl .P (e :: es) fa) (hcs : ∀ c ∈ cs, Lands X fld ic i cond c)
    (hi : X.N[i]? = some en) (hN : X.N.Nodup) (hl : X.env.scope.names.lookup en = some .local) (hst : X.stack = X.env :: X.outer := by rfl) (hfr : X.env.frame = some X.env.locals := by rfl) (hx : X = X.nox := by rfl)
    (hg : Gl X x := by rfl) (hgi : Gl X ic := by rfl) (hdb : (x == ("__debug__" : Str)) = false := by decide) (hdi : (ic == ("__debug__" : Str)) = false := by decide)
    (he : starEach (e :: es) X.env = (false, eval e X.env) :: starEach es X.env := by exact star_of rfl) (hpl : (backTo pos (starEach es X.env)).any (·.1) = false := by exact pl_of rfl) (hsw : swapsWith (.Call (.Name x p) (e :: es) [] pos) none pos2.line X.env = pure false := by rfl) :
    DS1 X fl (.Try [.Expr (.Call (.Name x p) (e :: es) [] pos) pos2] [.ExceptHandler (some (.Name ic np)) (some en) [.Return (some cond) rpos] hpos] [] [] tpos) (sTry1 F cs dd fa) := by
  intro pins s σ H Dn J h0
  obtain ⟨G, ow, δ, o, R, hf, q⟩ := h0
  obtain ⟨ds, e1, e2⟩ := bind1 hf
  obtain ⟨f, fd, dv, Fo, b, vv, kp, m⟩ := h.ex
  have ha' : DB X.nox fl .P (e :: es) fa := by rw [← hx]; exact ha
  refine wpAny_Try_except ?_
  have one : ∀ (D : Ends) (EX : XK), (tDB X.K fl .P fa) σ H (fun vs H1 => spX X.K X.mg F (vs ++ dvs) H1 (fun _ H2 => D.nx σ H2) EX) → (∀ s', SP X pins D .next s' → SP X pins Dn .next s') → (∀ e s', XP fld X pins σ EX e s' → wpAny (model X.prog X.w) X.A (noteFrame e X.env) (fun _ s₂ => wpAny (model X.prog X.w) X.A (setFlight e none) (fun _ s₃ => wpAny (model X.prog X.w) X.A (handleBy e X.env [.ExceptHandler (some (.Name ic np)) (some en) [.Return (some cond) rpos] hpos]) (SP X pins Dn) X.xe s₃) X.xe s₂) X.xe s') → (D.rt = fun _ _ => False) → (D.bk = fun _ _ => False) → (D.ct = fun _ _ => False) → wpAny (model X.prog X.w) X.A (execs [.Expr (.Call (.Name x p) (e :: es) [] pos) pos2] X.env) (fun f s₁ => match f with | .next => wpAny (model X.prog X.w) X.A (execs [] X.env) (SP X pins Dn) X.xe s₁ | f => SP X pins Dn f s₁)
      (fun e s₁ => wpAny (model X.prog X.w) X.A (noteFrame e X.env) (fun _ s₂ => wpAny (model X.prog X.w) X.A (setFlight e none) (fun _ s₃ => wpAny (model X.prog X.w) X.A (handleBy e X.env [.ExceptHandler (some (.Name ic np)) (some en) [.Return (some cond) rpos] hpos]) (SP X pins Dn) X.xe s₃) X.xe s₂) X.xe s₁) s := fun D EX hq hn hxx hD1 hD2 hD3 => by
    refine wpAny_execs_cons (wpAny_mono (pse_call (X := X) (dvs := dvs) Fo hr hg m kp b vv ha' hdb he hpl hsw pins s σ H D EX J hq) (fun fl' s1 z => ?_) fun e s1 z => hxx e s1 z)
    cases fl' with
    | next => exact wpAny_execs_nil (wpAny_execs_nil (hn _ z))
    | ret v => obtain ⟨_, _, _, _, _, z⟩ := z; rw [hD1] at z; exact z.elim
    | brk => obtain ⟨_, _, _, z⟩ := z; rw [hD2] at z; exact z.elim
    | cont => obtain ⟨_, _, _, z⟩ := z; rw [hD3] at z; exact z.elim
  split at e2
  · next d eF =>
    cases e2
    refine one { nx := fun σ' H2 => σ' = σ ∧ Same H H2, rt := fun _ _ => False, bk := fun _ _ => False, ct := fun _ _ => False } (fun _ _ _ => False) ⟨G, ow, δ, ds, R, e1, fun vs H1 sm r => ⟨ds ++ dd, _, r.append (hdd H1), eF, fun v H' sm' _ => ⟨rfl, sm.trans sm'⟩⟩⟩ (fun s' z => ?_) (fun e s' z => ?_) rfl rfl rfl
    · obtain ⟨σ', H', I', rfl, sm⟩ := z
      exact ⟨_, H', I', q ow _ H' (R.grow sm)⟩
    · obtain ⟨_, _, _, _, _, _, _, _, _, _, _, _, z⟩ := z
      exact z.elim
  · next c d eF =>
    by_cases hc : c ∈ cs
    · rw [if_pos hc] at e2
      cases e2
      obtain ⟨C, I0, Dc, Ex, hD, hic, hcond⟩ := hcs c hc
      refine one { nx := fun σ' H2 => False, rt := fun _ _ => False, bk := fun _ _ => False, ct := fun _ _ => False } (fun u C' H' => C' = some C ∧ Same H H') ⟨G, ow, δ, ds, R, e1, fun vs H1 sm r => ⟨ds ++ dd, _, r.append (hdd H1), eF, fun C' v u H' mc sm' _ _ => ⟨by rw [Ex.mgC] at mc; cases mc; rfl, sm.trans sm'⟩⟩⟩ (fun s' z => ?_) (fun e s' z => ?_) rfl rfl rfl
      · obtain ⟨_, _, _, z⟩ := z; exact z.elim
      · obtain ⟨a, C', dx, T, u, H', rfl, I', Fl, La, Ld, LT, hC, sm⟩ := z
        cases hC
        refine inv_note rfl I' hst hfr Fl La Ld (fun T' z => by cases z; exact LT) fun s2 T2 I2 F2 o1 o2 LT2 => ?_
        refine land (D := Dc) (i := i) (ts := tRet (tE i a)) I2 F2 La Ld LT2 Ex hD hic hgi hdi hi hN hl fun oa od ea ed => ⟨pss_one (ps_ret (hcond a oa dx od ?_)), ?_⟩
        · obtain ⟨vs, sl, w1, _⟩ := F2.obj
          rw [w1] at ea
          cases ea
          rfl
        · refine ⟨?_, q _ H' (R.same0.trans sm) (.bl true)⟩
          have : i < σ.length := by
            rw [I2.len]
            exact (List.getElem?_eq_some_iff.mp hi).1
          rw [List.getElem?_set_self this]
    · rw [if_neg hc] at e2; cases e2
  · cases e2
end
end XC
namespace XC
open PySem PySem.Spec PyProof.Rows L2 My D3
def strK (es : Array DictEntry) : Bool := es.toList.all fun e => match e.key with | .str _ _ => true | _ => false
theorem strK_of {es : Array DictEntry} (h : strK es = true) : StrKeys es := fun e he => by
  have := List.all_eq_true.mp h e (Array.mem_toList_iff.mpr he)
  cases q : e.key with
  | str n t => exact ⟨n, t, rfl⟩
  | _ => rw [q] at this; cases this
theorem ns_at {K : PySem.W.Frag} {N : Addr} {c : Value} {d : Option Addr} {es : Array DictEntry} {n : Nat} {sl : Array (Option Value)} (l : K.lookup N = some ⟨c, d, .dict es n, sl⟩) (ok : strK es = true) (h : Heap) (X : K.In h) : h.Ns N (nsFind es) :=
  ⟨_, es, n, X _ _ l, rfl, strK_of ok, fun _ => rfl⟩
theorem ns_find {K : PySem.W.Frag} {N : Addr} {c : Value} {d : Option Addr} {es : Array DictEntry} {n : Nat} {sl : Array (Option Value)} {x : Str} {r : Option Value} (l : K.lookup N = some ⟨c, d, .dict es n, sl⟩) (e : PySem.W.nsIn K N x = some r) : nsFind es x = r := by
  unfold PySem.W.nsIn at e
  rw [l] at e
  dsimp only at e
  unfold nsFind findBy
  rw [← Array.find?_toList]
  split at e
  · next en he =>
    cases e
    rw [he]; rfl
  · next he =>
    rw [he]
    split at e
    · cases e
    · cases e; rfl
theorem exc_mk {K : PySem.W.Frag} {h : Heap} {mg : Str → Option Value} {cn f : Str} {C I N NI fI : Addr} (X : K.In h) (G : h.Ns mainGlobals mg)
    {nm q : Str} {bs : List Value} {sn : List Str} {sub : List Value} {ab : Bool} {col : Option Bool} {dd : Option Addr} {k0 k1 k2 k3 k5 : Option Value}
    {nm' q' : Str} {bs' : List Value} {sn' : List Str} {sub' : List Value} {ab' : Bool} {col' : Option Bool} {dd' : Option Addr} {j0 j1 j2 j3 j5 : Option Value} {nid : String}
    {c c' : Value} {d d' : Option Addr} {es es' : Array DictEntry} {n n' : Nat} {sl sl' : Array (Option Value)}
    {name qual : Str} {params : Arguments} {scope : Scope} {dV kV doc pm cdv ct : Value} {an od : Option Addr} {osl : Array (Option Value)} {p1 p2 p3 p4 : Pos}
    (a : PySem.W.nsIn K mainGlobals cn = some (some (.ref C))) (kp : PySem.W.keepIn K (.ref C) = true)
    (lC : K.lookup C = some (excClassObj nm q C N bs (.ref I :: bmV) true sn sub ab col dd k0 k1 k2 k3 k5 "ValueError.__new__"))
    (lI : K.lookup I = some (excClassObj nm' q' I NI bs' bmV true sn' sub' ab' col' dd' j0 j1 j2 j3 j5 nid))
    (lN : K.lookup N = some ⟨c, d, .dict es n, sl⟩) (oN : strK es = true) (lNI : K.lookup NI = some ⟨c', d', .dict es' n', sl'⟩) (oNI : strK es' = true)
    (i1 : PySem.W.nsIn K N "__init__" = some (some (.ref fI))) (i2 : PySem.W.nsIn K NI "__init__" = some none) (s1 : PySem.W.nsIn K N "__setattr__" = some none) (s2 : PySem.W.nsIn K NI "__setattr__" = some none)
    (n1 : PySem.W.nsIn K N f = some none) (n2 : PySem.W.nsIn K NI f = some none) (hB : typeLookup (.type "ValueError") f = pure none)
    (lk : K.lookup fI = some ⟨.type "function", od, .func (PySem.W.fnOf name qual params [.Assign [.Attribute (.Name "self" p1) f p2] (.Name f p3) p4] scope dV kV doc pm an cdv ct), osl⟩) (hcd : PySem.W.codeIn K cdv qual = true)
    (S : FnScope ["self", f] ["self", f] scope) (l1 : scope.names.lookup ("self" : Str) = some NameKind.local) (l2 : scope.names.lookup f = some NameKind.local)
    (hb : ∀ u v, bindArgs (PySem.W.fnOf name qual params [.Assign [.Attribute (.Name "self" p1) f p2] (.Name f p3) p4] scope dV kV doc pm an cdv ct) ⟨[u, v], []⟩ = pure [(("self" : Str), u), (f, v)])
    (ne : ("self" : Str) ≠ f) (nd : (f == ("__debug__" : Str)) = false) (nc : (f == ("__classdict__" : Str)) = false) : Exc K mg cn f C I :=
  ⟨PySem.W.mg_of X G a, kp, hB, N, fI, nsFind es, nsFind es', fun h X => ⟨⟨_, _, _, _, _, _, _, _, _, _, _, _, _, X _ _ lC⟩, ns_at lN oN h X, ⟨_, _, _, _, _, _, _, _, _, _, _, _, _, _, _, X _ _ lI, ns_at lNI oNI h X⟩, by rfl⟩, ns_find lN i1, ns_find lNI i2, ns_find lN s1, ns_find lNI s2, ns_find lN n1, ns_find lNI n2,
    ⟨⟨name, qual, params, scope, dV, kV, doc, pm, cdv, ct, an, od, osl, p1, p2, p3, p4, lk, hcd, S, l1, l2, .all fun us hl => match us, hl with | [u, v], _ => hb u v⟩, ne, nd, nc⟩⟩
end XC
namespace XC
open PySem PySem.Spec PyProof.Rows L2 My D3
structure ExcG (K : PySem.W.Frag) (mg : Str → Option Value) (fld : Addr → Str) (cn f ic : Str) : Prop where
  ex : ∃ C I, Exc K mg cn f C I ∧ fld C = f ∧ mg ic = some (.ref I)
theorem ExcG.fly {K : PySem.W.Frag} {mg : Str → Option Value} {fld : Addr → Str} {cn f ic : Str} (h : ExcG K mg fld cn f ic) : ExcF K mg fld cn f := by
  obtain ⟨C, I, E, hf, _⟩ := h.ex
  exact ⟨C, I, E, hf⟩
section
variable {X : Cx} {fld : Addr → Str} {c f ic : Str} {i : Nat} {cond : Expr}
theorem lands_up (E : ExcG X.K X.mg fld c f ic) (hc : ∀ C I0, Exc X.K X.mg c f C I0 → X.mg ic = some (.ref I0) → ∀ a oa dx od, oa.cls = .ref C → IsE (suiteCx X a oa dx od) i a cond) : Lands X fld ic i cond c := by
  obtain ⟨C, I, E, hf, m⟩ := E.ex
  exact ⟨C, I, I, by rw [hf]; exact E, .inr rfl, m, hc C I E m⟩
theorem lands_self (E : ExcG X.K X.mg fld c f ic) (hc : ∀ C I0, Exc X.K X.mg c f C I0 → X.mg ic = some (.ref I0) → ∀ a oa dx od, oa.cls = .ref C → IsE (suiteCx X a oa dx od) i a cond) : Lands X fld c i cond c := by
  obtain ⟨C, I, E, hf, m⟩ := E.ex
  exact ⟨C, I, C, by rw [hf]; exact E, .inl rfl, E.mgC, hc C I E m⟩
end
end XC
namespace D3
open PySem
def qS (o : Option Oc) (b : FS) : Option Oc := match o with
  | some (.nx δ) => b δ
  | some o => some o
  | none => none
def qI (o : Option Bool) (a b : FS) (δ : DS) : Option Oc := match o with
  | some true => a δ
  | some false => b δ
  | none => none
def qO (g : D → D → Option D) (a b : Option D) : Option D := match a, b with
  | some x, some y => g x y
  | _, _ => none
def qU (g : D → Option D) (a : Option D) : Option D := match a with
  | some x => g x
  | none => none
def qC (a : Option D) (r : Option (List D)) : Option (List D) := match a, r with
  | some x, some l => some (x :: l)
  | _, _ => none
def qF (F : List D → Option D) (l : Option (List D)) : Option D := match l with
  | some l => F l
  | none => none
def qR (a : Option D) : Option Oc := match a with
  | some d => some (.rt d)
  | none => none
def qSet (i : Nat) (a : Option D) (δ : DS) : Option Oc := match a with
  | some d => if i < δ.length then some (.nx (δ.set i (some (.d d)))) else none
  | none => none
def qAnd (a : Option D) (fb : FE) (δ : DS) : Option D := match a with
  | some (.bool true) => fb δ
  | some (.bool false) => some (.bool false)
  | _ => none
def qOr (a : Option D) (fb : FE) (δ : DS) : Option D := match a with
  | some (.bool true) => some (.bool true)
  | some (.bool false) => fb δ
  | _ => none
def qN (a : Option D) : Option D := match a with
  | some (.bool b) => some (.bool (!b))
  | _ => none
def qB (a : Option D) : Option Bool := match a with
  | some (.bool b) => some b
  | _ => none
def qTA (a : Option Bool) (b : FT) (δ : DS) : Option Bool := match a with
  | some true => b δ
  | some false => some false
  | none => none
def qTO (a : Option Bool) (b : FT) (δ : DS) : Option Bool := match a with
  | some true => some true
  | some false => b δ
  | none => none
def qTN (a : Option Bool) : Option Bool := match a with
  | some b => some (!b)
  | none => none
def qE (a : Option Bool) (fa fb : FE) (δ : DS) : Option D := match a with
  | some true => fa δ
  | some false => fb δ
  | none => none
def qL (a : Option D) : Option (List D) := match a with
  | some (.list l) => some l
  | _ => none
def qFor (a : Option (List D)) (g : FG) (b : FS) (δ : DS) : Option Oc := match a with
  | some l => forD g b l δ
  | none => none
def qD (a : Option DS) : Option Oc := match a with
  | some δ => some (.nx δ)
  | none => none
def qG (a : Option D) (g : FG) (δ : DS) : Option DS := match a with
  | some d => g d δ
  | none => none
def qGs (a : Option DS) (r : List D → DS → Option DS) (l : List D) : Option DS := match a with
  | some δ => r l δ
  | none => none
def qT (a : Option (List D)) : Option D := match a with
  | some l => if l.length ≤ sizeLine then some (.tuple l) else none
  | none => none
def qK (a : Option (List D)) : Option D := match a with
  | some l => if l.length ≤ sizeLine then some (.list l) else none
  | none => none
def qFl (p : D → Bool) (a : Option D) : Option D := match a with
  | some d => if p d = true then some d else none
  | none => none
def qA (i : Nat) (x a : Option D) (δ : DS) : Option Oc := match x, a with
  | some (.list l), some d => if l.length < 1000000 then some (.nx (δ.set i (some (.d (.list (l ++ [d])))))) else none
  | _, _ => none
def qP (i : Nat) (a x k : Option D) (δ : DS) : Option Oc := match a, x, k with
  | some d, some (.list l), some (.int j) => (pIx l.length j).bind fun n => some (.nx (δ.set i (some (.d (.list (l.set n d))))))
  | _, _, _ => none
def qCh (g' : D → D → Option D) (z : Option D) (y : Option D) (fc : FE) (δ : DS) : Option D := match z with
  | some (.bool true) => qO g' y (fc δ)
  | some (.bool false) => some (.bool false)
  | _ => none
def qFn (o : Option Oc) : Option D := match o with
  | some (.rt d) => some d
  | some (.nx _) => some .none
  | _ => none
def qCo (a : Option (List D)) (g : FG) (c : FT) (e : FE) (t : Nat) (ix : List Nat) (δ : DS) : Option D := match a with
  | some l => if l.length ≤ 100000 then (match compD g c e (capD t ix δ) l with | some r => some (.list r) | none => none) else none
  | none => none
section
variable {a b : FS} {c c' : FT} {fa fb fc : FE} {fr : FA} {δ : DS} {g : D → D → Option D} {h : D → Option D} {F : List D → Option D} {i : Nat} {G : FG} {d : D}
theorem v_seq : sSeq a b δ = qS (a δ) b := by
  unfold sSeq qS
  cases a δ with
  | none => rfl
  | some o => cases o <;> rfl
theorem v_seq_nx {δ' : DS} : qS (some (.nx δ')) b = b δ' := rfl
theorem v_seq_rt : qS (some (.rt d)) b = some (.rt d) := rfl
theorem v_seq_bk {δ' : DS} : qS (some (.bk δ')) b = some (.bk δ') := rfl
theorem v_seq_ct {δ' : DS} : qS (some (.ct δ')) b = some (.ct δ') := rfl
theorem v_nil : sNil δ = some (.nx δ) := rfl
theorem v_bk : sBk δ = some (.bk δ) := rfl
theorem v_ct : sCt δ = some (.ct δ) := rfl
theorem v_if : sIf c a b δ = qI (c δ) a b δ := by
  unfold sIf qI
  cases c δ with
  | none => rfl
  | some t => cases t <;> rfl
theorem v_if_t : qI (some true) a b δ = a δ := rfl
theorem v_if_f : qI (some false) a b δ = b δ := rfl
theorem v_op : dOp g fa fb δ = qO g (fa δ) (fb δ) := by
  unfold dOp qO
  cases fa δ <;> cases fb δ <;> rfl
theorem v_op_s {x y : D} : qO g (some x) (some y) = g x y := rfl
theorem v_un : dUn h fa δ = qU h (fa δ) := by
  unfold dUn qU
  cases fa δ <;> rfl
theorem v_un_s {x : D} : qU h (some x) = h x := rfl
theorem v_lnil : dNil δ = some [] := rfl
theorem v_lcons : dCons fa fr δ = qC (fa δ) (fr δ) := by
  unfold dCons qC
  cases fa δ <;> cases fr δ <;> rfl
theorem v_lcons_s {x : D} {l : List D} : qC (some x) (some l) = some (x :: l) := rfl
theorem v_call : dCall F fr δ = qF F (fr δ) := by
  unfold dCall qF
  cases fr δ <;> rfl
theorem v_call_s {l : List D} : qF F (some l) = F l := rfl
theorem v_ret : sRet fa δ = qR (fa δ) := by
  unfold sRet qR
  cases fa δ <;> rfl
theorem v_ret_s : qR (some d) = some (.rt d) := rfl
theorem v_retN : sRetN δ = some (.rt .none) := rfl
theorem v_set : sSetl i fa δ = qSet i (fa δ) δ := by
  unfold sSetl sSet qSet
  cases fa δ with
  | none => simp
  | some d => rfl
theorem v_set_s : qSet i (some d) δ = if i < δ.length then some (.nx (δ.set i (some (.d d)))) else none := rfl
theorem v_c : dC d δ = some d := rfl
theorem v_and : dAnd fa fb δ = qAnd (fa δ) fb δ := by
  unfold dAnd qAnd
  cases fa δ with
  | none => rfl
  | some x =>
    cases x <;> try rfl
    next b => cases b <;> rfl
theorem v_and_t : qAnd (some (.bool true)) fb δ = fb δ := rfl
theorem v_and_f : qAnd (some (.bool false)) fb δ = some (.bool false) := rfl
theorem v_or : dOr fa fb δ = qOr (fa δ) fb δ := by
  unfold dOr qOr
  cases fa δ with
  | none => rfl
  | some x =>
    cases x <;> try rfl
    next b => cases b <;> rfl
theorem v_or_t : qOr (some (.bool true)) fb δ = some (.bool true) := rfl
theorem v_or_f : qOr (some (.bool false)) fb δ = fb δ := rfl
theorem v_not : dNot fa δ = qN (fa δ) := by
  unfold dNot qN
  cases fa δ with
  | none => rfl
  | some x => cases x <;> rfl
theorem v_not_s {b : Bool} : qN (some (.bool b)) = some (.bool (!b)) := rfl
theorem v_tb : tBool fa δ = qB (fa δ) := by
  unfold tBool qB
  cases fa δ with
  | none => rfl
  | some x => cases x <;> rfl
theorem v_tb_s {b : Bool} : qB (some (.bool b)) = some b := rfl
theorem v_tand : D3.tAnd c c' δ = qTA (c δ) c' δ := by
  unfold D3.tAnd qTA
  cases c δ with
  | none => rfl
  | some t => cases t <;> rfl
theorem v_tand_t : qTA (some true) c δ = c δ := rfl
theorem v_tand_f : qTA (some false) c δ = some false := rfl
theorem v_tor : D3.tOr c c' δ = qTO (c δ) c' δ := by
  unfold D3.tOr qTO
  cases c δ with
  | none => rfl
  | some t => cases t <;> rfl
theorem v_tor_t : qTO (some true) c δ = some true := rfl
theorem v_tor_f : qTO (some false) c δ = c δ := rfl
theorem v_tnot : D3.tNot c δ = qTN (c δ) := by
  unfold D3.tNot qTN
  cases c δ <;> rfl
theorem v_tnot_s {b : Bool} : qTN (some b) = some (!b) := rfl
theorem v_ite : dIf c fa fb δ = qE (c δ) fa fb δ := by
  unfold dIf qE
  cases c δ with
  | none => rfl
  | some t => cases t <;> rfl
theorem v_ite_t : qE (some true) fa fb δ = fa δ := rfl
theorem v_ite_f : qE (some false) fa fb δ = fb δ := rfl
theorem v_lst : fLst fa δ = qL (fa δ) := by
  unfold fLst qL asList
  cases fa δ with
  | none => rfl
  | some x => cases x <;> rfl
theorem v_lst_s {l : List D} : qL (some (.list l)) = some l := rfl
theorem v_for : sFor fr G b δ = qFor (fr δ) G b δ := by
  unfold sFor qFor
  cases fr δ <;> rfl
theorem v_for_s {l : List D} : qFor (some l) G b δ = forD G b l δ := rfl
theorem v_for_nil : forD G b [] δ = some (.nx δ) := rfl
theorem v_asg : sAsg fa G δ = qD (qG (fa δ) G δ) := by
  unfold sAsg qG qD
  cases fa δ with
  | none => rfl
  | some d =>
    dsimp only [Option.bind_some]
    cases G d δ <;> rfl
theorem v_asg_s : qG (some d) G δ = G d δ := rfl
theorem v_asg_d {δ' : DS} : qD (some δ') = some (.nx δ') := rfl
theorem v_gn : gNl i d δ = if i < δ.length then some (δ.set i (some (.d d))) else none := rfl
theorem v_gt {n : Nat} {gs : List D → DS → Option DS} {l : List D} : gTn n gs (.tuple l) δ = if l.length = n then gs l δ else none := rfl
theorem v_gsn : gsNil [] δ = some δ := rfl
theorem v_gsc {gs : List D → DS → Option DS} {l : List D} : gsCons G gs (d :: l) δ = qGs (G d δ) gs l := by
  show (G d δ).bind (fun δ' => gs l δ') = qGs (G d δ) gs l
  cases G d δ <;> rfl
theorem v_gsc_s {gs : List D → DS → Option DS} {l : List D} {δ' : DS} : qGs (some δ') gs l = gs l δ' := rfl
theorem v_tup : dTup fr δ = qT (fr δ) := by
  unfold dTup qT
  cases fr δ <;> rfl
theorem v_tup_s {l : List D} : qT (some l) = if l.length ≤ sizeLine then some (.tuple l) else none := rfl
theorem v_dl : dLst fr δ = qK (fr δ) := by
  unfold dLst qK
  cases fr δ <;> rfl
theorem v_dl_s {l : List D} : qK (some l) = if l.length ≤ sizeLine then some (.list l) else none := rfl
theorem v_flat : dFlat fa δ = qFl flat (fa δ) := by
  unfold dFlat qFl
  cases fa δ <;> rfl
theorem v_fl1 : dFl1 fa δ = qFl fl1 (fa δ) := by
  unfold dFl1 qFl
  cases fa δ <;> rfl
theorem v_fl_s {p : D → Bool} : qFl p (some d) = if p d = true then some d else none := rfl
theorem v_app : sApp i fa δ = qA i (dVar i δ) (fa δ) δ := by
  unfold sApp qA
  cases dVar i δ with
  | none => rfl
  | some x =>
    cases fa δ with
    | none => cases x <;> rfl
    | some d => cases x <;> rfl
theorem v_app_s {l : List D} : qA i (some (.list l)) (some d) δ = if l.length < 1000000 then some (.nx (δ.set i (some (.d (.list (l ++ [d])))))) else none := rfl
theorem v_put {fk : FE} : sPut i fk fa δ = qP i (fa δ) (dVar i δ) (fk δ) δ := by
  unfold sPut qP
  cases fa δ with
  | none => rfl
  | some d =>
    cases dVar i δ with
    | none => rfl
    | some x =>
      cases fk δ with
      | none => cases x <;> rfl
      | some k => cases x <;> cases k <;> rfl
theorem v_put_s {l : List D} {j : Int} : qP i (some d) (some (.list l)) (some (.int j)) δ = (pIx l.length j).bind fun n => some (.nx (δ.set i (some (.d (.list (l.set n d)))))) := rfl
theorem v_chain {g' : D → D → Option D} : dChain g g' fa fb fc δ = qCh g' (qO g (fa δ) (fb δ)) (fb δ) fc δ := by
  unfold dChain qCh qO
  cases fa δ with
  | none => rfl
  | some x =>
    cases fb δ with
    | none => rfl
    | some y =>
      dsimp only [Option.bind_some]
      cases g x y with
      | none => rfl
      | some z =>
        cases z <;> try rfl
        next b =>
        cases b with
        | false => rfl
        | true => dsimp only [Option.bind_some]; cases fc δ <;> rfl
theorem v_chain_t {g' : D → D → Option D} {y : Option D} : qCh g' (some (.bool true)) y fc δ = qO g' y (fc δ) := rfl
theorem v_chain_f {g' : D → D → Option D} {y : Option D} : qCh g' (some (.bool false)) y fc δ = some (.bool false) := rfl
theorem v_fn {p q : Nat} {ds : List D} : fnD p q b ds = if ds.length = p then qFn (b (ds.map (fun d => some (.d d)) ++ List.replicate q none)) else none := by
  unfold fnD qFn
  rfl
theorem v_fn_rt : qFn (some (.rt d)) = some d := rfl
theorem v_fn_nx {δ' : DS} : qFn (some (.nx δ')) = some .none := rfl
theorem v_comp {t : Nat} {ix : List Nat} : dComp fr G c fa t ix δ = qCo (fr δ) G c fa t ix δ := by
  unfold dComp qCo
  cases fr δ with
  | none => rfl
  | some l =>
    dsimp only [Option.bind_some]
    by_cases z : l.length ≤ 100000
    · rw [if_pos z, if_pos z]
      cases compD G c fa (capD t ix δ) l <;> rfl
    · rw [if_neg z, if_neg z]
theorem v_comp_s {t : Nat} {ix : List Nat} {l : List D} : qCo (some l) G c fa t ix δ = if l.length ≤ 100000 then (match compD G c fa (capD t ix δ) l with | some r => some (.list r) | none => none) else none := rfl
theorem v_yes : D3.tYes δ = some true := rfl
theorem v_var0 {r : DS} {x : D} : dVar 0 (some (.d x) :: r) = some x := rfl
theorem v_varS {r : DS} {y : Option U} : dVar (i + 1) (y :: r) = dVar i r := rfl
end
section
variable {i j : Int} {l m : List D} {d : D}
theorem n_add : gAdd (.int i) (.int j) = some (.int (i + j)) := rfl
theorem n_sub : gSub (.int i) (.int j) = some (.int (i - j)) := rfl
theorem n_lt : gLt (.int i) (.int j) = some (.bool (decide (i < j))) := rfl
theorem n_le : gLe (.int i) (.int j) = some (.bool (decide (i ≤ j))) := rfl
theorem n_gt : gGt (.int i) (.int j) = some (.bool (decide (j < i))) := rfl
theorem n_ge : gGe (.int i) (.int j) = some (.bool (decide (j ≤ i))) := rfl
theorem n_eqI : gEq (.int i) (.int j) = some (.bool (decide (i = j))) := rfl
theorem n_neI : gNe (.int i) (.int j) = some (.bool (!decide (i = j))) := rfl
theorem n_len : gLen [.list l] = some (.int l.length) := rfl
theorem n_lenT : gLen [.tuple l] = some (.int l.length) := rfl
theorem n_abs : gAbs [.int i] = some (.int (if i < 0 then -i else i)) := rfl
theorem n_max : gMax2 [.int i, .int j] = some (.int (if j > i then j else i)) := rfl
theorem n_min : gMin2 [.int i, .int j] = some (.int (if j < i then j else i)) := rfl
theorem n_neg : gNeg (.int i) = some (.int (-i)) := rfl
theorem n_ix : gIx (.list l) (.int i) = pAt l i := rfl
theorem n_ixT : gIx (.tuple l) (.int i) = pAt l i := rfl
theorem n_cat : gCat (.list l) (.list m) = if l.length + m.length ≤ 1000000 then some (.list (l ++ m)) else none := rfl
theorem n_list : gList (.list l) = some (.list l) := rfl
theorem n_listT : gList (.tuple l) = some (.list l) := rfl
theorem n_at0 : pAt (d :: l) 0 = some d := by
  unfold pAt pIx
  rw [if_pos (by decide), if_pos (by simp)]
  rfl
end
def qPar (i j : Nat) (a : Option (List D)) (δ : DS) : Option Oc := match a with
  | some l => match l with
    | [x, y] => if i < δ.length ∧ j < δ.length then some (.nx ((δ.set i (some (.d x))).set j (some (.d y)))) else none
    | _ => none
  | none => none
def qRng1 (a : Option (List D)) : Option (List D) := match a with
  | some l => match l with
    | [.int j] => if rngG j = true then some (rngD 0 j) else none
    | _ => none
  | none => none
def qRng2 (a : Option (List D)) : Option (List D) := match a with
  | some l => match l with
    | [.int i, .int j] => if (rngG i && rngG j) = true then some (rngD i j) else none
    | _ => none
  | none => none
def qSl (x : Option D) (a b : Option (Option Int)) : Option D := match x, a, b with
  | some (.list l), some a, some b => some (.list (cutD l a b))
  | _, _, _ => none
def qOP (x : Option D) : Option (Option Int) := match x with
  | some (.int i) => some (some i)
  | _ => none
def qEn (x : Option D) : Option (List D) := match x with
  | some (.list l) => some (enumD l)
  | _ => none
section
variable {a b : FS} {fa : FE} {fr : FA} {δ : DS} {i j : Nat} {g : FG}
theorem v_par : sPar i j fr δ = qPar i j (fr δ) δ := by
  unfold sPar qPar
  cases fr δ with
  | none => rfl
  | some l => rfl
theorem v_par_s {x y : D} : qPar i j (some [x, y]) δ = if i < δ.length ∧ j < δ.length then some (.nx ((δ.set i (some (.d x))).set j (some (.d y)))) else none := rfl
theorem v_rng1 : fRng1 fr δ = qRng1 (fr δ) := by
  unfold fRng1 qRng1
  cases fr δ with
  | none => rfl
  | some l => rfl
theorem rng1 {k : Int} (h : -(2 ^ 62) ≤ k) (h2 : k < 2 ^ 62) : qRng1 (some [.int k]) = some (rngD 0 k) := by
  show (if rngG k = true then some (rngD 0 k) else none) = _
  rw [if_pos]
  unfold rngG
  rw [decide_eq_true h, decide_eq_true h2]
  rfl
theorem v_rng2 : fRng2 fr δ = qRng2 (fr δ) := by
  unfold fRng2 qRng2
  cases fr δ with
  | none => rfl
  | some l => rfl
theorem v_sl {lo hi : FO} : dSl fa lo hi δ = qSl (fa δ) (lo δ) (hi δ) := by
  unfold dSl qSl
  cases fa δ with
  | none => rfl
  | some x =>
    dsimp only [Option.bind_some]
    cases lo δ with
    | none => cases x <;> rfl
    | some p =>
      dsimp only [Option.bind_some]
      cases hi δ with
      | none => cases x <;> rfl
      | some r => cases x <;> rfl
theorem v_sl_s {l : List D} {p r : Option Int} : qSl (some (.list l)) (some p) (some r) = some (.list (cutD l p r)) := rfl
theorem v_oN : oNone δ = some none := rfl
theorem v_oP : oPart fa δ = qOP (fa δ) := by
  unfold oPart qOP
  cases fa δ with
  | none => rfl
  | some x => cases x <;> rfl
theorem v_oP_s {k : Int} : qOP (some (.int k)) = some (some k) := rfl
theorem v_enum : fEnum fa δ = qEn (fa δ) := by
  unfold fEnum qEn
  cases fa δ with
  | none => rfl
  | some x => cases x <;> rfl
theorem v_enum_s {l : List D} : qEn (some (.list l)) = some (enumD l) := rfl
end
def qX (a : Option D) (δ : DS) : Option Oc := match a with
  | some _ => some (.nx δ)
  | none => none
theorem v_expr {fa : FE} {δ : DS} : sExpr fa δ = qX (fa δ) δ := by
  unfold sExpr qX
  cases fa δ <;> rfl
theorem v_expr_s {d : D} {δ : DS} : qX (some d) δ = some (.nx δ) := rfl
theorem v_chain3 {g g' g'' : D → D → Option D} {fa fb fc fd : FE} {δ : DS} : dChain3 g g' g'' fa fb fc fd δ = qAnd (qO g (fa δ) (fb δ)) (dChain g' g'' fb fc fd) δ := by
  unfold dChain3 qAnd dChain qO
  cases fa δ with
  | none => rfl
  | some x =>
    cases fb δ with
    | none => rfl
    | some y =>
      dsimp only [Option.bind_some]
      cases g x y with
      | none => rfl
      | some z =>
        cases z <;> try rfl
        next b => cases b <;> rfl
def qZ (a b : Option D) : Option (List D) := match a, b with
  | some (.list l), some (.list m) => some (zipD l m)
  | _, _ => none
theorem v_zip {f g : FE} {δ : DS} : fZip f g δ = qZ (f δ) (g δ) := by
  unfold fZip qZ
  cases f δ with
  | none => rfl
  | some x =>
    cases g δ with
    | none => cases x <;> rfl
    | some y => cases x <;> cases y <;> rfl
theorem v_zip_s {l m : List D} : qZ (some (.list l)) (some (.list m)) = some (zipD l m) := rfl
theorem v_n1 {fa : FE} {δ : DS} : dN1 fa δ = qFl (fun d => decide (nl d ≤ 1)) (fa δ) := by
  unfold dN1 qFl
  cases fa δ <;> rfl
theorem f_non : flat .none = true := rfl
theorem f_bl {b : Bool} : flat (.bool b) = true := rfl
theorem f_int {i : Int} : flat (.int i) = true := rfl
theorem f_str {x : Str} : flat (.str x) = true := rfl
theorem f_lst {l : List D} : flat (.list l) = false := rfl
theorem f_tup {l : List D} : flat (.tuple l) = flats l := rfl
theorem f_nil : flats [] = true := rfl
theorem f_cons {d : D} {l : List D} : flats (d :: l) = (flat d && flats l) := rfl
theorem f1_non : fl1 .none = true := rfl
theorem f1_bl {b : Bool} : fl1 (.bool b) = true := rfl
theorem f1_int {i : Int} : fl1 (.int i) = true := rfl
theorem f1_str {x : Str} : fl1 (.str x) = true := rfl
theorem f1_lst {l : List D} : fl1 (.list l) = flats l := rfl
theorem f1_tup {l : List D} : fl1 (.tuple l) = flats l := rfl
theorem u_is {c : String} {d : D} : gIs c d = some (.bool (isT c (tyD d))) := rfl
theorem u_isN {d : D} : gIsN d = some (.bool (isNone d)) := rfl
theorem u_notN {d : D} : gNotN d = some (.bool (!isNone d)) := rfl
theorem n_non : isNone .none = true := rfl
theorem n_bl {b : Bool} : isNone (.bool b) = false := rfl
theorem n_int {i : Int} : isNone (.int i) = false := rfl
theorem n_str {x : Str} : isNone (.str x) = false := rfl
theorem n_lst {l : List D} : isNone (.list l) = false := rfl
theorem n_tup {l : List D} : isNone (.tuple l) = false := rfl
theorem n_dic {l : List (D × D)} : isNone (.dict l) = false := rfl
def EVL := And.intro @f_non <| And.intro @f_bl <| And.intro @f_int <| And.intro @f_str <| And.intro @f_lst <| And.intro @f_tup <| And.intro @f_nil <| And.intro @f_cons <| And.intro @f1_non <| And.intro @f1_bl <| And.intro @f1_int <| And.intro @f1_str <| And.intro @f1_lst <| And.intro @f1_tup <| And.intro @u_is <| And.intro @u_isN <| And.intro @u_notN <| And.intro @n_non <| And.intro @n_bl <| And.intro @n_int <| And.intro @n_str <| And.intro @n_lst <| And.intro @n_tup <| And.intro @n_dic <| And.intro @List.length_cons.{0} <| And.intro @List.length_nil.{0} <| And.intro @List.map_cons.{0, 0} <| And.intro @List.map_nil.{0, 0} <| And.intro @List.replicate_succ.{0} <| And.intro @List.replicate_zero.{0} <| And.intro @List.cons_append.{0} <| And.intro @List.nil_append.{0} <| And.intro @List.append_nil.{0} <| And.intro @List.set_cons_zero.{0} <| And.intro @List.set_cons_succ.{0} <| And.intro @Nat.zero_add <| And.intro @if_true.{1} <| And.intro @decide_true <| And.intro @decide_false <| And.intro @Int.cast_ofNat_Int <| And.intro @Bool.not_true <| And.intro @Bool.not_false <| @Bool.and_self
def EV := And.intro EVL <| And.intro @v_n1 <| And.intro @v_zip <| And.intro @v_zip_s <| And.intro @v_expr <| And.intro @v_expr_s <| And.intro @v_chain3 <| And.intro @v_seq (And.intro @v_seq_nx (And.intro @v_seq_rt (And.intro @v_seq_bk (And.intro @v_seq_ct (And.intro @v_nil (And.intro @v_bk (And.intro @v_ct (And.intro @v_if (And.intro @v_if_t (And.intro @v_if_f (And.intro @v_op (And.intro @v_op_s (And.intro @v_un (And.intro @v_un_s (And.intro @v_lnil (And.intro @v_lcons (And.intro @v_lcons_s (And.intro @v_call (And.intro @v_call_s (And.intro @v_ret (And.intro @v_ret_s (And.intro @v_retN (And.intro @v_set (And.intro @v_set_s (And.intro @v_c (And.intro @v_and (And.intro @v_and_t (And.intro @v_and_f (And.intro @v_or (And.intro @v_or_t (And.intro @v_or_f (And.intro @v_not (And.intro @v_not_s (And.intro @v_tb (And.intro @v_tb_s (And.intro @v_tand (And.intro @v_tand_t (And.intro @v_tand_f (And.intro @v_tor (And.intro @v_tor_t (And.intro @v_tor_f (And.intro @v_tnot (And.intro @v_tnot_s (And.intro @v_ite (And.intro @v_ite_t (And.intro @v_ite_f (And.intro @v_lst (And.intro @v_lst_s (And.intro @v_for (And.intro @v_for_s (And.intro @v_for_nil (And.intro @v_asg (And.intro @v_asg_s (And.intro @v_asg_d (And.intro @v_gn (And.intro @v_gt (And.intro @v_gsn (And.intro @v_gsc (And.intro @v_gsc_s (And.intro @v_tup (And.intro @v_tup_s (And.intro @v_dl (And.intro @v_dl_s (And.intro @v_flat (And.intro @v_fl1 (And.intro @v_fl_s (And.intro @v_app (And.intro @v_app_s (And.intro @v_put (And.intro @v_put_s (And.intro @v_chain (And.intro @v_chain_t (And.intro @v_chain_f (And.intro @v_fn (And.intro @v_fn_rt (And.intro @v_fn_nx (And.intro @v_comp (And.intro @v_comp_s (And.intro @v_yes (And.intro @v_var0 (And.intro @v_varS (And.intro @n_add (And.intro @n_sub (And.intro @n_lt (And.intro @n_le (And.intro @n_gt (And.intro @n_ge (And.intro @n_eqI (And.intro @n_neI (And.intro @n_len (And.intro @n_lenT (And.intro @n_abs (And.intro @n_max (And.intro @n_min (And.intro @n_neg (And.intro @n_ix (And.intro @n_ixT (And.intro @n_cat (And.intro @n_list (And.intro @n_listT (And.intro @n_at0 (And.intro @v_par (And.intro @v_par_s (And.intro @v_rng1 (And.intro @v_rng2 (And.intro @v_sl (And.intro @v_sl_s (And.intro @v_oN (And.intro @v_oP (And.intro @v_oP_s (And.intro @v_enum @v_enum_s)))))))))))))))))))))))))))))))))))))))))))))))))))))))))))))))))))))))))))))))))))))))))))))))))))))))))))))))
end D3
namespace My
def cellF (ns : List Int) (i : Int) : Int :=
  if i < (ns.length : Int) then ns.getD i.toNat 0 % 1000000007
  else if ns = [] then 7919 * i + 5000011
  else ns.getD (i * 7 % (ns.length : Int)).toNat 0 % 1000000007 + 7919 * i
def divs (n : Int) : Nat → Int
  | 0 => n
  | k + 1 => divs n k / 1000003
def drawF (c i k m : Int) : Int :=
  (((c + 65537 * i + 3) * (1299709 + 15485863 * k) % 2147483629 * ((c + 65537 * i + 3) * (1299709 + 15485863 * k) % 2147483629) % 1500450271 + 104729) *
    ((c + 65537 * i + 3) * (1299709 + 15485863 * k) % 2147483629 * ((c + 65537 * i + 3) * (1299709 + 15485863 * k) % 2147483629) % 1500450271 + 104729)) % 715827883 / 64 % m
def partF (ns : List Int) (i k m : Int) : Int :=
  if i < (ns.length : Int) ∧ 10 ^ 40 ≤ ns.getD i.toNat 0 ∧ 0 < divs (ns.getD i.toNat 0) k.toNat then divs (ns.getD i.toNat 0) k.toNat % 1000003 % m
  else drawF (cellF ns i) i k m
def farF (ns : List Int) (i : Int) : Int :=
  if i < (ns.length : Int) then ns.getD i.toNat 0 % 10 ^ 60 else partF ns i 59 (10 ^ 6) * 10 ^ 40 + partF ns i 60 (10 ^ 6)
theorem partF_range (ns : List Int) (i k : Int) {m : Int} (h : 0 < m) : 0 ≤ partF ns i k m ∧ partF ns i k m < m := by
  unfold partF drawF
  split
  · exact ⟨Int.emod_nonneg _ (by omega), Int.emod_lt_of_pos _ h⟩
  · exact ⟨Int.emod_nonneg _ (by omega), Int.emod_lt_of_pos _ h⟩
theorem partF_hit {ns : List Int} {i k m : Int} (h1 : i < (ns.length : Int)) (h2 : 10 ^ 40 ≤ ns.getD i.toNat 0) (h3 : 0 < divs (ns.getD i.toNat 0) k.toNat) :
    partF ns i k m = divs (ns.getD i.toNat 0) k.toNat % 1000003 % m := by
  unfold partF
  rw [if_pos ⟨h1, h2, h3⟩]
theorem partF_miss {ns : List Int} {i k m : Int} (h : ¬ (i < (ns.length : Int) ∧ 10 ^ 40 ≤ ns.getD i.toNat 0 ∧ 0 < divs (ns.getD i.toNat 0) k.toNat)) :
    partF ns i k m = drawF (cellF ns i) i k m := by
  unfold partF
  rw [if_neg h]
def gcdI (a b : Int) : Int := ((Nat.gcd a.natAbs b.natAbs : Nat) : Int)
theorem gcdI_zero {a : Int} (h : 0 ≤ a) : gcdI a 0 = a := by
  unfold gcdI
  simp
  omega
theorem gcdI_step {a b : Int} (ha : 0 ≤ a) (hb : 0 < b) : gcdI b (a % b) = gcdI a b := by
  unfold gcdI
  have e : (a % b).natAbs = a.natAbs % b.natAbs := by
    rw [Int.natAbs_emod_of_nonneg ha]
  rw [e, Nat.gcd_comm b.natAbs, ← Nat.gcd_rec b.natAbs a.natAbs, Nat.gcd_comm]
theorem gcdI_abs (a b : Int) : gcdI (if a < 0 then -a else a) (if b < 0 then -b else b) = gcdI a b := by
  unfold gcdI
  have e : ∀ c : Int, (if c < 0 then -c else c).natAbs = c.natAbs := fun c => by split <;> omega
  rw [e, e]
end My
namespace Com
open PySem D3
noncomputable def F_is_whole : List D → Option D := fnD 1 0 (sRet (dAnd (dUn (gIs "int") (dVar 0)) (dNot (dUn (gIs "bool") (dVar 0)))))
noncomputable def F_greatest_divisor : List D → Option D := fnD 2 1 (sSeq (sWhile (tBool (dOp gNe (dVar 1) (dC (.int 0)))) (sSeq (sSetl 2 (dOp gMod (dVar 0) (dVar 1)))
    (sSeq (sSetl 0 (dVar 1))
    (sSetl 1 (dVar 2)))))
    (sRet (dFlat (dVar 0))))
noncomputable def F_lowest : List D → Option D := fnD 2 1 (sSeq (sSetl 2 (dCall F_greatest_divisor (dCons (dCall gAbs (dCons (dVar 0) (dNil))) (dCons (dCall gAbs (dCons (dVar 1) (dNil))) (dNil)))))
    (sSeq (sIf (tBool (dOp gLt (dVar 1) (dC (.int 0)))) (sSetl 2 (dUn gNeg (dVar 2))) (sNil))
    (sRet (dTup (dCons (dOp gDiv (dVar 0) (dVar 2)) (dCons (dOp gDiv (dVar 1) (dVar 2)) (dNil)))))))
noncomputable def F_ratio : List D → Option D := fnD 2 0 (sSeq (sIf (D3.tOr (D3.tNot (tBool (dCall F_is_whole (dCons (dVar 0) (dNil))))) (D3.tNot (tBool (dCall F_is_whole (dCons (dVar 1) (dNil)))))) ((fun _ => none)) (sNil))
    (sSeq (sIf (tBool (dOp gEq (dVar 1) (dC (.int 0)))) ((fun _ => none)) (sNil))
    (sRet (dCall F_lowest (dCons (dVar 0) (dCons (dVar 1) (dNil)))))))
noncomputable def F__law_cell : List D → Option D := fnD 2 0 (sSeq (sIf (tBool (dOp gLt (dVar 1) (dCall gLen (dCons (dVar 0) (dNil))))) (sRet (dOp gMod (dOp gIx (dVar 0) (dVar 1)) (dC (.int 1000000007)))) (sNil))
    (sSeq (sIf (tBool (dOp gEq (dVar 0) (dLst (dNil)))) (sRet (dOp gAdd (dOp gMul (dC (.int 7919)) (dVar 1)) (dC (.int 5000011)))) (sNil))
    (sRet (dOp gAdd (dOp gMod (dOp gIx (dVar 0) (dOp gMod (dOp gMul (dVar 1) (dC (.int 7))) (dCall gLen (dCons (dVar 0) (dNil))))) (dC (.int 1000000007))) (dOp gMul (dC (.int 7919)) (dVar 1))))))
noncomputable def F__law_part : List D → Option D := fnD 4 2 (sSeq (sIf (D3.tAnd (tBool (dOp gLt (dVar 1) (dCall gLen (dCons (dVar 0) (dNil))))) (tBool (dOp gGe (dOp gIx (dVar 0) (dVar 1)) (dOp gPow (dC (.int 10)) (dC (.int 40)))))) (sSeq (sSetl 4 (dOp gIx (dVar 0) (dVar 1)))
    (sSeq (sFor (fRng1 (dCons (dVar 2) (dNil))) (gNl 5) (sSetl 4 (dOp gDiv (dVar 4) (dC (.int 1000003)))))
    (sIf (tBool (dOp gGt (dVar 4) (dC (.int 0)))) (sRet (dOp gMod (dOp gMod (dVar 4) (dC (.int 1000003))) (dVar 3))) (sNil)))) (sNil))
    (sSeq (sSetl 4 (dOp gMod (dOp gMul (dOp gAdd (dOp gAdd (dCall F__law_cell (dCons (dVar 0) (dCons (dVar 1) (dNil)))) (dOp gMul (dC (.int 65537)) (dVar 1))) (dC (.int 3))) (dOp gAdd (dC (.int 1299709)) (dOp gMul (dC (.int 15485863)) (dVar 2)))) (dC (.int 2147483629))))
    (sSeq (sSetl 4 (dOp gAdd (dOp gMod (dOp gMul (dVar 4) (dVar 4)) (dC (.int 1500450271))) (dC (.int 104729))))
    (sRet (dOp gMod (dOp gDiv (dOp gMod (dOp gMul (dVar 4) (dVar 4)) (dC (.int 715827883))) (dC (.int 64))) (dVar 3))))))
noncomputable def F__law_far : List D → Option D := fnD 2 0 (sSeq (sIf (tBool (dOp gLt (dVar 1) (dCall gLen (dCons (dVar 0) (dNil))))) (sRet (dOp gMod (dOp gIx (dVar 0) (dVar 1)) (dOp gPow (dC (.int 10)) (dC (.int 60))))) (sNil))
    (sRet (dOp gAdd (dOp gMul (dCall F__law_part (dCons (dVar 0) (dCons (dVar 1) (dCons (dC (.int 59)) (dCons (dOp gPow (dC (.int 10)) (dC (.int 6))) (dNil)))))) (dOp gPow (dC (.int 10)) (dC (.int 40)))) (dCall F__law_part (dCons (dVar 0) (dCons (dVar 1) (dCons (dC (.int 60)) (dCons (dOp gPow (dC (.int 10)) (dC (.int 6))) (dNil)))))))))
noncomputable def F__law_whole : List D → Option D := fnD 1 0 (sRet (dAnd (dUn (gIs "int") (dVar 0)) (dNot (dUn (gIs "bool") (dVar 0)))))
noncomputable def F__law_divisor : List D → Option D := fnD 2 0 (sSeq (sWhile (tBool (dOp gGt (dVar 1) (dC (.int 0)))) (sPar 0 1 (dCons (dVar 1) (dCons (dOp gMod (dVar 0) (dVar 1)) (dNil)))))
    (sRet (dFlat (dVar 0))))
noncomputable def F__law_number : List D → Option D := fnD 2 2 (sSeq (sSetl 2 (dCall F__law_far (dCons (dVar 0) (dCons (dVar 1) (dNil)))))
    (sSeq (sSetl 3 (dLst (dCons (dOp gSub (dCall F__law_part (dCons (dVar 0) (dCons (dVar 1) (dCons (dC (.int 2)) (dCons (dC (.int 19)) (dNil)))))) (dC (.int 9))) (dCons (dOp gSub (dCall F__law_part (dCons (dVar 0) (dCons (dVar 1) (dCons (dC (.int 2)) (dCons (dC (.int 2001)) (dNil)))))) (dC (.int 1000))) (dCons (dOp gSub (dCall F__law_part (dCons (dVar 0) (dCons (dVar 1) (dCons (dC (.int 2)) (dCons (dC (.int 5)) (dNil)))))) (dC (.int 2))) (dNil))))))
    (sSeq (sSetl 3 (dOp gCat (dVar 3) (dLst (dCons (dOp gSub (dOp gMod (dVar 2) (dOp gAdd (dOp gMul (dC (.int 2)) (dOp gPow (dC (.int 10)) (dC (.int 9)))) (dC (.int 1)))) (dOp gPow (dC (.int 10)) (dC (.int 9)))) (dCons (dOp gSub (dVar 2) (dOp gMul (dC (.int 5)) (dOp gPow (dC (.int 10)) (dC (.int 59))))) (dCons (dOp gAdd (dOp gMul (dOp gMul (dVar 2) (dOp gPow (dC (.int 10)) (dC (.int 60)))) (dOp gPow (dC (.int 10)) (dC (.int 25)))) (dVar 2)) (dNil)))))))
    (sRet (dFlat (dOp gIx (dVar 3) (dCall F__law_part (dCons (dVar 0) (dCons (dVar 1) (dCons (dC (.int 1)) (dCons (dC (.int 6)) (dNil))))))))))))
noncomputable def F__law_right : List D → Option D := fnD 3 0 (sSeq (sIf (D3.tOr (D3.tNot (tBool (dUn (gIs "tuple") (dVar 0)))) (D3.tOr (tBool (dOp gNe (dCall gLen (dCons (dVar 0) (dNil))) (dC (.int 2)))) (D3.tOr (D3.tNot (tBool (dCall F__law_whole (dCons (dOp gIx (dVar 0) (dC (.int 0))) (dNil))))) (D3.tNot (tBool (dCall F__law_whole (dCons (dOp gIx (dVar 0) (dC (.int 1))) (dNil)))))))) (sRet (dC (.bool false))) (sNil))
    (sSeq (sIf (D3.tOr (tBool (dOp gLt (dOp gIx (dVar 0) (dC (.int 1))) (dC (.int 1)))) (tBool (dOp gNe (dCall F__law_divisor (dCons (dOp gIx (dVar 0) (dC (.int 0))) (dCons (dOp gIx (dVar 0) (dC (.int 1))) (dNil)))) (dC (.int 1))))) (sRet (dC (.bool false))) (sNil))
    (sRet (dOp gEq (dOp gMul (dOp gIx (dVar 0) (dC (.int 0))) (dVar 2)) (dOp gMul (dVar 1) (dOp gIx (dVar 0) (dC (.int 1))))))))
noncomputable def F_under : List D → Option D := fnD 2 0 (sRet (dOp gLt (dOp gMul (dOp gIx (dVar 0) (dC (.int 0))) (dOp gIx (dVar 1) (dC (.int 1)))) (dOp gMul (dOp gIx (dVar 1) (dC (.int 0))) (dOp gIx (dVar 0) (dC (.int 1))))))
noncomputable def F__law_told : List D → Option D := fnD 3 1 (sSeq (sSetl 3 (dCall F_under (dCons (dVar 0) (dCons (dVar 1) (dNil)))))
    (sRet (dAnd (dUn (gIs "bool") (dVar 3)) (dOp gEq (dVar 3) (dVar 2)))))
end Com
namespace Com
open PySem D3 My
theorem pAt_ints {ns : List Int} {i : Int} (h0 : 0 ≤ i) (h1 : i < ns.length) : pAt (ns.map PyData.int) i = some (.int (ns.getD i.toNat 0)) := by
  unfold pAt pIx
  rw [List.length_map, if_pos h0, if_pos h1, Option.bind_some, List.getElem?_map]
  have h : i.toNat < ns.length := by omega
  rw [List.getElem?_eq_getElem h]
  simp [List.getD, h]
theorem pAt_nat {l : List D} {k : Nat} : pAt l (k : Int) = l[k]? := by
  unfold pAt pIx
  rw [if_pos (by omega)]
  by_cases h : k < l.length
  · rw [if_pos (by omega), Option.bind_some]
    simp
  · rw [if_neg (by omega), List.getElem?_eq_none (by omega)]
    rfl
theorem at0 {a : D} {l : List D} : pAt (a :: l) 0 = some a := pAt_nat (k := 0)
theorem at1 {a b : D} {l : List D} : pAt (a :: b :: l) 1 = some b := pAt_nat (k := 1)
theorem modP {i j : Int} (h : 0 < j) : gMod (.int i) (.int j) = some (.int (i % j)) := by
  show (if decide (j ≠ 0) = true then some (PyData.int (i.fmod j)) else none) = _
  rw [if_pos (decide_eq_true (by omega)), Int.fmod_eq_emod_of_nonneg i (by omega)]
theorem small_lt {j : Int} (h : j.natAbs < 2 ^ 64) : j.natAbs < 2 ^ 9000 := Nat.lt_of_lt_of_le h (Nat.pow_le_pow_right (by decide) (by decide))
theorem divB {i j : Int} (h : 0 < j) (h2 : j.natAbs < 2 ^ 9000) : gDiv (.int i) (.int j) = some (.int (i / j)) := by
  show (if divG i j = true then some (PyData.int (i.fdiv j)) else none) = _
  have e : divG i j = true := by
    unfold divG
    rw [Bool.and_eq_true]
    exact ⟨decide_eq_true (by omega), decide_eq_true h2⟩
  rw [if_pos e, Int.fdiv_eq_ediv_of_nonneg i (by omega)]
theorem divP {i j : Int} (h : 0 < j) (h2 : j < 18446744073709551616) : gDiv (.int i) (.int j) = some (.int (i / j)) := divB h (small_lt (by omega))
theorem mulL {i j : Int} (h1 : -18446744073709551616 < i) (h2 : i < 18446744073709551616) : gMul (.int i) (.int j) = some (.int (i * j)) := by
  show (if mulG i j = true then some (PyData.int (i * j)) else none) = _
  have e : mulG i j = true := by
    unfold mulG
    rw [decide_eq_true (show i.natAbs < 2 ^ 64 by omega)]
    rfl
  rw [if_pos e]
theorem mulR {i j : Int} (h1 : -18446744073709551616 < j) (h2 : j < 18446744073709551616) : gMul (.int i) (.int j) = some (.int (i * j)) := by
  show (if mulG i j = true then some (PyData.int (i * j)) else none) = _
  have e : mulG i j = true := by
    unfold mulG
    rw [decide_eq_true (show j.natAbs < 2 ^ 64 by omega), Bool.or_true]
    rfl
  rw [if_pos e]
theorem mulB {i j : Int} (h1 : i.natAbs < 2 ^ 9000) (h2 : j.natAbs < 2 ^ 9000) : gMul (.int i) (.int j) = some (.int (i * j)) := by
  show (if mulG i j = true then some (PyData.int (i * j)) else none) = _
  have p : (2 : Nat) ^ 9000 ≤ 2 ^ 30000 := Nat.pow_le_pow_right (by decide) (by decide)
  have e : mulG i j = true := by
    unfold mulG
    rw [decide_eq_true (Nat.lt_of_lt_of_le h1 p), decide_eq_true (Nat.lt_of_lt_of_le h2 p)]
    simp
  rw [if_pos e]
theorem pow40 : gPow (.int 10) (.int 40) = some (.int (10 ^ 40)) := rfl
theorem pow60 : gPow (.int 10) (.int 60) = some (.int (10 ^ 60)) := rfl
theorem pow6 : gPow (.int 10) (.int 6) = some (.int (10 ^ 6)) := rfl
theorem sz {n : Nat} (h : n ≤ 1000000) : n ≤ sizeLine := Nat.le_trans h (by decide)
theorem shaped_ints (ns : List Int) : SeqAt.shaped (.list (ns.map PyData.int)) = true := by
  have h1 : ∀ ns : List Int, PyData.canLayAll0 (ns.map PyData.int) = true := fun ns => by
    induction ns with
    | nil => rfl
    | cons a r ih => simp [PyData.canLayAll0, PyData.canLay0, ih]
  have h2 : ∀ ns : List Int, PyData.depthAll (ns.map PyData.int) ≤ 1 := fun ns => by
    induction ns with
    | nil => simp [PyData.depthAll]
    | cons a r ih => simp [PyData.depthAll, PyData.depth]; omega
  unfold SeqAt.shaped
  rw [Bool.and_eq_true]
  refine ⟨by simp [PyData.canLay0, h1], decide_eq_true ?_⟩
  have := h2 ns
  simp only [PyData.depth]
  omega
theorem eq_empty (ns : List Int) : gEq (.list (ns.map PyData.int)) (.list []) = some (.bool (decide (ns = []))) := by
  unfold gEq
  rw [shaped_ints ns]
  cases ns with
  | nil => rfl
  | cons a r => rfl
theorem cell_spec {ns : List Int} {i : Int} (h0 : 0 ≤ i) : F__law_cell [.list (ns.map .int), .int i] = some (.int (cellF ns i)) := by
  unfold F__law_cell cellF
  by_cases h : i < (ns.length : Int)
  · rw [if_pos h]
    simp only [EV, reduceIte, Nat.reduceAdd, Nat.reduceLT, Nat.reduceLeDiff, Nat.reduceEqDiff, Int.reduceEq, Int.reduceLT, Int.reduceLE, List.length_map, decide_eq_true h, pAt_ints h0 h, modP (show (0 : Int) < 1000000007 by decide)]
  · rw [if_neg h]
    by_cases hn : ns = []
    · rw [if_pos hn]
      simp only [EV, reduceIte, Nat.reduceAdd, Nat.reduceLT, Nat.reduceLeDiff, Nat.reduceEqDiff, Int.reduceEq, Int.reduceLT, Int.reduceLE, List.length_map, decide_eq_false h, eq_empty, decide_eq_true hn, Nat.zero_le, mulL (show (-18446744073709551616 : Int) < 7919 by decide) (show (7919 : Int) < 18446744073709551616 by decide)]
    · rw [if_neg hn]
      have hl : 0 < ns.length := by
        cases ns with
        | nil => exact absurd rfl hn
        | cons _ _ => simp
      have h7 : 0 ≤ i * 7 % (ns.length : Int) := Int.emod_nonneg _ (by omega)
      have h8 : i * 7 % (ns.length : Int) < (ns.length : Int) := Int.emod_lt_of_pos _ (by omega)
      simp only [EV, reduceIte, Nat.reduceAdd, Nat.reduceLT, Nat.reduceLeDiff, Nat.reduceEqDiff, Int.reduceEq, Int.reduceLT, Int.reduceLE, List.length_map, decide_eq_false h, eq_empty, decide_eq_false hn, Nat.zero_le, mulL (show (-18446744073709551616 : Int) < 7919 by decide) (show (7919 : Int) < 18446744073709551616 by decide), mulR (show (-18446744073709551616 : Int) < 7 by decide) (show (7 : Int) < 18446744073709551616 by decide), modP (show (0 : Int) < 1000000007 by decide), modP (show (0 : Int) < ns.length by omega), pAt_ints h7 h8]
theorem divs_loop {l : D} {i k m : D} (n : Int) : ∀ (js : List D) (c : Nat) (y : Option U), (∀ j ∈ js, ∃ x, j = .int x) → ∃ y', forD (gNl 5) (sSetl 4 (dOp gDiv (dVar 4) (dC (.int 1000003)))) js [some (.d l), some (.d i), some (.d k), some (.d m), some (.d (.int (divs n c))), y] =
    some (.nx [some (.d l), some (.d i), some (.d k), some (.d m), some (.d (.int (divs n (c + js.length)))), y'])
  | [], c, y, _ => ⟨y, rfl⟩
  | j :: js, c, y, h => by
    obtain ⟨y', e⟩ := divs_loop (l := l) (i := i) (k := k) (m := m) n js (c + 1) (some (.d j)) fun j' hj => h j' (List.mem_cons_of_mem _ hj)
    refine ⟨y', ?_⟩
    rw [forD]
    simp only [EV, reduceIte, Nat.reduceAdd, Nat.reduceLT, Nat.reduceLeDiff, Nat.reduceEqDiff, Int.reduceEq, Int.reduceLT, Int.reduceLE, divP (show (0 : Int) < 1000003 by decide) (show (1000003 : Int) < 18446744073709551616 by decide), Option.bind_some]
    rw [show c + (js.length + 1) = c + 1 + js.length by omega, ← e]
    rfl
theorem rngD_ints (lo hi : Int) : ∀ j ∈ rngD lo hi, ∃ x, j = .int x := by
  intro j hj
  unfold rngD at hj
  obtain ⟨k, _, rfl⟩ := List.mem_map.mp hj
  exact ⟨_, rfl⟩
theorem part_spec {ns : List Int} {i k m : Int} (h0 : 0 ≤ i) (hk0 : 0 ≤ k) (hk : k ≤ 1000) (hm : 0 < m) : F__law_part [.list (ns.map .int), .int i, .int k, .int m] = some (.int (partF ns i k m)) := by
  have rest : ∀ x y : Option U, qFn ((sSeq (sSetl 4 (dOp gMod (dOp gMul (dOp gAdd (dOp gAdd (dCall F__law_cell (dCons (dVar 0) (dCons (dVar 1) (dNil)))) (dOp gMul (dC (.int 65537)) (dVar 1))) (dC (.int 3))) (dOp gAdd (dC (.int 1299709)) (dOp gMul (dC (.int 15485863)) (dVar 2)))) (dC (.int 2147483629))))
    (sSeq (sSetl 4 (dOp gAdd (dOp gMod (dOp gMul (dVar 4) (dVar 4)) (dC (.int 1500450271))) (dC (.int 104729))))
    (sRet (dOp gMod (dOp gDiv (dOp gMod (dOp gMul (dVar 4) (dVar 4)) (dC (.int 715827883))) (dC (.int 64))) (dVar 3))))) [some (.d (.list (ns.map .int))), some (.d (.int i)), some (.d (.int k)), some (.d (.int m)), x, y]) = some (.int (drawF (cellF ns i) i k m)) := by
    intro x y
    have b1 : 0 ≤ (cellF ns i + 65537 * i + 3) * (1299709 + 15485863 * k) % 2147483629 := Int.emod_nonneg _ (by decide)
    have b2 : (cellF ns i + 65537 * i + 3) * (1299709 + 15485863 * k) % 2147483629 < 2147483629 := Int.emod_lt_of_pos _ (by decide)
    have b3 : 0 ≤ (cellF ns i + 65537 * i + 3) * (1299709 + 15485863 * k) % 2147483629 * ((cellF ns i + 65537 * i + 3) * (1299709 + 15485863 * k) % 2147483629) % 1500450271 := Int.emod_nonneg _ (by decide)
    have b4 : (cellF ns i + 65537 * i + 3) * (1299709 + 15485863 * k) % 2147483629 * ((cellF ns i + 65537 * i + 3) * (1299709 + 15485863 * k) % 2147483629) % 1500450271 < 1500450271 := Int.emod_lt_of_pos _ (by decide)
    simp only [EV, reduceIte, Nat.reduceAdd, Nat.reduceLT, Nat.reduceLeDiff, Nat.reduceEqDiff, Int.reduceEq, Int.reduceLT, Int.reduceLE, cell_spec h0, mulL (show (-18446744073709551616 : Int) < 65537 by decide) (show (65537 : Int) < 18446744073709551616 by decide), mulL (show (-18446744073709551616 : Int) < 15485863 by decide) (show (15485863 : Int) < 18446744073709551616 by decide),
      mulR (i := cellF ns i + 65537 * i + 3) (show (-18446744073709551616 : Int) < 1299709 + 15485863 * k by omega) (show 1299709 + 15485863 * k < (18446744073709551616 : Int) by omega), modP (show (0 : Int) < 2147483629 by decide)]
    simp only [mulL (show (-18446744073709551616 : Int) < (cellF ns i + 65537 * i + 3) * (1299709 + 15485863 * k) % 2147483629 by omega) (show (cellF ns i + 65537 * i + 3) * (1299709 + 15485863 * k) % 2147483629 < (18446744073709551616 : Int) by omega)]
    simp only [EV, reduceIte, Nat.reduceAdd, Nat.reduceLT, Nat.reduceLeDiff, Nat.reduceEqDiff, Int.reduceEq, Int.reduceLT, Int.reduceLE, modP (show (0 : Int) < 1500450271 by decide)]
    rw [mulL (by omega) (by omega)]
    simp only [EV, reduceIte, Nat.reduceAdd, Nat.reduceLT, Nat.reduceLeDiff, Nat.reduceEqDiff, Int.reduceEq, Int.reduceLT, Int.reduceLE, modP (show (0 : Int) < 715827883 by decide), divP (show (0 : Int) < 64 by decide) (show (64 : Int) < 18446744073709551616 by decide), modP hm]
    rfl
  unfold F__law_part
  rw [v_fn]
  simp only [EV, reduceIte, Nat.reduceAdd, Nat.reduceLT, Nat.reduceLeDiff, Nat.reduceEqDiff, Int.reduceEq, Int.reduceLT, Int.reduceLE]
  by_cases h : i < (ns.length : Int)
  · by_cases h2 : 10 ^ 40 ≤ ns.getD i.toNat 0
    · simp only [EV, reduceIte, Nat.reduceAdd, Nat.reduceLT, Nat.reduceLeDiff, Nat.reduceEqDiff, Int.reduceEq, Int.reduceLT, Int.reduceLE, List.length_map, decide_eq_true h, pAt_ints h0 h, pow40, decide_eq_true h2]
      obtain ⟨y', e⟩ := divs_loop (l := .list (ns.map .int)) (i := .int i) (k := .int k) (m := .int m) (ns.getD i.toNat 0) (rngD 0 k) 0 none (rngD_ints 0 k)
      have el : 0 + (rngD 0 k).length = k.toNat := by simp [rngD]
      rw [el] at e
      have e' : forD (gNl 5) (sSetl 4 (dOp gDiv (dVar 4) (dC (.int 1000003)))) (rngD 0 k) [some (.d (.list (ns.map .int))), some (.d (.int i)), some (.d (.int k)), some (.d (.int m)), some (.d (.int (ns.getD i.toNat 0))), none] =
        some (.nx [some (.d (.list (ns.map .int))), some (.d (.int i)), some (.d (.int k)), some (.d (.int m)), some (.d (.int (divs (ns.getD i.toNat 0) k.toNat))), y']) := e
      rw [rng1 (by omega) (by omega)]
      simp only [EV, reduceIte, Nat.reduceAdd, Nat.reduceLT, Nat.reduceLeDiff, Nat.reduceEqDiff, Int.reduceEq, Int.reduceLT, Int.reduceLE, e']
      by_cases h3 : 0 < divs (ns.getD i.toNat 0) k.toNat
      · simp only [EV, reduceIte, Nat.reduceAdd, Nat.reduceLT, Nat.reduceLeDiff, Nat.reduceEqDiff, Int.reduceEq, Int.reduceLT, Int.reduceLE, decide_eq_true h3, modP (show (0 : Int) < 1000003 by decide), modP hm]
        rw [partF_hit h h2 h3]
      · simp only [EV, reduceIte, Nat.reduceAdd, Nat.reduceLT, Nat.reduceLeDiff, Nat.reduceEqDiff, Int.reduceEq, Int.reduceLT, Int.reduceLE, decide_eq_false h3]
        rw [partF_miss (fun z => h3 z.2.2)]
        have := rest (some (.d (.int (divs (ns.getD i.toNat 0) k.toNat)))) y'
        simp only [EV, reduceIte, Nat.reduceAdd, Nat.reduceLT, Nat.reduceLeDiff, Nat.reduceEqDiff, Int.reduceEq, Int.reduceLT, Int.reduceLE] at this
        exact this
    · simp only [EV, reduceIte, Nat.reduceAdd, Nat.reduceLT, Nat.reduceLeDiff, Nat.reduceEqDiff, Int.reduceEq, Int.reduceLT, Int.reduceLE, List.length_map, decide_eq_true h, pAt_ints h0 h, pow40, decide_eq_false h2]
      rw [partF_miss (fun z => h2 z.2.1)]
      have := rest none none
      simp only [EV, reduceIte, Nat.reduceAdd, Nat.reduceLT, Nat.reduceLeDiff, Nat.reduceEqDiff, Int.reduceEq, Int.reduceLT, Int.reduceLE] at this
      exact this
  · simp only [EV, reduceIte, Nat.reduceAdd, Nat.reduceLT, Nat.reduceLeDiff, Nat.reduceEqDiff, Int.reduceEq, Int.reduceLT, Int.reduceLE, List.length_map, decide_eq_false h]
    rw [partF_miss (fun z => h z.1)]
    have := rest none none
    simp only [EV, reduceIte, Nat.reduceAdd, Nat.reduceLT, Nat.reduceLeDiff, Nat.reduceEqDiff, Int.reduceEq, Int.reduceLT, Int.reduceLE] at this
    exact this
end Com
namespace Com
open PySem D3 My
theorem gcd_loop : ∀ (m : Nat) (a b : Int) (x : Option U), 0 ≤ a → 0 ≤ b → b.toNat ≤ m → ∃ x' n, whileD (tBool (dOp gNe (dVar 1) (dC (.int 0)))) (sSeq (sSetl 2 (dOp gMod (dVar 0) (dVar 1))) (sSeq (sSetl 0 (dVar 1)) (sSetl 1 (dVar 2)))) n [some (.d (.int a)), some (.d (.int b)), x] =
    some (.nx [some (.d (.int (gcdI a b))), some (.d (.int 0)), x']) := by
  intro m
  induction m with
  | zero =>
    intro a b x ha hb hm
    obtain rfl : b = 0 := by omega
    refine ⟨x, 1, ?_⟩
    rw [whileD]
    simp only [EV, reduceIte, Nat.reduceAdd, Nat.reduceLT, Nat.reduceLeDiff, Nat.reduceEqDiff, Int.reduceEq, Int.reduceLT, Int.reduceLE]
    rw [gcdI_zero ha]
    rfl
  | succ m ih =>
    intro a b x ha hb hm
    by_cases h : b = 0
    · subst h
      refine ⟨x, 1, ?_⟩
      rw [whileD]
      simp only [EV, reduceIte, Nat.reduceAdd, Nat.reduceLT, Nat.reduceLeDiff, Nat.reduceEqDiff, Int.reduceEq, Int.reduceLT, Int.reduceLE]
      rw [gcdI_zero ha]
      rfl
    · have hb' : 0 < b := by omega
      have h1 : 0 ≤ a % b := Int.emod_nonneg _ (by omega)
      have h2 : a % b < b := Int.emod_lt_of_pos _ hb'
      obtain ⟨x', n, e⟩ := ih b (a % b) (some (.d (.int (a % b)))) hb h1 (by omega)
      refine ⟨x', n + 1, ?_⟩
      rw [whileD]
      simp only [EV, reduceIte, Nat.reduceAdd, Nat.reduceLT, Nat.reduceLeDiff, Nat.reduceEqDiff, Int.reduceEq, Int.reduceLT, Int.reduceLE, decide_eq_false h, Option.bind_some, modP hb']
      rw [← gcdI_step ha hb', ← e]
theorem gcd_spec {a b : Int} (ha : 0 ≤ a) (hb : 0 ≤ b) : F_greatest_divisor [.int a, .int b] = some (.int (gcdI a b)) := by
  unfold F_greatest_divisor
  simp only [EV, reduceIte, Nat.reduceAdd, Nat.reduceLT, Nat.reduceLeDiff, Nat.reduceEqDiff, Int.reduceEq, Int.reduceLT, Int.reduceLE]
  obtain ⟨x', n, e⟩ := gcd_loop b.toNat a b none ha hb (Nat.le_refl _)
  rw [sWhile_of e]
  simp only [EV, reduceIte, Nat.reduceAdd, Nat.reduceLT, Nat.reduceLeDiff, Nat.reduceEqDiff, Int.reduceEq, Int.reduceLT, Int.reduceLE]
def rD (r : Rat) : D := .tuple [.int r.num, .int r.den]
def q (t b : Int) : Rat := mkRat t b.toNat
theorem gcd_pos {t b : Int} (h : 0 < b) : 0 < gcdI t b := by
  unfold gcdI
  have : 0 < Nat.gcd t.natAbs b.natAbs := Nat.gcd_pos_of_pos_right _ (by omega)
  omega
theorem gcd_le {t b : Int} (h : 0 < b) : gcdI t b ≤ b := by
  unfold gcdI
  have : Nat.gcd t.natAbs b.natAbs ≤ b.natAbs := Nat.gcd_le_right _ (by omega)
  omega
theorem q_num {t b : Int} (h : 0 < b) : (q t b).num = t / gcdI t b := by
  unfold q gcdI
  rw [Rat.num_mkRat, if_neg (by omega), Nat.gcd_comm]
  have e : b.natAbs = b.toNat := by omega
  rw [e]
theorem q_den {t b : Int} (h : 0 < b) : ((q t b).den : Int) = b / gcdI t b := by
  unfold q gcdI
  rw [Rat.den_mkRat, if_neg (by omega), Nat.gcd_comm]
  have e : b.natAbs = b.toNat := by omega
  rw [e]
  rw [Int.natCast_ediv]
  congr 1
  omega
theorem natAbs_lt {b c : Int} (h0 : 0 ≤ c) (h : c ≤ b) {n : Nat} (hb : b.natAbs < n) : c.natAbs < n := by omega
theorem lowest_spec {t b : Int} (h : 0 < b) (hb : b.natAbs < 2 ^ 9000) : F_lowest [.int t, .int b] = some (rD (q t b)) := by
  have g0 := gcd_pos (t := t) h
  have g1 := gcd_le (t := t) h
  have e1 : 0 ≤ (if t < 0 then -t else t) := by split <;> omega
  have e2 : 0 ≤ (if b < 0 then -b else b) := by split <;> omega
  unfold F_lowest
  simp only [EV, reduceIte, Nat.reduceAdd, Nat.reduceLT, Nat.reduceLeDiff, Nat.reduceEqDiff, Int.reduceEq, Int.reduceLT, Int.reduceLE, gcd_spec e1 e2, gcdI_abs, decide_eq_false (show ¬ b < 0 by omega), divB g0 (natAbs_lt (by omega) g1 hb), sz (show 2 ≤ 1000000 by decide)]
  unfold rD
  rw [q_num h, q_den h]
theorem whole_int (i : Int) : F_is_whole [.int i] = some (.bool true) := by
  unfold F_is_whole
  simp only [EV, reduceIte, Nat.reduceAdd, Nat.reduceLT, Nat.reduceLeDiff, Nat.reduceEqDiff, Int.reduceEq, Int.reduceLT, Int.reduceLE, tyD, D3.isT]
  rfl
theorem ratio_spec {t b : Int} (h : 0 < b) (hb : b.natAbs < 2 ^ 9000) : F_ratio [.int t, .int b] = some (rD (q t b)) := by
  unfold F_ratio
  simp only [EV, reduceIte, Nat.reduceAdd, Nat.reduceLT, Nat.reduceLeDiff, Nat.reduceEqDiff, Int.reduceEq, Int.reduceLT, Int.reduceLE, whole_int, decide_eq_false (show ¬ b = 0 by omega), lowest_spec h hb]
end Com
namespace Com
open PySem D3 My
def sm (k : Nat) (x : Int) : Prop := x.natAbs < 2 ^ k
theorem sm_le {k l : Nat} {x : Int} (h : sm k x) (hl : k ≤ l) : sm l x := Nat.lt_of_lt_of_le h (Nat.pow_le_pow_right (by decide) hl)
theorem sm_mul {k l : Nat} {x y : Int} (h : sm k x) (h' : sm l y) : sm (k + l) (x * y) := by
  unfold sm at *
  rw [Int.natAbs_mul, Nat.pow_add]
  exact Nat.mul_lt_mul'' h h'
theorem sm_add {k : Nat} {x y : Int} (h : sm k x) (h' : sm k y) : sm (k + 1) (x + y) := by
  unfold sm at *
  rw [Nat.pow_succ]
  have := Int.natAbs_add_le x y
  omega
theorem sm_of {k : Nat} {x y : Int} (h : sm k y) (h0 : 0 ≤ x) (h1 : x ≤ y) : sm k x := by
  unfold sm at *
  omega
theorem mulS {i j : Int} (h1 : sm 4000 i) (h2 : sm 4000 j) : gMul (.int i) (.int j) = some (.int (i * j)) := mulB (sm_le h1 (by decide)) (sm_le h2 (by decide))
theorem ldiv_loop : ∀ (m : Nat) (a b : Int), 0 ≤ a → 0 ≤ b → b.toNat ≤ m → ∃ n, whileD (tBool (dOp gGt (dVar 1) (dC (.int 0)))) (sPar 0 1 (dCons (dVar 1) (dCons (dOp gMod (dVar 0) (dVar 1)) (dNil)))) n [some (.d (.int a)), some (.d (.int b))] =
    some (.nx [some (.d (.int (gcdI a b))), some (.d (.int 0))]) := by
  intro m
  induction m with
  | zero =>
    intro a b ha hb hm
    obtain rfl : b = 0 := by omega
    refine ⟨1, ?_⟩
    rw [whileD]
    simp only [EV, reduceIte, Nat.reduceAdd, Nat.reduceLT, Nat.reduceLeDiff, Nat.reduceEqDiff, Int.reduceEq, Int.reduceLT, Int.reduceLE]
    rw [gcdI_zero ha]
    rfl
  | succ m ih =>
    intro a b ha hb hm
    by_cases h : b = 0
    · subst h
      refine ⟨1, ?_⟩
      rw [whileD]
      simp only [EV, reduceIte, Nat.reduceAdd, Nat.reduceLT, Nat.reduceLeDiff, Nat.reduceEqDiff, Int.reduceEq, Int.reduceLT, Int.reduceLE]
      rw [gcdI_zero ha]
      rfl
    · have hb' : 0 < b := by omega
      have h1 : 0 ≤ a % b := Int.emod_nonneg _ (by omega)
      have h2 : a % b < b := Int.emod_lt_of_pos _ hb'
      obtain ⟨n, e⟩ := ih b (a % b) hb h1 (by omega)
      refine ⟨n + 1, ?_⟩
      rw [whileD]
      simp only [EV, reduceIte, Nat.reduceAdd, Nat.reduceLT, Nat.reduceLeDiff, Nat.reduceEqDiff, Int.reduceEq, Int.reduceLT, Int.reduceLE, decide_eq_true hb', Option.bind_some, modP hb', and_self]
      rw [← gcdI_step ha hb', ← e]
theorem ldiv_spec {a b : Int} (ha : 0 ≤ a) (hb : 0 ≤ b) : F__law_divisor [.int a, .int b] = some (.int (gcdI a b)) := by
  unfold F__law_divisor
  simp only [EV, reduceIte, Nat.reduceAdd, Nat.reduceLT, Nat.reduceLeDiff, Nat.reduceEqDiff, Int.reduceEq, Int.reduceLT, Int.reduceLE]
  obtain ⟨n, e⟩ := ldiv_loop b.toNat a b ha hb (Nat.le_refl _)
  rw [sWhile_of e]
  simp only [EV, reduceIte, Nat.reduceAdd, Nat.reduceLT, Nat.reduceLeDiff, Nat.reduceEqDiff, Int.reduceEq, Int.reduceLT, Int.reduceLE]
end Com
namespace Com
open PySem D3 My
structure Tb where
  N : Nat
  w : Nat → Int
  B : Int
def sumTo (f : Nat → Int) : Nat → Int
  | 0 => 0
  | n + 1 => sumTo f n + f n
structure TbOk (t : Tb) (k : Nat) : Prop where
  B0 : 0 < t.B
  Bs : sm (7 * k + 1) t.B
  w0 : ∀ j, 0 ≤ t.w j
  wB : ∀ j, t.w j ≤ t.B
  wz : ∀ j, t.N ≤ j → t.w j = 0
  N1 : 1 ≤ t.N
  N4 : t.N ≤ 1 + 4 * k
  sum : sumTo t.w t.N = t.B
end Com
namespace Com
open PySem D3 My
theorem q_cross {x y : Int} (h : 0 < y) : (q x y).num * y = x * (q x y).den := by
  have e := Rat.mkRat_eq_iff (d₁ := (q x y).den) (d₂ := y.toNat) (n₁ := (q x y).num) (n₂ := x) (q x y).den_nz (by omega)
  have := e.mp (by rw [Rat.mkRat_self]; rfl)
  rw [show ((y.toNat : Nat) : Int) = y by omega] at this
  exact this
theorem q_den0 {x y : Int} : (0 : Int) < (q x y).den := by have := (q x y).den_nz; omega
theorem q_den_le {x y : Int} (h : 0 < y) : ((q x y).den : Int) ≤ y := by
  rw [q_den h]
  exact Int.ediv_le_self _ (by omega)
theorem rD_eqv (r : Rat) : PyData.eqv (rD r) (rD r) = true := by unfold rD; simp [PyData.eqv, PyData.eqvAll]
end Com
namespace Com
open PySem D3 My
structure bd (k : Nat) (a : Rat) : Prop where
  n : sm k a.num
  d : sm k (a.den : Int)
theorem bd.le {k l : Nat} {a : Rat} (h : bd k a) (hl : k ≤ l) : bd l a := ⟨sm_le h.n hl, sm_le h.d hl⟩
theorem den0 (a : Rat) : (0 : Int) < a.den := by have := a.den_nz; omega
theorem bd_q {k : Nat} {x y : Int} (hy : 0 < y) (h1 : sm k x) (h2 : sm k y) : bd k (q x y) := by
  refine ⟨?_, sm_of h2 (Int.le_of_lt q_den0) (q_den_le hy)⟩
  unfold sm at *
  rw [q_num hy]
  exact Nat.lt_of_le_of_lt (Int.natAbs_ediv_le_natAbs _ _) h1
end Com
namespace K11
open PySem D3
noncomputable abbrev F_is_whole : List D → Option D := Com.F_is_whole
noncomputable abbrev F_greatest_divisor : List D → Option D := Com.F_greatest_divisor
noncomputable abbrev F_lowest : List D → Option D := Com.F_lowest
noncomputable abbrev F_ratio : List D → Option D := Com.F_ratio
noncomputable def X_ratio : List D → Option Or := fnX 2 0 (xSeq (xIf (D3.tOr (D3.tNot (tBool (dCall F_is_whole (dCons (dVar 0) (dNil))))) (D3.tNot (tBool (dCall F_is_whole (dCons (dVar 1) (dNil)))))) (xRaise "NoNumber" (dC (.str "a ratio is made of two whole numbers"))) (xOf (sNil)))
    (xSeq (xIf (tBool (dOp gEq (dVar 1) (dC (.int 0)))) (xRaise "NoNumber" (dC (.str "the bottom of a ratio is not 0"))) (xOf (sNil)))
    (xOf (sRet (dCall F_lowest (dCons (dVar 0) (dCons (dVar 1) (dNil))))))))
noncomputable abbrev F__law_cell : List D → Option D := Com.F__law_cell
noncomputable abbrev F__law_part : List D → Option D := Com.F__law_part
noncomputable abbrev F__law_far : List D → Option D := Com.F__law_far
noncomputable abbrev F__law_whole : List D → Option D := Com.F__law_whole
noncomputable def F__law_divisor : List D → Option D := fnD 2 1 (sSeq (sSetl 0 (dCall gAbs (dCons (dVar 0) (dNil))))
    (sSeq (sSetl 1 (dCall gAbs (dCons (dVar 1) (dNil))))
    (sSeq (sWhile (tBool (dOp gGt (dVar 1) (dC (.int 0)))) (sSeq (sSetl 2 (dOp gMod (dVar 0) (dVar 1)))
    (sSeq (sSetl 0 (dVar 1))
    (sSetl 1 (dVar 2)))))
    (sRet (dFlat (dVar 0))))))
noncomputable abbrev F__law_number : List D → Option D := Com.F__law_number
noncomputable def F__law_right : List D → Option D := fnD 3 0 (sSeq (sIf (D3.tOr (D3.tNot (tBool (dUn (gIs "tuple") (dVar 0)))) (D3.tOr (tBool (dOp gNe (dCall gLen (dCons (dVar 0) (dNil))) (dC (.int 2)))) (D3.tOr (D3.tNot (tBool (dCall F__law_whole (dCons (dOp gIx (dVar 0) (dC (.int 0))) (dNil))))) (D3.tNot (tBool (dCall F__law_whole (dCons (dOp gIx (dVar 0) (dC (.int 1))) (dNil)))))))) (sRet (dC (.bool false))) (sNil))
    (sSeq (sIf (D3.tOr (tBool (dOp gLt (dOp gIx (dVar 0) (dC (.int 1))) (dC (.int 1)))) (tBool (dOp gNe (dCall F__law_divisor (dCons (dOp gIx (dVar 0) (dC (.int 0))) (dCons (dOp gIx (dVar 0) (dC (.int 1))) (dNil)))) (dC (.int 1))))) (sRet (dC (.bool false))) (sNil))
    (sRet (dOp gEq (dOp gMul (dOp gIx (dVar 0) (dC (.int 0))) (dVar 2)) (dOp gMul (dVar 1) (dOp gIx (dVar 0) (dC (.int 1))))))))
noncomputable def F__law_refused : List D → Option D := fnD 2 1 (sSeq (sTry1 X_ratio ["NoNumber"] [] (dCons (dVar 0) (dCons (dVar 1) (dNil))))
    (sRet (dC (.bool false))))
noncomputable def F__law_alone : List D → Option D := fnD 1 1 (sSeq (sTry1 X_ratio ["NoNumber"] [.int 1] (dCons (dVar 0) (dNil)))
    (sRet (dC (.bool false))))
noncomputable def F__law_told : List D → Option D := fnD 2 1 (sSeq (sIf (tBool (dOp gEq (dVar 1) (dC (.int 0)))) (sRet (dCall F__law_refused (dCons (dVar 0) (dCons (dVar 1) (dNil))))) (sNil))
    (sSeq (sSetl 2 (dCall F_ratio (dCons (dVar 0) (dCons (dVar 1) (dNil)))))
    (sRet (dAnd (dCall F__law_right (dCons (dVar 2) (dCons (dVar 0) (dCons (dVar 1) (dNil))))) (dOp gEq (dCallK F_ratio (dCons (dUn gNeg (dVar 0)) (dNil)) (dUn gNeg (dVar 1))) (dVar 2))))))
noncomputable def F_law : List D → Option D := fnD 1 6 (sSeq (sSetl 1 (dCall F__law_number (dCons (dVar 0) (dCons (dC (.int 0)) (dNil)))))
    (sSeq (sSetl 2 (dCall F__law_number (dCons (dVar 0) (dCons (dC (.int 1)) (dNil)))))
    (sSeq (sIf (tBool (dOp gEq (dCall F__law_part (dCons (dVar 0) (dCons (dC (.int 2)) (dCons (dC (.int 0)) (dCons (dC (.int 2)) (dNil)))))) (dC (.int 1)))) (sSeq (sSetl 3 (dCall F__law_number (dCons (dVar 0) (dCons (dC (.int 2)) (dNil)))))
    (sSeq (sSetl 1 (dOp gMul (dVar 1) (dVar 3)))
    (sSetl 2 (dOp gMul (dVar 2) (dVar 3))))) (sNil))
    (sSeq (sSetl 4 (dLst (dCons (dC (.bool true)) (dCons (dC (.bool false)) (dCons (dC (.none)) (dCons (dC (.str "3")) (dCons (dTup (dCons (dC (.int 1)) (dCons (dC (.int 2)) (dNil)))) (dCons (dLst (dCons (dC (.int 1)) (dNil))) (dCons (dC (.dict [])) (dCons (dC (.str "")) (dCons (dTup (dCons (dC (.int 3)) (dNil))) (dCons (dC (.str "1/2")) (dNil)))))))))))))
    (sSeq (sSetl 5 (dOp gIx (dVar 4) (dCall F__law_part (dCons (dVar 0) (dCons (dC (.int 3)) (dCons (dC (.int 1)) (dCons (dC (.int 10)) (dNil))))))))
    (sSeq (sSetl 6 (dCall F__law_part (dCons (dVar 0) (dCons (dC (.int 3)) (dCons (dC (.int 0)) (dCons (dC (.int 12)) (dNil)))))))
    (sSeq (sIf (D3.tAnd (tBool (dOp gEq (dVar 6) (dC (.int 0)))) (D3.tOr (D3.tNot (tBool (dCall F__law_refused (dCons (dVar 5) (dCons (dVar 2) (dNil)))))) (D3.tNot (tBool (dCall F__law_alone (dCons (dVar 5) (dNil))))))) (sRet (dC (.bool false))) (sNil))
    (sSeq (sIf (D3.tAnd (tBool (dOp gEq (dVar 6) (dC (.int 1)))) (D3.tNot (tBool (dCall F__law_refused (dCons (dVar 1) (dCons (dVar 5) (dNil))))))) (sRet (dC (.bool false))) (sNil))
    (sSeq (sIf (D3.tAnd (tBool (dOp gEq (dVar 6) (dC (.int 2)))) (D3.tNot (tBool (dCall F__law_refused (dCons (dVar 5) (dCons (dOp gIx (dVar 4) (dCall F__law_part (dCons (dVar 0) (dCons (dC (.int 3)) (dCons (dC (.int 2)) (dCons (dC (.int 10)) (dNil))))))) (dNil))))))) (sRet (dC (.bool false))) (sNil))
    (sSeq (sIf (D3.tAnd (tBool (dOp gEq (dVar 6) (dC (.int 3)))) (D3.tNot (tBool (dCall F__law_refused (dCons (dVar 1) (dCons (dC (.int 0)) (dNil))))))) (sRet (dC (.bool false))) (sNil))
    (sSeq (sIf (D3.tAnd (tBool (dOp gIn (dVar 6) (dTup (dCons (dC (.int 4)) (dCons (dC (.int 5)) (dNil)))))) (D3.tNot (tBool (dCall F__law_right (dCons (dCallD F_ratio 1 (dCons (dVar 1) (dNil))) (dCons (dVar 1) (dCons (dC (.int 1)) (dNil)))))))) (sRet (dC (.bool false))) (sNil))
    (sRet (dAnd (dCall F__law_told (dCons (dVar 1) (dCons (dVar 2) (dNil)))) (dAnd (dCall F__law_told (dCons (dVar 2) (dCons (dVar 1) (dNil)))) (dCall F__law_told (dCons (dVar 1) (dCons (dVar 2) (dNil))))))))))))))))))
end K11
namespace K11
open PySem D3 My Com
theorem ldiv_loop : ∀ (m : Nat) (a b : Int) (x : Option U), 0 ≤ a → 0 ≤ b → b.toNat ≤ m → ∃ x' n, whileD (tBool (dOp gGt (dVar 1) (dC (.int 0)))) (sSeq (sSetl 2 (dOp gMod (dVar 0) (dVar 1))) (sSeq (sSetl 0 (dVar 1)) (sSetl 1 (dVar 2)))) n [some (.d (.int a)), some (.d (.int b)), x] =
    some (.nx [some (.d (.int (gcdI a b))), some (.d (.int 0)), x']) := by
  intro m
  induction m with
  | zero =>
    intro a b x ha hb hm
    obtain rfl : b = 0 := by omega
    refine ⟨x, 1, ?_⟩
    rw [whileD]
    simp only [EV, reduceIte, Nat.reduceAdd, Nat.reduceLT, Nat.reduceLeDiff, Nat.reduceEqDiff, Int.reduceEq, Int.reduceLT, Int.reduceLE]
    rw [gcdI_zero ha]
    rfl
  | succ m ih =>
    intro a b x ha hb hm
    by_cases h : b = 0
    · subst h
      refine ⟨x, 1, ?_⟩
      rw [whileD]
      simp only [EV, reduceIte, Nat.reduceAdd, Nat.reduceLT, Nat.reduceLeDiff, Nat.reduceEqDiff, Int.reduceEq, Int.reduceLT, Int.reduceLE]
      rw [gcdI_zero ha]
      rfl
    · have hb' : 0 < b := by omega
      have h1 : 0 ≤ a % b := Int.emod_nonneg _ (by omega)
      have h2 : a % b < b := Int.emod_lt_of_pos _ hb'
      obtain ⟨x', n, e⟩ := ih b (a % b) (some (.d (.int (a % b)))) hb h1 (by omega)
      refine ⟨x', n + 1, ?_⟩
      rw [whileD]
      simp only [EV, reduceIte, Nat.reduceAdd, Nat.reduceLT, Nat.reduceLeDiff, Nat.reduceEqDiff, Int.reduceEq, Int.reduceLT, Int.reduceLE, decide_eq_true hb', Option.bind_some, modP hb']
      rw [← gcdI_step ha hb', ← e]
theorem ldiv_spec (a b : Int) : F__law_divisor [.int a, .int b] = some (.int (gcdI a b)) := by
  unfold F__law_divisor
  simp only [EV, reduceIte, Nat.reduceAdd, Nat.reduceLT, Nat.reduceLeDiff, Nat.reduceEqDiff, Int.reduceEq, Int.reduceLT, Int.reduceLE]
  have e1 : 0 ≤ (if a < 0 then -a else a) := by split <;> omega
  have e2 : 0 ≤ (if b < 0 then -b else b) := by split <;> omega
  obtain ⟨x', n, e⟩ := ldiv_loop (if b < 0 then -b else b).toNat _ _ none e1 e2 (Nat.le_refl _)
  rw [sWhile_of e]
  simp only [EV, reduceIte, Nat.reduceAdd, Nat.reduceLT, Nat.reduceLeDiff, Nat.reduceEqDiff, Int.reduceEq, Int.reduceLT, Int.reduceLE, gcdI_abs]
theorem whole_spec (i : Int) : F__law_whole [.int i] = some (.bool true) := by
  show Com.F__law_whole [.int i] = _
  unfold Com.F__law_whole
  simp only [EV, reduceIte, Nat.reduceAdd, Nat.reduceLT, Nat.reduceLeDiff, Nat.reduceEqDiff, Int.reduceEq, Int.reduceLT, Int.reduceLE, tyD, D3.isT]
  rfl
theorem right_spec {r : Rat} {t b : Int} (hr : sm 9000 r.num) (hb : sm 9000 b) (ht : sm 9000 t) (hd : sm 9000 (r.den : Int)) (e : r.num * b = t * r.den) : F__law_right [rD r, .int t, .int b] = some (.bool true) := by
  have d0 := den0 r
  have g : gcdI r.num (r.den : Int) = 1 := by
    unfold gcdI
    have := r.reduced
    unfold Nat.Coprime at this
    simp [this]
  unfold F__law_right rD
  simp only [EV, reduceIte, Nat.reduceAdd, Nat.reduceLT, Nat.reduceLeDiff, Nat.reduceEqDiff, Int.reduceEq, Int.reduceLT, Int.reduceLE, tyD, D3.isT, at0, at1, whole_spec, ldiv_spec, g, decide_eq_false (show ¬ (r.den : Int) < 1 by omega), mulB hr hb, mulB ht hd, e, beq_self_eq_true, Bool.or_true, Bool.true_or]
theorem far_spec {ns : List Int} {i : Int} (h0 : 0 ≤ i) : F__law_far [.list (ns.map .int), .int i] = some (.int (farF ns i)) := by
  show Com.F__law_far _ = _
  unfold Com.F__law_far farF
  by_cases h : i < (ns.length : Int)
  · rw [if_pos h]
    simp only [EV, reduceIte, Nat.reduceAdd, Nat.reduceLT, Nat.reduceLeDiff, Nat.reduceEqDiff, Int.reduceEq, Int.reduceLT, Int.reduceLE, List.length_map, decide_eq_true h, pAt_ints h0 h, pow60, modP (show (0 : Int) < 10 ^ 60 by decide)]
  · rw [if_neg h]
    have b := partF_range ns i 59 (m := 10 ^ 6) (by decide)
    simp only [EV, reduceIte, Nat.reduceAdd, Nat.reduceLT, Nat.reduceLeDiff, Nat.reduceEqDiff, Int.reduceEq, Int.reduceLT, Int.reduceLE, List.length_map, decide_eq_false h, pow40, pow6, part_spec (ns := ns) h0 (show (0 : Int) ≤ 59 by decide) (show (59 : Int) ≤ 1000 by decide) (show (0 : Int) < 10 ^ 6 by decide), part_spec (ns := ns) h0 (show (0 : Int) ≤ 60 by decide) (show (60 : Int) ≤ 1000 by decide) (show (0 : Int) < 10 ^ 6 by decide)]
    rw [mulL (by omega) (by have : (10 : Int) ^ 6 = 1000000 := by decide
                            omega)]
    simp only [EV, reduceIte, Nat.reduceAdd, Nat.reduceLT, Nat.reduceLeDiff, Nat.reduceEqDiff, Int.reduceEq, Int.reduceLT, Int.reduceLE]
theorem far_range (ns : List Int) (i : Int) : 0 ≤ farF ns i ∧ farF ns i < 10 ^ 60 := by
  unfold farF
  split
  · exact ⟨Int.emod_nonneg _ (by decide), Int.emod_lt_of_pos _ (by decide)⟩
  · have b1 := partF_range ns i 59 (m := 10 ^ 6) (by decide)
    have b2 := partF_range ns i 60 (m := 10 ^ 6) (by decide)
    omega
theorem sm_bound {x : Int} (h1 : -(10 ^ 60) ≤ x) (h2 : x ≤ 10 ^ 60) : sm 200 x := by
  unfold sm
  have : (10 : Int) ^ 60 < 2 ^ 200 := by decide
  have : (2 : Nat) ^ 200 = 1606938044258990275541962092341162602522202993782792835301376 := by decide
  have : (10 : Int) ^ 60 = 1000000000000000000000000000000000000000000000000000000000000 := by decide
  omega
theorem pow59 : gPow (.int 10) (.int 59) = some (.int (10 ^ 59)) := rfl
theorem pow25 : gPow (.int 10) (.int 25) = some (.int (10 ^ 25)) := rfl
theorem pow9 : gPow (.int 10) (.int 9) = some (.int (10 ^ 9)) := rfl
theorem number_spec (ns : List Int) {i : Int} (h0 : 0 ≤ i) : ∃ v, sm 700 v ∧ F__law_number [.list (ns.map .int), .int i] = some (.int v) := by
  have f := far_range ns i
  have a1 := partF_range ns i 2 (m := 19) (by decide)
  have a2 := partF_range ns i 2 (m := 2001) (by decide)
  have a3 := partF_range ns i 2 (m := 5) (by decide)
  have w := partF_range ns i 1 (m := 6) (by decide)
  have p59 : (10 : Int) ^ 59 = 100000000000000000000000000000000000000000000000000000000000 := by decide
  have p60 : (10 : Int) ^ 60 = 1000000000000000000000000000000000000000000000000000000000000 := by decide
  have p9 : (10 : Int) ^ 9 = 1000000000 := by decide
  have sf : sm 200 (farF ns i) := sm_bound (by omega) (by omega)
  have s60 : sm 200 ((10 : Int) ^ 60) := sm_bound (by omega) (by omega)
  have s25 : sm 200 ((10 : Int) ^ 25) := by unfold sm; decide
  have m1 := mulS (i := farF ns i) (j := 10 ^ 60) (sm_le sf (by decide)) (sm_le s60 (by decide))
  have s1 := sm_mul sf s60
  have m2 := mulS (i := farF ns i * 10 ^ 60) (j := 10 ^ 25) (sm_le s1 (by decide)) (sm_le s25 (by decide))
  have s2 := sm_mul s1 s25
  show ∃ v, sm 700 v ∧ Com.F__law_number _ = _
  unfold Com.F__law_number
  simp only [EV, reduceIte, Nat.reduceAdd, Nat.reduceLT, Nat.reduceLeDiff, Nat.reduceEqDiff, Int.reduceEq, Int.reduceLT, Int.reduceLE, part_spec (ns := ns) (k := 2) h0 (by decide) (by decide) (show (0 : Int) < 19 by decide), part_spec (ns := ns) (k := 2) h0 (by decide) (by decide) (show (0 : Int) < 2001 by decide), part_spec (ns := ns) (k := 2) h0 (by decide) (by decide) (show (0 : Int) < 5 by decide), part_spec (ns := ns) (k := 1) h0 (by decide) (by decide) (show (0 : Int) < 6 by decide), show Com.F__law_far [.list (ns.map .int), .int i] = some (.int (farF ns i)) from far_spec h0, pow59, pow60, pow25, pow9,
    mulL (show (-18446744073709551616 : Int) < 5 by decide) (show (5 : Int) < 18446744073709551616 by decide), mulL (show (-18446744073709551616 : Int) < 2 by decide) (show (2 : Int) < 18446744073709551616 by decide), modP (show (0 : Int) < 2 * 10 ^ 9 + 1 by decide), m1, m2, sz (show 3 ≤ 1000000 by decide)]
  have m9 : 0 ≤ farF ns i % (2 * 10 ^ 9 + 1) := Int.emod_nonneg _ (by decide)
  have m9' : farF ns i % (2 * 10 ^ 9 + 1) < 2 * 10 ^ 9 + 1 := Int.emod_lt_of_pos _ (by decide)
  generalize partF ns i 2 19 = x1 at *
  generalize partF ns i 2 2001 = x2 at *
  generalize partF ns i 2 5 = x3 at *
  generalize partF ns i 1 6 = way at *
  have ww : way = 0 ∨ way = 1 ∨ way = 2 ∨ way = 3 ∨ way = 4 ∨ way = 5 := by omega
  have le : ∀ {x : Int}, -(10 ^ 60) ≤ x → x ≤ 10 ^ 60 → sm 700 x := fun h1 h2 => sm_le (sm_bound h1 h2) (by decide)
  rcases ww with rfl | rfl | rfl | rfl | rfl | rfl
  · exact ⟨x1 - 9, le (by omega) (by omega), rfl⟩
  · exact ⟨x2 - 1000, le (by omega) (by omega), rfl⟩
  · exact ⟨x3 - 2, le (by omega) (by omega), rfl⟩
  · exact ⟨farF ns i % (2 * 10 ^ 9 + 1) - 10 ^ 9, le (by omega) (by omega), rfl⟩
  · exact ⟨farF ns i - 5 * 10 ^ 59, le (by omega) (by omega), rfl⟩
  · refine ⟨farF ns i * 10 ^ 60 * 10 ^ 25 + farF ns i, ?_, rfl⟩
    exact sm_le (sm_add (k := 600) s2 (sm_le sf (by decide))) (by decide)
def qq (t b : Int) : Rat := if 0 < b then q t b else q (-t) (-b)
theorem gcdI_neg (t b : Int) : gcdI (-t) (-b) = gcdI t b := by unfold gcdI; rw [Int.natAbs_neg, Int.natAbs_neg]
theorem divN {i j : Int} (h : 0 < j) (h2 : j.natAbs < 2 ^ 9000) : gDiv (.int i) (.int (-j)) = some (.int (-i / j)) := by
  show (if divG i (-j) = true then some (PyData.int (i.fdiv (-j))) else none) = _
  have e : divG i (-j) = true := by
    unfold divG
    rw [Int.natAbs_neg]
    simp only [Bool.and_eq_true, decide_eq_true_eq]
    exact ⟨by omega, h2⟩
  rw [if_pos e]
  congr 2
  have : i.fdiv (-j) = (-(-i)).fdiv (-j) := by rw [Int.neg_neg]
  rw [this, Int.neg_fdiv_neg, Int.fdiv_eq_ediv_of_nonneg _ (by omega)]
theorem lowest_neg {t b : Int} (h : b < 0) (hb : b.natAbs < 2 ^ 9000) : F_lowest [.int t, .int b] = some (rD (q (-t) (-b))) := by
  have h' : 0 < -b := by omega
  have g0 := gcd_pos (t := -t) h'
  have g1 := gcd_le (t := -t) h'
  rw [gcdI_neg] at g0 g1
  have e1 : 0 ≤ (if t < 0 then -t else t) := by split <;> omega
  have e2 : 0 ≤ (if b < 0 then -b else b) := by split <;> omega
  have gs : (gcdI t b).natAbs < 2 ^ 9000 := natAbs_lt (b := -b) (by omega) g1 (by rw [Int.natAbs_neg]; exact hb)
  show Com.F_lowest _ = _
  unfold Com.F_lowest
  simp only [EV, reduceIte, Nat.reduceAdd, Nat.reduceLT, Nat.reduceLeDiff, Nat.reduceEqDiff, Int.reduceEq, Int.reduceLT, Int.reduceLE, gcd_spec e1 e2, gcdI_abs, decide_eq_true h, divN g0 gs, sz (show 2 ≤ 1000000 by decide)]
  unfold rD
  rw [q_num h', q_den h', gcdI_neg]
theorem ratio_any {t b : Int} (h : b ≠ 0) (hb : b.natAbs < 2 ^ 9000) : F_ratio [.int t, .int b] = some (rD (qq t b)) := by
  unfold qq
  by_cases c : 0 < b
  · rw [if_pos c]; exact ratio_spec c hb
  · rw [if_neg c]
    have L : Com.F_lowest [.int t, .int b] = some (rD (q (-t) (-b))) := lowest_neg (by omega) hb
    show Com.F_ratio _ = _
    unfold Com.F_ratio
    simp only [EV, reduceIte, Nat.reduceAdd, Nat.reduceLT, Nat.reduceLeDiff, Nat.reduceEqDiff, Int.reduceEq, Int.reduceLT, Int.reduceLE, whole_int, decide_eq_false h, L]
theorem qq_neg {t b : Int} (h : b ≠ 0) : qq (-t) (-b) = qq t b := by
  unfold qq
  by_cases c : 0 < b
  · rw [if_pos c, if_neg (by omega), Int.neg_neg, Int.neg_neg]
  · rw [if_neg c, if_pos (by omega)]
theorem qq_cross {t b : Int} (h : b ≠ 0) : (qq t b).num * b = t * (qq t b).den := by
  unfold qq
  by_cases c : 0 < b
  · rw [if_pos c]; exact q_cross c
  · rw [if_neg c]
    have := q_cross (x := -t) (y := -b) (by omega)
    rw [Int.mul_neg, Int.neg_mul] at this
    omega
theorem qq_bd {k : Nat} {t b : Int} (h : b ≠ 0) (h1 : sm k t) (h2 : sm k b) : bd k (qq t b) := by
  unfold qq
  by_cases c : 0 < b
  · rw [if_pos c]; exact bd_q c h1 h2
  · rw [if_neg c]
    exact bd_q (by omega) (by unfold sm at *; rw [Int.natAbs_neg]; exact h1) (by unfold sm at *; rw [Int.natAbs_neg]; exact h2)
theorem x_top {a b : D} (h : F_is_whole [a] = some (.bool false)) : X_ratio [a, b] = some (.ex "NoNumber" (.str "a ratio is made of two whole numbers")) := by
  simp [X_ratio, fnX, xSeq, xIf, xRaise, xOf, D3.tOr, D3.tNot, tBool, dCall, dCons, dNil, dVar, dC, h]
theorem x_low {a b : D} (h0 : F_is_whole [a] = some (.bool true)) (h : F_is_whole [b] = some (.bool false)) : X_ratio [a, b] = some (.ex "NoNumber" (.str "a ratio is made of two whole numbers")) := by
  simp [X_ratio, fnX, xSeq, xIf, xRaise, xOf, D3.tOr, D3.tNot, tBool, dCall, dCons, dNil, dVar, dC, h, h0]
theorem x_zero (t : Int) : X_ratio [.int t, .int 0] = some (.ex "NoNumber" (.str "the bottom of a ratio is not 0")) := by
  have w : ∀ i, F_is_whole [.int i] = some (.bool true) := whole_int
  simp [X_ratio, fnX, xSeq, xIf, xRaise, xOf, D3.tOr, D3.tNot, tBool, dCall, dCons, dNil, dVar, dC, w, sNil, dOp, n_eqI]
theorem refused_of {a b v : D} (h : X_ratio [a, b] = some (.ex "NoNumber" v)) : F__law_refused [a, b] = some (.bool true) := by
  simp [F__law_refused, fnD, sSeq, sTry1, dCons, dNil, dVar, h]
theorem alone_of {a v : D} (h : X_ratio [a, .int 1] = some (.ex "NoNumber" v)) : F__law_alone [a] = some (.bool true) := by
  simp [F__law_alone, fnD, sSeq, sTry1, dCons, dNil, dVar, h]
theorem told_spec {t b : Int} (ht : sm 2000 t) (hb : sm 2000 b) : F__law_told [.int t, .int b] = some (.bool true) := by
  unfold F__law_told
  by_cases c : b = 0
  · subst c
    simp only [EV, reduceIte, Nat.reduceAdd, Nat.reduceLT, Nat.reduceLeDiff, Nat.reduceEqDiff, Int.reduceEq, Int.reduceLT, Int.reduceLE, refused_of (x_zero t)]
  · have cn : -b ≠ 0 := by omega
    have B := qq_bd c ht hb
    have R := ratio_any (t := t) c (sm_le hb (by decide))
    have R' := ratio_any (t := -t) cn (sm_le (k := 2000) (by unfold sm at *; rw [Int.natAbs_neg]; exact hb) (show 2000 ≤ 9000 by decide))
    rw [qq_neg c] at R'
    have Rg := right_spec (sm_le B.n (by decide)) (sm_le hb (by decide)) (sm_le ht (by decide)) (sm_le B.d (by decide)) (qq_cross c)
    have N : gEq (rD (qq t b)) (rD (qq t b)) = some (.bool true) := by
      unfold gEq
      rw [show SeqAt.shaped (rD (qq t b)) = true from rfl]
      show some (PyData.bool (PyData.eqv (rD (qq t b)) (rD (qq t b)))) = _
      rw [rD_eqv]
    simp only [EV, reduceIte, Nat.reduceAdd, Nat.reduceLT, Nat.reduceLeDiff, Nat.reduceEqDiff, Int.reduceEq, Int.reduceLT, Int.reduceLE, decide_eq_false c, R, Rg]
    simp [dCallK, dCons, dNil, dUn, dVar, gNeg, dOp, R', N, dAnd]
    simp only [EV, reduceIte, Nat.reduceAdd, Nat.reduceLT, Nat.reduceLeDiff, Nat.reduceEqDiff, Int.reduceEq, Int.reduceLT, Int.reduceLE, N]
def odd : List D := [.bool true, .bool false, .none, .str "3", .tuple [.int 1, .int 2], .list [.int 1], .dict [], .str "", .tuple [.int 3], .str "1/2"]
theorem odd_at {k : Int} (h0 : 0 ≤ k) (h1 : k < 10) : ∃ v, pAt odd k = some v ∧ F_is_whole [v] = some (.bool false) := by
  have kk : k = 0 ∨ k = 1 ∨ k = 2 ∨ k = 3 ∨ k = 4 ∨ k = 5 ∨ k = 6 ∨ k = 7 ∨ k = 8 ∨ k = 9 := by omega
  have w : ∀ v, (D3.isT "int" (tyD v) = false ∨ D3.isT "bool" (tyD v) = true) → F_is_whole [v] = some (.bool false) := fun v h => by
    show Com.F_is_whole _ = _
    unfold Com.F_is_whole
    cases e : D3.isT "int" (tyD v) with
    | false =>
      simp only [EV, reduceIte, Nat.reduceAdd, Nat.reduceLT, Nat.reduceLeDiff, Nat.reduceEqDiff, Int.reduceEq, Int.reduceLT, Int.reduceLE, e]
    | true =>
      have e2 : D3.isT "bool" (tyD v) = true := by
        rcases h with h | h
        · rw [e] at h; cases h
        · exact h
      simp only [EV, reduceIte, Nat.reduceAdd, Nat.reduceLT, Nat.reduceLeDiff, Nat.reduceEqDiff, Int.reduceEq, Int.reduceLT, Int.reduceLE, e, e2]
  rcases kk with rfl | rfl | rfl | rfl | rfl | rfl | rfl | rfl | rfl | rfl
  · exact ⟨_, rfl, w _ (.inr rfl)⟩
  · exact ⟨_, rfl, w _ (.inr rfl)⟩
  all_goals exact ⟨_, rfl, w _ (.inl rfl)⟩
theorem rest_true (ns : List Int) {t b : Int} (ht : sm 1400 t) (hb : sm 1400 b) (x3 : Option U) {w k1 k2 : Int} (ew : F__law_part [.list (ns.map .int), .int 3, .int 0, .int 12] = some (.int w)) (e1 : F__law_part [.list (ns.map .int), .int 3, .int 1, .int 10] = some (.int k1)) (e2 : F__law_part [.list (ns.map .int), .int 3, .int 2, .int 10] = some (.int k2))
    (w0 : 0 ≤ w) (w1 : w < 12) (k10 : 0 ≤ k1) (k11 : k1 < 10) (k20 : 0 ≤ k2) (k21 : k2 < 10) : qFn ((sSeq (sSetl 4 (dLst (dCons (dC (.bool true)) (dCons (dC (.bool false)) (dCons (dC (.none)) (dCons (dC (.str "3")) (dCons (dTup (dCons (dC (.int 1)) (dCons (dC (.int 2)) (dNil)))) (dCons (dLst (dCons (dC (.int 1)) (dNil))) (dCons (dC (.dict [])) (dCons (dC (.str "")) (dCons (dTup (dCons (dC (.int 3)) (dNil))) (dCons (dC (.str "1/2")) (dNil)))))))))))))
    (sSeq (sSetl 5 (dOp gIx (dVar 4) (dCall F__law_part (dCons (dVar 0) (dCons (dC (.int 3)) (dCons (dC (.int 1)) (dCons (dC (.int 10)) (dNil))))))))
    (sSeq (sSetl 6 (dCall F__law_part (dCons (dVar 0) (dCons (dC (.int 3)) (dCons (dC (.int 0)) (dCons (dC (.int 12)) (dNil)))))))
    (sSeq (sIf (D3.tAnd (tBool (dOp gEq (dVar 6) (dC (.int 0)))) (D3.tOr (D3.tNot (tBool (dCall F__law_refused (dCons (dVar 5) (dCons (dVar 2) (dNil)))))) (D3.tNot (tBool (dCall F__law_alone (dCons (dVar 5) (dNil))))))) (sRet (dC (.bool false))) (sNil))
    (sSeq (sIf (D3.tAnd (tBool (dOp gEq (dVar 6) (dC (.int 1)))) (D3.tNot (tBool (dCall F__law_refused (dCons (dVar 1) (dCons (dVar 5) (dNil))))))) (sRet (dC (.bool false))) (sNil))
    (sSeq (sIf (D3.tAnd (tBool (dOp gEq (dVar 6) (dC (.int 2)))) (D3.tNot (tBool (dCall F__law_refused (dCons (dVar 5) (dCons (dOp gIx (dVar 4) (dCall F__law_part (dCons (dVar 0) (dCons (dC (.int 3)) (dCons (dC (.int 2)) (dCons (dC (.int 10)) (dNil))))))) (dNil))))))) (sRet (dC (.bool false))) (sNil))
    (sSeq (sIf (D3.tAnd (tBool (dOp gEq (dVar 6) (dC (.int 3)))) (D3.tNot (tBool (dCall F__law_refused (dCons (dVar 1) (dCons (dC (.int 0)) (dNil))))))) (sRet (dC (.bool false))) (sNil))
    (sSeq (sIf (D3.tAnd (tBool (dOp gIn (dVar 6) (dTup (dCons (dC (.int 4)) (dCons (dC (.int 5)) (dNil)))))) (D3.tNot (tBool (dCall F__law_right (dCons (dCallD F_ratio 1 (dCons (dVar 1) (dNil))) (dCons (dVar 1) (dCons (dC (.int 1)) (dNil)))))))) (sRet (dC (.bool false))) (sNil))
    (sRet (dAnd (dCall F__law_told (dCons (dVar 1) (dCons (dVar 2) (dNil)))) (dAnd (dCall F__law_told (dCons (dVar 2) (dCons (dVar 1) (dNil)))) (dCall F__law_told (dCons (dVar 1) (dCons (dVar 2) (dNil))))))))))))))) [some (.d (.list (ns.map .int))), some (.d (.int t)), some (.d (.int b)), x3, none, none, none]) = some (.bool true) := by
  obtain ⟨v1, ev1, wv1⟩ := odd_at k10 k11
  obtain ⟨v2, ev2, wv2⟩ := odd_at k20 k21
  have ev1 : pAt [.bool true, .bool false, .none, .str "3", .tuple [.int 1, .int 2], .list [.int 1], .dict [], .str "", .tuple [.int 3], .str "1/2"] k1 = some v1 := ev1
  have ev2 : pAt [.bool true, .bool false, .none, .str "3", .tuple [.int 1, .int 2], .list [.int 1], .dict [], .str "", .tuple [.int 3], .str "1/2"] k2 = some v2 := ev2
  have wi : ∀ i, F_is_whole [.int i] = some (.bool true) := whole_int
  have s1 : sm 2000 t := sm_le ht (by decide)
  have s2 : sm 2000 b := sm_le hb (by decide)
  have T1 := told_spec s1 s2
  have T2 := told_spec s2 s1
  have r0 := refused_of (b := .int b) (x_top (b := .int b) wv1)
  have r0' := alone_of (x_top (b := .int 1) wv1)
  have r1 := refused_of (x_low (wi t) wv1)
  have r2 := refused_of (x_top (b := v2) wv1)
  have r3 := refused_of (x_zero t)
  have one : sm 1400 1 := sm_le (k := 8) (by unfold sm; decide) (by decide)
  have B := qq_bd (t := t) (b := 1) (by decide) ht one
  have R := ratio_any (t := t) (b := 1) (by decide) (sm_le one (by decide))
  have Rg := right_spec (sm_le B.n (by decide)) (sm_le one (by decide)) (sm_le ht (by decide)) (sm_le B.d (by decide)) (qq_cross (t := t) (b := 1) (by decide))
  have R' : ∀ δ : DS, δ[1]? = some (some (.d (.int t))) → dCallD F_ratio 1 (dCons (dVar 1) dNil) δ = some (rD (qq t 1)) := fun δ h => by
    simp [dCallD, dCons, dNil, dVar, h, R]
  have ww : w = 0 ∨ w = 1 ∨ w = 2 ∨ w = 3 ∨ w = 4 ∨ w = 5 ∨ w = 6 ∨ w = 7 ∨ w = 8 ∨ w = 9 ∨ w = 10 ∨ w = 11 := by omega
  have i4 : gIn (.int 4) (.tuple [.int 4, .int 5]) = some (.bool true) := rfl
  have i5 : gIn (.int 5) (.tuple [.int 4, .int 5]) = some (.bool true) := rfl
  have i0 : gIn (.int 0) (.tuple [.int 4, .int 5]) = some (.bool false) := rfl
  have i1 : gIn (.int 1) (.tuple [.int 4, .int 5]) = some (.bool false) := rfl
  have i2 : gIn (.int 2) (.tuple [.int 4, .int 5]) = some (.bool false) := rfl
  have i3 : gIn (.int 3) (.tuple [.int 4, .int 5]) = some (.bool false) := rfl
  have i6 : gIn (.int 6) (.tuple [.int 4, .int 5]) = some (.bool false) := rfl
  have i7 : gIn (.int 7) (.tuple [.int 4, .int 5]) = some (.bool false) := rfl
  have i8 : gIn (.int 8) (.tuple [.int 4, .int 5]) = some (.bool false) := rfl
  have i9 : gIn (.int 9) (.tuple [.int 4, .int 5]) = some (.bool false) := rfl
  have i10 : gIn (.int 10) (.tuple [.int 4, .int 5]) = some (.bool false) := rfl
  have i11 : gIn (.int 11) (.tuple [.int 4, .int 5]) = some (.bool false) := rfl
  rcases ww with rfl | rfl | rfl | rfl | rfl | rfl | rfl | rfl | rfl | rfl | rfl | rfl
  all_goals
    simp only [EV, reduceIte, Nat.reduceAdd, Nat.reduceLT, Nat.reduceLeDiff, Nat.reduceEqDiff, Int.reduceEq, Int.reduceLT, Int.reduceLE, ew, e1, e2, ev1, ev2, sz (show 1 ≤ 1000000 by decide), sz (show 2 ≤ 1000000 by decide), sz (show 10 ≤ 1000000 by decide), r0, r0', r1, r2, r3, T1, T2, Rg, i0, i1, i2, i3, i4, i5, i6, i7, i8, i9, i10, i11]
  all_goals
    rw [R' _ rfl]
    simp only [EV, reduceIte, Nat.reduceAdd, Nat.reduceLT, Nat.reduceLeDiff, Nat.reduceEqDiff, Int.reduceEq, Int.reduceLT, Int.reduceLE, Rg, T1, T2]
theorem law_true (ns : List Int) (h : ns.length ≤ 63) : F_law [.list (ns.map .int)] = some (.bool true) := by
  obtain ⟨t, ht, et⟩ := number_spec ns (i := 0) (by decide)
  obtain ⟨b, hb, eb⟩ := number_spec ns (i := 1) (by decide)
  obtain ⟨c, hc, ec⟩ := number_spec ns (i := 2) (by decide)
  have r2 := partF_range ns 2 0 (m := 2) (by decide)
  have e2 := part_spec (ns := ns) (i := 2) (k := 0) (m := 2) (by decide) (by decide) (by decide) (by decide)
  have r30 := partF_range ns 3 0 (m := 12) (by decide)
  have e30 := part_spec (ns := ns) (i := 3) (k := 0) (m := 12) (by decide) (by decide) (by decide) (by decide)
  have r31 := partF_range ns 3 1 (m := 10) (by decide)
  have e31 := part_spec (ns := ns) (i := 3) (k := 1) (m := 10) (by decide) (by decide) (by decide) (by decide)
  have r32 := partF_range ns 3 2 (m := 10) (by decide)
  have e32 := part_spec (ns := ns) (i := 3) (k := 2) (m := 10) (by decide) (by decide) (by decide) (by decide)
  have fin := fun {t b : Int} (ht : sm 1400 t) (hb : sm 1400 b) (x3 : Option U) => rest_true ns ht hb x3 e30 e31 e32 r30.1 r30.2 r31.1 r31.2 r32.1 r32.2
  generalize partF ns 2 0 2 = way at *
  unfold F_law
  have ww : way = 0 ∨ way = 1 := by omega
  rcases ww with rfl | rfl
  · have := fin (sm_le ht (show 700 ≤ 1400 by decide)) (sm_le hb (show 700 ≤ 1400 by decide)) none
    simp only [EV, reduceIte, Nat.reduceAdd, Nat.reduceLT, Nat.reduceLeDiff, Nat.reduceEqDiff, Int.reduceEq, Int.reduceLT, Int.reduceLE] at this
    simp only [EV, reduceIte, Nat.reduceAdd, Nat.reduceLT, Nat.reduceLeDiff, Nat.reduceEqDiff, Int.reduceEq, Int.reduceLT, Int.reduceLE, et, eb, e2]
    exact this
  · have := fin (sm_mul ht hc) (sm_mul hb hc) (some (.d (.int c)))
    simp only [EV, reduceIte, Nat.reduceAdd, Nat.reduceLT, Nat.reduceLeDiff, Nat.reduceEqDiff, Int.reduceEq, Int.reduceLT, Int.reduceLE] at this
    simp only [EV, reduceIte, Nat.reduceAdd, Nat.reduceLT, Nat.reduceLeDiff, Nat.reduceEqDiff, Int.reduceEq, Int.reduceLT, Int.reduceLE, et, eb, e2, ec, mulS (sm_le ht (show 700 ≤ 4000 by decide)) (sm_le hc (show 700 ≤ 4000 by decide)), mulS (sm_le hb (show 700 ≤ 4000 by decide)) (sm_le hc (show 700 ≤ 4000 by decide))]
    exact this
end K11
namespace K11
open PySem PySem.Spec PyProof.Rows L2 My D3 XC
def top (i : Nat) : Stmt := PySem.Challenge.pw_nightbook_k11_a_ratio.main.body.getD i (.Pass ⟨0, 0, 0, 0⟩)
section
seal PE PT PW PA PS PSs PG PGs PI PO PTs
variable {P : Program} {w : World} {K : PySem.W.Frag} {mg : Str → Option Value} {base : Heap} {n : Nat} {fld : Addr → Str}
theorem ok_is_whole (D : Dg K mg "is_whole" (top 4) ["thing"]) (B : Bl mg) : Has P w K mg base (n + 1) "is_whole" ["thing"] (spD K F_is_whole) := by
  have sc : FnScope ["thing"] ["thing"] (defScope (top 4)) := ⟨rfl, rfl, rfl, by decide +kernel, rfl, by decide +kernel, by decide +kernel⟩
  exact dg_ok (fl := [.A]) D sc (by decide) (by decide) fun f cdv A outer s H E hr => dss_one (ds_ret (c_FC_R (de_and (c_FC_P (de_isi (T := "int") (by decide) (c_A_P (de_varA 0 rfl)) (by rfl) B.isinstance_ (by rfl) B.int_ PyProof.Rows.boot_int)) (de_one (de_not (c_FC_P (de_isi (T := "bool") (by decide) (c_A_P (de_varA 0 rfl)) (by rfl) B.isinstance_ (by rfl) B.bool_ PyProof.Rows.boot_bool)))))))
theorem ok_greatest_divisor (D : Dg K mg "greatest_divisor" (top 6) ["one", "other"]) (B : Bl mg) : Has P w K mg base (n + 1) "greatest_divisor" ["one", "other"] (spD K F_greatest_divisor) := by
  have sc : FnScope ["one", "other", "rest"] ["one", "other"] (defScope (top 6)) := ⟨rfl, rfl, rfl, by decide +kernel, rfl, by decide +kernel, by decide +kernel⟩
  exact dg_ok (fl := [.A, .A, .A]) D sc (by decide) (by decide) fun f cdv A outer s H E hr => dss_cons (ds_while PassesOwn.never (dt_cmp (op_neD hr.units) b_ne (c_A_P (de_varA 1 rfl)) (c_FC_P (de_int)) (nomark _)) (dss_cons (ds_setA (i := 2) rfl sc.nd rfl (by first | exact Or.inl rfl | exact Or.inr rfl) (c_FC_A (de_op op_modN b_mod (c_A_P (de_varA 0 rfl)) (c_A_P (de_varA 1 rfl)))))
    (dss_cons (ds_setA (i := 0) rfl sc.nd rfl (by first | exact Or.inl rfl | exact Or.inr rfl) (de_varA 1 rfl))
    (dss_one (ds_setA (i := 1) rfl sc.nd rfl (by first | exact Or.inl rfl | exact Or.inr rfl) (de_varA 2 rfl))))))
    (dss_one (ds_ret (c_FC_R (c_flat (c_A_P (de_varA 0 rfl))))))
theorem ok_lowest (D : Dg K mg "lowest" (top 7) ["top", "bottom"]) (B : Bl mg) (hgreatest_divisor : Has P w K mg base n "greatest_divisor" ["one", "other"] (spD K F_greatest_divisor)) : Has P w K mg base (n + 1) "lowest" ["top", "bottom"] (spD K F_lowest) := by
  have sc : FnScope ["top", "bottom", "divisor"] ["top", "bottom"] (defScope (top 7)) := ⟨rfl, rfl, rfl, by decide +kernel, rfl, by decide +kernel, by decide +kernel⟩
  exact dg_ok (fl := [.A, .A, .A]) D sc (by decide) (by decide) fun f cdv A outer s H E hr => dss_cons (ds_setA (i := 2) rfl sc.nd rfl (by first | exact Or.inl rfl | exact Or.inr rfl) (c_C_A (de_call hgreatest_divisor hr (db_cons rfl (c_FC_P (de_blt call_abs b_abs (by rfl) B.abs_ PyProof.Rows.boot_abs (db_cons rfl (c_A_P (de_varA 0 rfl)) (db_nil)))) (db_cons rfl (c_FC_P (de_blt call_abs b_abs (by rfl) B.abs_ PyProof.Rows.boot_abs (db_cons rfl (c_A_P (de_varA 1 rfl)) (db_nil)))) (db_nil))))))
    (dss_cons (ds_if (dt_cmp op_lt b_lt (c_A_P (de_varA 1 rfl)) (c_FC_P (de_int)) (nomark _)) (dss_one (ds_setA (i := 2) rfl sc.nd rfl (by first | exact Or.inl rfl | exact Or.inr rfl) (c_FC_A (de_neg (c_A_P (de_varA 2 rfl)))))) (dss_nil))
    (dss_one (ds_ret (de_tup rfl (db_cons rfl (c_FC_R (de_op op_divG b_div (c_A_P (de_varA 0 rfl)) (c_A_P (de_varA 2 rfl)))) (db_cons rfl (c_FC_R (de_op op_divG b_div (c_A_P (de_varA 1 rfl)) (c_A_P (de_varA 2 rfl)))) (db_nil)))))))
theorem ok_ratio (D : Dg K mg "ratio" (top 8) ["top", "bottom"]) (B : Bl mg) (his_whole : Has P w K mg base n "is_whole" ["thing"] (spD K F_is_whole)) (hlowest : Has P w K mg base n "lowest" ["top", "bottom"] (spD K F_lowest)) : Has P w K mg base (n + 1) "ratio" ["top", "bottom"] (spD K F_ratio) := by
  have sc : FnScope ["top", "bottom"] ["top", "bottom"] (defScope (top 8)) := ⟨rfl, rfl, rfl, by decide +kernel, rfl, by decide +kernel, by decide +kernel⟩
  exact dg_ok (fl := [.A, .A]) D sc (by decide) (by decide) fun f cdv A outer s H E hr => dss_cons (ds_if (dt_w (dw_or (dt_not (dt_val (c_C_P (de_call his_whole hr (db_cons rfl (c_A_P (de_varA 0 rfl)) (db_nil)))))) (dw_or1 (dt_not (dt_val (c_C_P (de_call his_whole hr (db_cons rfl (c_A_P (de_varA 1 rfl)) (db_nil))))))))) (dss_one (ds_never)) (dss_nil))
    (dss_cons (ds_if (dt_cmp (op_eqD hr.units) b_eq (c_A_P (de_varA 1 rfl)) (c_FC_P (de_int)) (nomark _)) (dss_one (ds_never)) (dss_nil))
    (dss_one (ds_ret (c_C_R (de_call hlowest hr (db_cons rfl (c_A_P (de_varA 0 rfl)) (db_cons rfl (c_A_P (de_varA 1 rfl)) (db_nil))))))))
theorem okX_ratio (D : Dg K mg "ratio" (top 8) ["top", "bottom"]) (B : Bl mg) (his_whole : Has P w K mg base (n + 2) "is_whole" ["thing"] (spD K F_is_whole)) (hlowest : Has P w K mg base (n + 2) "lowest" ["top", "bottom"] (spD K F_lowest)) (zNoNumber : ExcG K mg fld "NoNumber" "text" "InnError") : HasX P w K mg base fld (n + 3) "ratio" ["top", "bottom"] (spX K mg X_ratio) [] := by
  have sc : FnScope ["top", "bottom"] ["top", "bottom"] (defScope (top 8)) := ⟨rfl, rfl, rfl, by decide +kernel, rfl, by decide +kernel, by decide +kernel⟩
  exact dgX_ok (fl := [.A, .A]) D sc (by decide) (by decide) fun f cdv A outer s H E hr => dxs_cons (dx_if (dt_w (dw_or (dt_not (dt_val (c_C_P (de_call his_whole hr (db_cons rfl (c_A_P (de_varA 0 rfl)) (db_nil)))))) (dw_or1 (dt_not (dt_val (c_C_P (de_call his_whole hr (db_cons rfl (c_A_P (de_varA 1 rfl)) (db_nil))))))))) (dxs_one (dx_raise zNoNumber.fly hr (c_FC_P (de_str)))) (dxs_of (dss_nil)))
    (dxs_cons (dx_if (dt_cmp (op_eqD hr.units) b_eq (c_A_P (de_varA 1 rfl)) (c_FC_P (de_int)) (nomark _)) (dxs_one (dx_raise zNoNumber.fly hr (c_FC_P (de_str)))) (dxs_of (dss_nil)))
    (dxs_one (dx_of (ds_ret (c_C_R (de_call hlowest hr (db_cons rfl (c_A_P (de_varA 0 rfl)) (db_cons rfl (c_A_P (de_varA 1 rfl)) (db_nil)))))))))
theorem okY_ratio (D : DgD K mg "ratio" (top 8) ["top", "bottom"] [V.int 1] ["bottom"]) (B : Bl mg) (his_whole : Has P w K mg base (n + 2) "is_whole" ["thing"] (spD K F_is_whole)) (hlowest : Has P w K mg base (n + 2) "lowest" ["top", "bottom"] (spD K F_lowest)) (zNoNumber : ExcG K mg fld "NoNumber" "text" "InnError") : HasX P w K mg base fld (n + 3) "ratio" ["top", "bottom"] (spX K mg X_ratio) [V.int 1] := by
  have sc : FnScope ["top", "bottom"] ["top", "bottom"] (defScope (top 8)) := ⟨rfl, rfl, rfl, by decide +kernel, rfl, by decide +kernel, by decide +kernel⟩
  exact dgXD_ok (fl := [.A, .A]) D sc (by decide) (by decide) fun f cdv A outer s H E hr => dxs_cons (dx_if (dt_w (dw_or (dt_not (dt_val (c_C_P (de_call his_whole hr (db_cons rfl (c_A_P (de_varA 0 rfl)) (db_nil)))))) (dw_or1 (dt_not (dt_val (c_C_P (de_call his_whole hr (db_cons rfl (c_A_P (de_varA 1 rfl)) (db_nil))))))))) (dxs_one (dx_raise zNoNumber.fly hr (c_FC_P (de_str)))) (dxs_of (dss_nil)))
    (dxs_cons (dx_if (dt_cmp (op_eqD hr.units) b_eq (c_A_P (de_varA 1 rfl)) (c_FC_P (de_int)) (nomark _)) (dxs_one (dx_raise zNoNumber.fly hr (c_FC_P (de_str)))) (dxs_of (dss_nil)))
    (dxs_one (dx_of (ds_ret (c_C_R (de_call hlowest hr (db_cons rfl (c_A_P (de_varA 0 rfl)) (db_cons rfl (c_A_P (de_varA 1 rfl)) (db_nil)))))))))
theorem ok_ratioD (D : DgD K mg "ratio" (top 8) ["top", "bottom"] [V.int 1] ["bottom"]) (B : Bl mg) (his_whole : Has P w K mg base n "is_whole" ["thing"] (spD K F_is_whole)) (hlowest : Has P w K mg base n "lowest" ["top", "bottom"] (spD K F_lowest)) : HasD P w K mg base (n + 1) "ratio" ["top", "bottom"] (spD K F_ratio) [V.int 1] ["bottom"] := by
  have sc : FnScope ["top", "bottom"] ["top", "bottom"] (defScope (top 8)) := ⟨rfl, rfl, rfl, by decide +kernel, rfl, by decide +kernel, by decide +kernel⟩
  exact dgD_ok (fl := [.A, .A]) D sc (by decide) (by decide) fun f cdv A outer s H E hr => dss_cons (ds_if (dt_w (dw_or (dt_not (dt_val (c_C_P (de_call his_whole hr (db_cons rfl (c_A_P (de_varA 0 rfl)) (db_nil)))))) (dw_or1 (dt_not (dt_val (c_C_P (de_call his_whole hr (db_cons rfl (c_A_P (de_varA 1 rfl)) (db_nil))))))))) (dss_one (ds_never)) (dss_nil))
    (dss_cons (ds_if (dt_cmp (op_eqD hr.units) b_eq (c_A_P (de_varA 1 rfl)) (c_FC_P (de_int)) (nomark _)) (dss_one (ds_never)) (dss_nil))
    (dss_one (ds_ret (c_C_R (de_call hlowest hr (db_cons rfl (c_A_P (de_varA 0 rfl)) (db_cons rfl (c_A_P (de_varA 1 rfl)) (db_nil))))))))
theorem ok__law_cell (D : Dg K mg "_law_cell" (top 10) ["_law_script", "_law_at"]) (B : Bl mg) : Has P w K mg base (n + 1) "_law_cell" ["_law_script", "_law_at"] (spD K F__law_cell) := by
  have sc : FnScope ["_law_script", "_law_at"] ["_law_script", "_law_at"] (defScope (top 10)) := ⟨rfl, rfl, rfl, by decide +kernel, rfl, by decide +kernel, by decide +kernel⟩
  exact dg_ok (fl := [.A, .A]) D sc (by decide) (by decide) fun f cdv A outer s H E hr => dss_cons (ds_if (dt_cmp op_lt b_lt (c_A_P (de_varA 1 rfl)) (c_FC_P (de_blt call_len_seq b_len (by rfl) B.len_ PySem.boot_len (db_cons rfl (c_A_P (de_varA 0 rfl)) (db_nil)))) (nomark _)) (dss_one (ds_ret (c_FC_R (de_op op_modN b_mod (c_A_P (de_ix (c_A_B (de_varA 0 rfl)) (c_A_P (de_varA 1 rfl)) (fun _ _ => rfl))) (c_FC_P (de_int)))))) (dss_nil))
    (dss_cons (ds_if (dt_cmp (op_eqD hr.units) b_eq (c_A_P (de_varA 0 rfl)) (c_FC_P (de_lstC (db_nil))) (nomark _)) (dss_one (ds_ret (c_FC_R (de_op op_add b_add (c_FC_P (de_op op_mulG b_mul (c_FC_P (de_int)) (c_A_P (de_varA 1 rfl)))) (c_FC_P (de_int)))))) (dss_nil))
    (dss_one (ds_ret (c_FC_R (de_op op_add b_add (c_FC_P (de_op op_modN b_mod (c_A_P (de_ix (c_A_B (de_varA 0 rfl)) (c_FC_P (de_op op_modN b_mod (c_FC_P (de_op op_mulG b_mul (c_A_P (de_varA 1 rfl)) (c_FC_P (de_int)))) (c_FC_P (de_blt call_len_seq b_len (by rfl) B.len_ PySem.boot_len (db_cons rfl (c_A_P (de_varA 0 rfl)) (db_nil)))))) (fun _ _ => rfl))) (c_FC_P (de_int)))) (c_FC_P (de_op op_mulG b_mul (c_FC_P (de_int)) (c_A_P (de_varA 1 rfl)))))))))
theorem ok__law_part (D : Dg K mg "_law_part" (top 11) ["_law_script", "_law_at", "_law_k", "_law_many"]) (B : Bl mg) (h_law_cell : Has P w K mg base n "_law_cell" ["_law_script", "_law_at"] (spD K F__law_cell)) : Has P w K mg base (n + 1) "_law_part" ["_law_script", "_law_at", "_law_k", "_law_many"] (spD K F__law_part) := by
  have sc : FnScope ["_law_script", "_law_at", "_law_k", "_law_many", "_law_number_here", "_law_j"] ["_law_script", "_law_at", "_law_k", "_law_many"] (defScope (top 11)) := ⟨rfl, rfl, rfl, by decide +kernel, rfl, by decide +kernel, by decide +kernel⟩
  exact dg_ok (fl := [.A, .A, .A, .A, .A, .A]) D sc (by decide) (by decide) fun f cdv A outer s H E hr => dss_cons (ds_if (dt_w (dw_and (dt_cmp op_lt b_lt (c_A_P (de_varA 1 rfl)) (c_FC_P (de_blt call_len_seq b_len (by rfl) B.len_ PySem.boot_len (db_cons rfl (c_A_P (de_varA 0 rfl)) (db_nil)))) (nomark _)) (dw_and1 (dt_cmp op_ge b_ge (c_A_P (de_ix (c_A_B (de_varA 0 rfl)) (c_A_P (de_varA 1 rfl)) (fun _ _ => rfl))) (c_FC_P (de_op op_pow b_pow (c_FC_P (de_int)) (c_FC_P (de_int)))) (nomark _))))) (dss_cons (ds_setA (i := 4) rfl sc.nd rfl (by first | exact Or.inl rfl | exact Or.inr rfl) (de_ix (c_A_B (de_varA 0 rfl)) (c_A_P (de_varA 1 rfl)) (fun _ _ => rfl)))
    (dss_cons (ds_for (L := []) PassesOwn.never rfl (di_range1 (by rfl) B.range_ (da_of (db_cons rfl (c_A_P (de_varA 2 rfl)) (db_nil)))) (dg_name (i := 5) rfl sc.nd rfl (by first | exact Or.inl rfl | exact Or.inr rfl)) (dss_one (ds_setA (i := 4) rfl sc.nd rfl (by first | exact Or.inl rfl | exact Or.inr rfl) (c_FC_A (de_op op_divG b_div (c_A_P (de_varA 4 rfl)) (c_FC_P (de_int)))))))
    (dss_one (ds_if (dt_cmp op_gt b_gt (c_A_P (de_varA 4 rfl)) (c_FC_P (de_int)) (nomark _)) (dss_one (ds_ret (c_FC_R (de_op op_modN b_mod (c_FC_P (de_op op_modN b_mod (c_A_P (de_varA 4 rfl)) (c_FC_P (de_int)))) (c_A_P (de_varA 3 rfl)))))) (dss_nil))))) (dss_nil))
    (dss_cons (ds_setA (i := 4) rfl sc.nd rfl (by first | exact Or.inl rfl | exact Or.inr rfl) (c_FC_A (de_op op_modN b_mod (c_FC_P (de_op op_mulG b_mul (c_FC_P (de_op op_add b_add (c_FC_P (de_op op_add b_add (c_C_P (de_call h_law_cell hr (db_cons rfl (c_A_P (de_varA 0 rfl)) (db_cons rfl (c_A_P (de_varA 1 rfl)) (db_nil))))) (c_FC_P (de_op op_mulG b_mul (c_FC_P (de_int)) (c_A_P (de_varA 1 rfl)))))) (c_FC_P (de_int)))) (c_FC_P (de_op op_add b_add (c_FC_P (de_int)) (c_FC_P (de_op op_mulG b_mul (c_FC_P (de_int)) (c_A_P (de_varA 2 rfl)))))))) (c_FC_P (de_int)))))
    (dss_cons (ds_setA (i := 4) rfl sc.nd rfl (by first | exact Or.inl rfl | exact Or.inr rfl) (c_FC_A (de_op op_add b_add (c_FC_P (de_op op_modN b_mod (c_FC_P (de_op op_mulG b_mul (c_A_P (de_varA 4 rfl)) (c_A_P (de_varA 4 rfl)))) (c_FC_P (de_int)))) (c_FC_P (de_int)))))
    (dss_one (ds_ret (c_FC_R (de_op op_modN b_mod (c_FC_P (de_op op_divG b_div (c_FC_P (de_op op_modN b_mod (c_FC_P (de_op op_mulG b_mul (c_A_P (de_varA 4 rfl)) (c_A_P (de_varA 4 rfl)))) (c_FC_P (de_int)))) (c_FC_P (de_int)))) (c_A_P (de_varA 3 rfl))))))))
theorem ok__law_far (D : Dg K mg "_law_far" (top 12) ["_law_script", "_law_at"]) (B : Bl mg) (h_law_part : Has P w K mg base n "_law_part" ["_law_script", "_law_at", "_law_k", "_law_many"] (spD K F__law_part)) : Has P w K mg base (n + 1) "_law_far" ["_law_script", "_law_at"] (spD K F__law_far) := by
  have sc : FnScope ["_law_script", "_law_at"] ["_law_script", "_law_at"] (defScope (top 12)) := ⟨rfl, rfl, rfl, by decide +kernel, rfl, by decide +kernel, by decide +kernel⟩
  exact dg_ok (fl := [.A, .A]) D sc (by decide) (by decide) fun f cdv A outer s H E hr => dss_cons (ds_if (dt_cmp op_lt b_lt (c_A_P (de_varA 1 rfl)) (c_FC_P (de_blt call_len_seq b_len (by rfl) B.len_ PySem.boot_len (db_cons rfl (c_A_P (de_varA 0 rfl)) (db_nil)))) (nomark _)) (dss_one (ds_ret (c_FC_R (de_op op_modN b_mod (c_A_P (de_ix (c_A_B (de_varA 0 rfl)) (c_A_P (de_varA 1 rfl)) (fun _ _ => rfl))) (c_FC_P (de_op op_pow b_pow (c_FC_P (de_int)) (c_FC_P (de_int)))))))) (dss_nil))
    (dss_one (ds_ret (c_FC_R (de_op op_add b_add (c_FC_P (de_op op_mulG b_mul (c_C_P (de_call h_law_part hr (db_cons rfl (c_A_P (de_varA 0 rfl)) (db_cons rfl (c_A_P (de_varA 1 rfl)) (db_cons rfl (c_FC_P (de_int)) (db_cons rfl (c_FC_P (de_op op_pow b_pow (c_FC_P (de_int)) (c_FC_P (de_int)))) (db_nil))))))) (c_FC_P (de_op op_pow b_pow (c_FC_P (de_int)) (c_FC_P (de_int)))))) (c_C_P (de_call h_law_part hr (db_cons rfl (c_A_P (de_varA 0 rfl)) (db_cons rfl (c_A_P (de_varA 1 rfl)) (db_cons rfl (c_FC_P (de_int)) (db_cons rfl (c_FC_P (de_op op_pow b_pow (c_FC_P (de_int)) (c_FC_P (de_int)))) (db_nil)))))))))))
theorem ok__law_whole (D : Dg K mg "_law_whole" (top 13) ["_law_found"]) (B : Bl mg) : Has P w K mg base (n + 1) "_law_whole" ["_law_found"] (spD K F__law_whole) := by
  have sc : FnScope ["_law_found"] ["_law_found"] (defScope (top 13)) := ⟨rfl, rfl, rfl, by decide +kernel, rfl, by decide +kernel, by decide +kernel⟩
  exact dg_ok (fl := [.A]) D sc (by decide) (by decide) fun f cdv A outer s H E hr => dss_one (ds_ret (c_FC_R (de_and (c_FC_P (de_isi (T := "int") (by decide) (c_A_P (de_varA 0 rfl)) (by rfl) B.isinstance_ (by rfl) B.int_ PyProof.Rows.boot_int)) (de_one (de_not (c_FC_P (de_isi (T := "bool") (by decide) (c_A_P (de_varA 0 rfl)) (by rfl) B.isinstance_ (by rfl) B.bool_ PyProof.Rows.boot_bool)))))))
theorem ok__law_divisor (D : Dg K mg "_law_divisor" (top 14) ["_law_one", "_law_other"]) (B : Bl mg) : Has P w K mg base (n + 1) "_law_divisor" ["_law_one", "_law_other"] (spD K F__law_divisor) := by
  have sc : FnScope ["_law_one", "_law_other", "_law_rest"] ["_law_one", "_law_other"] (defScope (top 14)) := ⟨rfl, rfl, rfl, by decide +kernel, rfl, by decide +kernel, by decide +kernel⟩
  exact dg_ok (fl := [.A, .A, .A]) D sc (by decide) (by decide) fun f cdv A outer s H E hr => dss_cons (ds_setA (i := 0) rfl sc.nd rfl (by first | exact Or.inl rfl | exact Or.inr rfl) (c_FC_A (de_blt call_abs b_abs (by rfl) B.abs_ PyProof.Rows.boot_abs (db_cons rfl (c_A_P (de_varA 0 rfl)) (db_nil)))))
    (dss_cons (ds_setA (i := 1) rfl sc.nd rfl (by first | exact Or.inl rfl | exact Or.inr rfl) (c_FC_A (de_blt call_abs b_abs (by rfl) B.abs_ PyProof.Rows.boot_abs (db_cons rfl (c_A_P (de_varA 1 rfl)) (db_nil)))))
    (dss_cons (ds_while PassesOwn.never (dt_cmp op_gt b_gt (c_A_P (de_varA 1 rfl)) (c_FC_P (de_int)) (nomark _)) (dss_cons (ds_setA (i := 2) rfl sc.nd rfl (by first | exact Or.inl rfl | exact Or.inr rfl) (c_FC_A (de_op op_modN b_mod (c_A_P (de_varA 0 rfl)) (c_A_P (de_varA 1 rfl)))))
    (dss_cons (ds_setA (i := 0) rfl sc.nd rfl (by first | exact Or.inl rfl | exact Or.inr rfl) (de_varA 1 rfl))
    (dss_one (ds_setA (i := 1) rfl sc.nd rfl (by first | exact Or.inl rfl | exact Or.inr rfl) (de_varA 2 rfl))))))
    (dss_one (ds_ret (c_FC_R (c_flat (c_A_P (de_varA 0 rfl))))))))
theorem ok__law_number (D : Dg K mg "_law_number" (top 15) ["_law_script", "_law_at"]) (B : Bl mg) (h_law_part : Has P w K mg base n "_law_part" ["_law_script", "_law_at", "_law_k", "_law_many"] (spD K F__law_part)) (h_law_far : Has P w K mg base n "_law_far" ["_law_script", "_law_at"] (spD K F__law_far)) : Has P w K mg base (n + 1) "_law_number" ["_law_script", "_law_at"] (spD K F__law_number) := by
  have sc : FnScope ["_law_script", "_law_at", "_law_far_here", "_law_some"] ["_law_script", "_law_at"] (defScope (top 15)) := ⟨rfl, rfl, rfl, by decide +kernel, rfl, by decide +kernel, by decide +kernel⟩
  exact dg_ok (fl := [.A, .A, .A, .A]) D sc (by decide) (by decide) fun f cdv A outer s H E hr => dss_cons (ds_setA (i := 2) rfl sc.nd rfl (by first | exact Or.inl rfl | exact Or.inr rfl) (c_C_A (de_call h_law_far hr (db_cons rfl (c_A_P (de_varA 0 rfl)) (db_cons rfl (c_A_P (de_varA 1 rfl)) (db_nil))))))
    (dss_cons (ds_setA (i := 3) rfl sc.nd rfl (by first | exact Or.inl rfl | exact Or.inr rfl) (c_FC_A (de_lstC (db_cons rfl (c_FC_C (de_op op_sub b_sub (c_C_P (de_call h_law_part hr (db_cons rfl (c_A_P (de_varA 0 rfl)) (db_cons rfl (c_A_P (de_varA 1 rfl)) (db_cons rfl (c_FC_P (de_int)) (db_cons rfl (c_FC_P (de_int)) (db_nil))))))) (c_FC_P (de_int)))) (db_cons rfl (c_FC_C (de_op op_sub b_sub (c_C_P (de_call h_law_part hr (db_cons rfl (c_A_P (de_varA 0 rfl)) (db_cons rfl (c_A_P (de_varA 1 rfl)) (db_cons rfl (c_FC_P (de_int)) (db_cons rfl (c_FC_P (de_int)) (db_nil))))))) (c_FC_P (de_int)))) (db_cons rfl (c_FC_C (de_op op_sub b_sub (c_C_P (de_call h_law_part hr (db_cons rfl (c_A_P (de_varA 0 rfl)) (db_cons rfl (c_A_P (de_varA 1 rfl)) (db_cons rfl (c_FC_P (de_int)) (db_cons rfl (c_FC_P (de_int)) (db_nil))))))) (c_FC_P (de_int)))) (db_nil)))))))
    (dss_cons (ds_setA (i := 3) rfl sc.nd rfl (by first | exact Or.inl rfl | exact Or.inr rfl) (c_F_A (de_cat (c_A_B (de_varA 3 rfl)) (c_A_B (c_FC_A (de_lstC (db_cons rfl (c_FC_C (de_op op_sub b_sub (c_FC_P (de_op op_modN b_mod (c_A_P (de_varA 2 rfl)) (c_FC_P (de_op op_add b_add (c_FC_P (de_op op_mulG b_mul (c_FC_P (de_int)) (c_FC_P (de_op op_pow b_pow (c_FC_P (de_int)) (c_FC_P (de_int)))))) (c_FC_P (de_int)))))) (c_FC_P (de_op op_pow b_pow (c_FC_P (de_int)) (c_FC_P (de_int)))))) (db_cons rfl (c_FC_C (de_op op_sub b_sub (c_A_P (de_varA 2 rfl)) (c_FC_P (de_op op_mulG b_mul (c_FC_P (de_int)) (c_FC_P (de_op op_pow b_pow (c_FC_P (de_int)) (c_FC_P (de_int)))))))) (db_cons rfl (c_FC_C (de_op op_add b_add (c_FC_P (de_op op_mulG b_mul (c_FC_P (de_op op_mulG b_mul (c_A_P (de_varA 2 rfl)) (c_FC_P (de_op op_pow b_pow (c_FC_P (de_int)) (c_FC_P (de_int)))))) (c_FC_P (de_op op_pow b_pow (c_FC_P (de_int)) (c_FC_P (de_int)))))) (c_A_P (de_varA 2 rfl)))) (db_nil))))))))))
    (dss_one (ds_ret (c_FC_R (c_flat (c_A_P (de_ix (c_A_B (de_varA 3 rfl)) (c_C_P (de_call h_law_part hr (db_cons rfl (c_A_P (de_varA 0 rfl)) (db_cons rfl (c_A_P (de_varA 1 rfl)) (db_cons rfl (c_FC_P (de_int)) (db_cons rfl (c_FC_P (de_int)) (db_nil))))))) (fun _ _ => rfl)))))))))
theorem ok__law_right (D : Dg K mg "_law_right" (top 16) ["_law_found", "_law_top", "_law_low"]) (B : Bl mg) (h_law_whole : Has P w K mg base n "_law_whole" ["_law_found"] (spD K F__law_whole)) (h_law_divisor : Has P w K mg base n "_law_divisor" ["_law_one", "_law_other"] (spD K F__law_divisor)) : Has P w K mg base (n + 1) "_law_right" ["_law_found", "_law_top", "_law_low"] (spD K F__law_right) := by
  have sc : FnScope ["_law_found", "_law_top", "_law_low"] ["_law_found", "_law_top", "_law_low"] (defScope (top 16)) := ⟨rfl, rfl, rfl, by decide +kernel, rfl, by decide +kernel, by decide +kernel⟩
  exact dg_ok (fl := [.A, .A, .A]) D sc (by decide) (by decide) fun f cdv A outer s H E hr => dss_cons (ds_if (dt_w (dw_or (dt_not (dt_val (c_FC_P (de_isi (T := "tuple") (by decide) (c_A_P (de_varA 0 rfl)) (by rfl) B.isinstance_ (by rfl) B.tuple_ PyProof.Rows.boot_tuple)))) (dw_or (dt_cmp (op_neD hr.units) b_ne (c_FC_P (de_blt call_len_seq b_len (by rfl) B.len_ PySem.boot_len (db_cons rfl (c_A_P (de_varA 0 rfl)) (db_nil)))) (c_FC_P (de_int)) (nomark _)) (dw_or (dt_not (dt_val (c_C_P (de_call h_law_whole hr (db_cons rfl (c_A_P (de_ix (c_A_B (de_varA 0 rfl)) (c_FC_P (de_int)) (fun _ _ => rfl))) (db_nil)))))) (dw_or1 (dt_not (dt_val (c_C_P (de_call h_law_whole hr (db_cons rfl (c_A_P (de_ix (c_A_B (de_varA 0 rfl)) (c_FC_P (de_int)) (fun _ _ => rfl))) (db_nil))))))))))) (dss_one (ds_ret (c_FC_R (de_bl)))) (dss_nil))
    (dss_cons (ds_if (dt_w (dw_or (dt_cmp op_lt b_lt (c_A_P (de_ix (c_A_B (de_varA 0 rfl)) (c_FC_P (de_int)) (fun _ _ => rfl))) (c_FC_P (de_int)) (nomark _)) (dw_or1 (dt_cmp (op_neD hr.units) b_ne (c_C_P (de_call h_law_divisor hr (db_cons rfl (c_A_P (de_ix (c_A_B (de_varA 0 rfl)) (c_FC_P (de_int)) (fun _ _ => rfl))) (db_cons rfl (c_A_P (de_ix (c_A_B (de_varA 0 rfl)) (c_FC_P (de_int)) (fun _ _ => rfl))) (db_nil))))) (c_FC_P (de_int)) (nomark _))))) (dss_one (ds_ret (c_FC_R (de_bl)))) (dss_nil))
    (dss_one (ds_ret (c_FC_R (de_cmp (op_eqD hr.units) b_eq (c_FC_P (de_op op_mulG b_mul (c_A_P (de_ix (c_A_B (de_varA 0 rfl)) (c_FC_P (de_int)) (fun _ _ => rfl))) (c_A_P (de_varA 2 rfl)))) (c_FC_P (de_op op_mulG b_mul (c_A_P (de_varA 1 rfl)) (c_A_P (de_ix (c_A_B (de_varA 0 rfl)) (c_FC_P (de_int)) (fun _ _ => rfl))))) (nomark _))))))
theorem ok__law_refused (D : Dg K mg "_law_refused" (top 17) ["_law_top", "_law_low"]) (B : Bl mg) (xratio : HasX P w K mg base fld n "ratio" ["top", "bottom"] (spX K mg X_ratio) []) (zNoNumber : ExcG K mg fld "NoNumber" "text" "InnError") (vValueError : mg "ValueError" = none) : Has P w K mg base (n + 1) "_law_refused" ["_law_top", "_law_low"] (spD K F__law_refused) := by
  have sc : FnScope ["_law_top", "_law_low", "e"] ["_law_top", "_law_low"] (defScope (top 17)) := ⟨rfl, rfl, rfl, by decide +kernel, rfl, by decide +kernel, by decide +kernel⟩
  exact dg_ok (fl := [.A, .A, .A]) D sc (by decide) (by decide) fun f cdv A outer s H E hr => dss_cons (ds_try1 (i := 2) (cs := ["NoNumber"]) (dd := []) xratio (fun H => .nil) hr (db_cons rfl (c_A_P (de_varA 0 rfl)) (db_cons rfl (c_A_P (de_varA 1 rfl)) (db_nil))) (List.forall_mem_cons.mpr ⟨(lands_up zNoNumber fun C I0 Ex mI a oa dx od hoa => ise_and (ise_own Ex (.inl rfl) hoa Ex.mgC (by rfl) B.isinstance_ (by rfl) rfl (Or.inl rfl)) (ise_one (ise_blt (T0 := "ValueError") Ex rfl (by decide) hoa vValueError (by decide +kernel) (by rfl) B.isinstance_ (by rfl) rfl (Or.inl rfl)))), List.forall_mem_nil _⟩) rfl sc.nd rfl)
    (dss_one (ds_ret (c_FC_R (de_bl))))
theorem ok__law_alone (D : Dg K mg "_law_alone" (top 18) ["_law_top"]) (B : Bl mg) (yratio : HasX P w K mg base fld n "ratio" ["top", "bottom"] (spX K mg X_ratio) [V.int 1]) (zNoNumber : ExcG K mg fld "NoNumber" "text" "InnError") : Has P w K mg base (n + 1) "_law_alone" ["_law_top"] (spD K F__law_alone) := by
  have sc : FnScope ["_law_top", "e"] ["_law_top"] (defScope (top 18)) := ⟨rfl, rfl, rfl, by decide +kernel, rfl, by decide +kernel, by decide +kernel⟩
  exact dg_ok (fl := [.A, .A]) D sc (by decide) (by decide) fun f cdv A outer s H E hr => dss_cons (ds_try1 (i := 1) (cs := ["NoNumber"]) (dd := [.int 1]) yratio (fun H => .cons (.int 1) .nil) hr (db_cons rfl (c_A_P (de_varA 0 rfl)) (db_nil)) (List.forall_mem_cons.mpr ⟨(lands_self zNoNumber fun C I0 Ex mI a oa dx od hoa => ise_own Ex (.inr rfl) hoa mI (by rfl) B.isinstance_ (by rfl) rfl (Or.inl rfl)), List.forall_mem_nil _⟩) rfl sc.nd rfl)
    (dss_one (ds_ret (c_FC_R (de_bl))))
theorem ok__law_told (D : Dg K mg "_law_told" (top 19) ["_law_top", "_law_low"]) (B : Bl mg) (hratio : Has P w K mg base n "ratio" ["top", "bottom"] (spD K F_ratio)) (h_law_right : Has P w K mg base n "_law_right" ["_law_found", "_law_top", "_law_low"] (spD K F__law_right)) (h_law_refused : Has P w K mg base n "_law_refused" ["_law_top", "_law_low"] (spD K F__law_refused)) (dratio : HasD P w K mg base n "ratio" ["top", "bottom"] (spD K F_ratio) [V.int 1] ["bottom"]) : Has P w K mg base (n + 1) "_law_told" ["_law_top", "_law_low"] (spD K F__law_told) := by
  have sc : FnScope ["_law_top", "_law_low", "_law_found"] ["_law_top", "_law_low"] (defScope (top 19)) := ⟨rfl, rfl, rfl, by decide +kernel, rfl, by decide +kernel, by decide +kernel⟩
  exact dg_ok (fl := [.A, .A, .A]) D sc (by decide) (by decide) fun f cdv A outer s H E hr => dss_cons (ds_if (dt_cmp (op_eqD hr.units) b_eq (c_A_P (de_varA 1 rfl)) (c_FC_P (de_int)) (nomark _)) (dss_one (ds_ret (c_C_R (de_call h_law_refused hr (db_cons rfl (c_A_P (de_varA 0 rfl)) (db_cons rfl (c_A_P (de_varA 1 rfl)) (db_nil))))))) (dss_nil))
    (dss_cons (ds_setA (i := 2) rfl sc.nd rfl (by first | exact Or.inl rfl | exact Or.inr rfl) (c_C_A (de_call hratio hr (db_cons rfl (c_A_P (de_varA 0 rfl)) (db_cons rfl (c_A_P (de_varA 1 rfl)) (db_nil))))))
    (dss_one (ds_ret (c_FC_R (de_and (c_C_P (de_call h_law_right hr (db_cons rfl (c_A_P (de_varA 2 rfl)) (db_cons rfl (c_A_P (de_varA 0 rfl)) (db_cons rfl (c_A_P (de_varA 1 rfl)) (db_nil)))))) (de_one (de_cmp (op_eqD hr.units) b_eq (c_C_P (de_callK dratio hr (db_cons rfl (c_FC_P (de_neg (c_A_P (de_varA 0 rfl)))) (db_nil)) (c_FC_P (de_neg (c_A_P (de_varA 1 rfl)))))) (c_A_P (de_varA 2 rfl)) (nomark _))))))))
theorem fn_law {f : Addr} {fd : FuncData} (Fn : FunD K "law" (top 20) f fd) (B : Bl mg) (hratio : Has P w K mg base n "ratio" ["top", "bottom"] (spD K F_ratio)) (h_law_part : Has P w K mg base n "_law_part" ["_law_script", "_law_at", "_law_k", "_law_many"] (spD K F__law_part)) (h_law_number : Has P w K mg base n "_law_number" ["_law_script", "_law_at"] (spD K F__law_number)) (h_law_right : Has P w K mg base n "_law_right" ["_law_found", "_law_top", "_law_low"] (spD K F__law_right)) (h_law_refused : Has P w K mg base n "_law_refused" ["_law_top", "_law_low"] (spD K F__law_refused)) (h_law_alone : Has P w K mg base n "_law_alone" ["_law_top"] (spD K F__law_alone)) (h_law_told : Has P w K mg base n "_law_told" ["_law_top", "_law_low"] (spD K F__law_told)) (dratio : HasD P w K mg base n "ratio" ["top", "bottom"] (spD K F_ratio) [V.int 1] ["bottom"]) : FnOk P w K mg base CX0 (n + 1) f fd ["_law_script"] (spD K F_law) := by
  have sc : FnScope ["_law_script", "_law_top", "_law_low", "_law_share", "_law_odd", "_law_one", "_law_way"] ["_law_script"] (defScope (top 20)) := ⟨rfl, rfl, rfl, by decide +kernel, rfl, by decide +kernel, by decide +kernel⟩
  exact fun_ok (fl := [.A, .A, .A, .A, .A, .A, .A]) Fn sc (by decide) (by decide) fun f cdv A outer s H E hr => dss_cons (ds_setA (i := 1) rfl sc.nd rfl (by first | exact Or.inl rfl | exact Or.inr rfl) (c_C_A (de_call h_law_number hr (db_cons rfl (c_A_P (de_varA 0 rfl)) (db_cons rfl (c_FC_P (de_int)) (db_nil))))))
    (dss_cons (ds_setA (i := 2) rfl sc.nd rfl (by first | exact Or.inl rfl | exact Or.inr rfl) (c_C_A (de_call h_law_number hr (db_cons rfl (c_A_P (de_varA 0 rfl)) (db_cons rfl (c_FC_P (de_int)) (db_nil))))))
    (dss_cons (ds_if (dt_cmp (op_eqD hr.units) b_eq (c_C_P (de_call h_law_part hr (db_cons rfl (c_A_P (de_varA 0 rfl)) (db_cons rfl (c_FC_P (de_int)) (db_cons rfl (c_FC_P (de_int)) (db_cons rfl (c_FC_P (de_int)) (db_nil))))))) (c_FC_P (de_int)) (nomark _)) (dss_cons (ds_setA (i := 3) rfl sc.nd rfl (by first | exact Or.inl rfl | exact Or.inr rfl) (c_C_A (de_call h_law_number hr (db_cons rfl (c_A_P (de_varA 0 rfl)) (db_cons rfl (c_FC_P (de_int)) (db_nil))))))
    (dss_cons (ds_setA (i := 1) rfl sc.nd rfl (by first | exact Or.inl rfl | exact Or.inr rfl) (c_FC_A (de_op op_mulG b_mul (c_A_P (de_varA 1 rfl)) (c_A_P (de_varA 3 rfl)))))
    (dss_one (ds_setA (i := 2) rfl sc.nd rfl (by first | exact Or.inl rfl | exact Or.inr rfl) (c_FC_A (de_op op_mulG b_mul (c_A_P (de_varA 2 rfl)) (c_A_P (de_varA 3 rfl)))))))) (dss_nil))
    (dss_cons (ds_setA (i := 4) rfl sc.nd rfl (by first | exact Or.inl rfl | exact Or.inr rfl) (c_FC_A (de_lstC (db_cons rfl (c_FC_C (de_bl)) (db_cons rfl (c_FC_C (de_bl)) (db_cons rfl (c_FC_C (de_non)) (db_cons rfl (c_FC_C (de_str)) (db_cons rfl (de_tup rfl (db_cons rfl (c_FC_C (de_int)) (db_cons rfl (c_FC_C (de_int)) (db_nil)))) (db_cons rfl (c_FC_C (de_lstC (db_cons rfl (c_FC_C (de_int)) (db_nil)))) (db_cons rfl (c_T_C (de_dicT)) (db_cons rfl (c_FC_C (de_str)) (db_cons rfl (de_tup rfl (db_cons rfl (c_FC_C (de_int)) (db_nil))) (db_cons rfl (c_FC_C (de_str)) (db_nil))))))))))))))
    (dss_cons (ds_setA (i := 5) rfl sc.nd rfl (by first | exact Or.inl rfl | exact Or.inr rfl) (de_ix (c_A_B (de_varA 4 rfl)) (c_C_P (de_call h_law_part hr (db_cons rfl (c_A_P (de_varA 0 rfl)) (db_cons rfl (c_FC_P (de_int)) (db_cons rfl (c_FC_P (de_int)) (db_cons rfl (c_FC_P (de_int)) (db_nil))))))) (fun _ _ => rfl)))
    (dss_cons (ds_setA (i := 6) rfl sc.nd rfl (by first | exact Or.inl rfl | exact Or.inr rfl) (c_C_A (de_call h_law_part hr (db_cons rfl (c_A_P (de_varA 0 rfl)) (db_cons rfl (c_FC_P (de_int)) (db_cons rfl (c_FC_P (de_int)) (db_cons rfl (c_FC_P (de_int)) (db_nil))))))))
    (dss_cons (ds_if (dt_w (dw_and (dt_cmp (op_eqD hr.units) b_eq (c_A_P (de_varA 6 rfl)) (c_FC_P (de_int)) (nomark _)) (dw_and1 (dt_w (dw_or (dt_not (dt_val (c_C_P (de_call h_law_refused hr (db_cons rfl (c_A_P (de_varA 5 rfl)) (db_cons rfl (c_A_P (de_varA 2 rfl)) (db_nil))))))) (dw_or1 (dt_not (dt_val (c_C_P (de_call h_law_alone hr (db_cons rfl (c_A_P (de_varA 5 rfl)) (db_nil)))))))))))) (dss_one (ds_ret (c_FC_R (de_bl)))) (dss_nil))
    (dss_cons (ds_if (dt_w (dw_and (dt_cmp (op_eqD hr.units) b_eq (c_A_P (de_varA 6 rfl)) (c_FC_P (de_int)) (nomark _)) (dw_and1 (dt_not (dt_val (c_C_P (de_call h_law_refused hr (db_cons rfl (c_A_P (de_varA 1 rfl)) (db_cons rfl (c_A_P (de_varA 5 rfl)) (db_nil)))))))))) (dss_one (ds_ret (c_FC_R (de_bl)))) (dss_nil))
    (dss_cons (ds_if (dt_w (dw_and (dt_cmp (op_eqD hr.units) b_eq (c_A_P (de_varA 6 rfl)) (c_FC_P (de_int)) (nomark _)) (dw_and1 (dt_not (dt_val (c_C_P (de_call h_law_refused hr (db_cons rfl (c_A_P (de_varA 5 rfl)) (db_cons rfl (c_A_P (de_ix (c_A_B (de_varA 4 rfl)) (c_C_P (de_call h_law_part hr (db_cons rfl (c_A_P (de_varA 0 rfl)) (db_cons rfl (c_FC_P (de_int)) (db_cons rfl (c_FC_P (de_int)) (db_cons rfl (c_FC_P (de_int)) (db_nil))))))) (fun _ _ => rfl))) (db_nil)))))))))) (dss_one (ds_ret (c_FC_R (de_bl)))) (dss_nil))
    (dss_cons (ds_if (dt_w (dw_and (dt_cmp (op_eqD hr.units) b_eq (c_A_P (de_varA 6 rfl)) (c_FC_P (de_int)) (nomark _)) (dw_and1 (dt_not (dt_val (c_C_P (de_call h_law_refused hr (db_cons rfl (c_A_P (de_varA 1 rfl)) (db_cons rfl (c_FC_P (de_int)) (db_nil)))))))))) (dss_one (ds_ret (c_FC_R (de_bl)))) (dss_nil))
    (dss_cons (ds_if (dt_w (dw_and (dt_cmp (op_inD hr.units) b_in (c_A_P (de_varA 6 rfl)) (c_C_P (de_tup rfl (db_cons rfl (c_FC_C (de_int)) (db_cons rfl (c_FC_C (de_int)) (db_nil))))) (by with_unfolding_all rfl)) (dw_and1 (dt_not (dt_val (c_C_P (de_call h_law_right hr (db_cons rfl (c_C_P (de_callD dratio hr (db_cons rfl (c_A_P (de_varA 1 rfl)) (db_nil)))) (db_cons rfl (c_A_P (de_varA 1 rfl)) (db_cons rfl (c_FC_P (de_int)) (db_nil))))))))))) (dss_one (ds_ret (c_FC_R (de_bl)))) (dss_nil))
    (dss_one (ds_ret (c_C_R (de_and (c_C_P (de_call h_law_told hr (db_cons rfl (c_A_P (de_varA 1 rfl)) (db_cons rfl (c_A_P (de_varA 2 rfl)) (db_nil))))) (de_and (c_C_P (de_call h_law_told hr (db_cons rfl (c_A_P (de_varA 2 rfl)) (db_cons rfl (c_A_P (de_varA 1 rfl)) (db_nil))))) (de_one (de_call h_law_told hr (db_cons rfl (c_A_P (de_varA 1 rfl)) (db_cons rfl (c_A_P (de_varA 2 rfl)) (db_nil))))))))))))))))))))
end
end K11
namespace K11
open PySem L2 My D3
structure Txt (K : PySem.W.Frag) (mg : Str → Option Value) : Prop where
  d_is_whole : Dg K mg "is_whole" (top 4) ["thing"]
  d_greatest_divisor : Dg K mg "greatest_divisor" (top 6) ["one", "other"]
  d_lowest : Dg K mg "lowest" (top 7) ["top", "bottom"]
  d_ratio : Dg K mg "ratio" (top 8) ["top", "bottom"]
  d__law_cell : Dg K mg "_law_cell" (top 10) ["_law_script", "_law_at"]
  d__law_part : Dg K mg "_law_part" (top 11) ["_law_script", "_law_at", "_law_k", "_law_many"]
  d__law_far : Dg K mg "_law_far" (top 12) ["_law_script", "_law_at"]
  d__law_whole : Dg K mg "_law_whole" (top 13) ["_law_found"]
  d__law_divisor : Dg K mg "_law_divisor" (top 14) ["_law_one", "_law_other"]
  d__law_number : Dg K mg "_law_number" (top 15) ["_law_script", "_law_at"]
  d__law_right : Dg K mg "_law_right" (top 16) ["_law_found", "_law_top", "_law_low"]
  d__law_refused : Dg K mg "_law_refused" (top 17) ["_law_top", "_law_low"]
  d__law_alone : Dg K mg "_law_alone" (top 18) ["_law_top"]
  d__law_told : Dg K mg "_law_told" (top 19) ["_law_top", "_law_low"]
  d_law : Dl K mg "law" "_law_script" (top 20)
  e_ratio : DgD K mg "ratio" (top 8) ["top", "bottom"] [V.int 1] ["bottom"]
  z_NoNumber : XC.ExcG K mg (fun _ => "text") "NoNumber" "text" "InnError"
  v_ValueError : mg "ValueError" = none
  blt : Bl mg
theorem law_fn {P : Program} {w : World} {K : PySem.W.Frag} {mg : Str → Option Value} {base : Heap} (T : Txt K mg) {f : Addr} {fd : FuncData} (F : FunD K "law" (top 20) f fd) : FnOk P w K mg base CX0 65 f fd ["_law_script"] (spLaw K) := by
  have h_is_whole := ok_is_whole (P := P) (w := w) (base := base) (n := 0) T.d_is_whole T.blt
  have h_greatest_divisor := ok_greatest_divisor (P := P) (w := w) (base := base) (n := 0) T.d_greatest_divisor T.blt
  have h__law_cell := ok__law_cell (P := P) (w := w) (base := base) (n := 0) T.d__law_cell T.blt
  have h__law_whole := ok__law_whole (P := P) (w := w) (base := base) (n := 0) T.d__law_whole T.blt
  have h__law_divisor := ok__law_divisor (P := P) (w := w) (base := base) (n := 0) T.d__law_divisor T.blt
  have h_lowest := ok_lowest (P := P) (w := w) (base := base) (n := 1) T.d_lowest T.blt (h_greatest_divisor.mono (by decide))
  have h__law_part := ok__law_part (P := P) (w := w) (base := base) (n := 1) T.d__law_part T.blt (h__law_cell.mono (by decide))
  have h__law_right := ok__law_right (P := P) (w := w) (base := base) (n := 1) T.d__law_right T.blt (h__law_whole.mono (by decide)) (h__law_divisor.mono (by decide))
  have x_ratio := okX_ratio (P := P) (w := w) (base := base) (fld := (fun _ => "text")) (n := 0) T.d_ratio T.blt (h_is_whole.mono (by decide)) (h_lowest.mono (by decide)) T.z_NoNumber
  have y_ratio := okY_ratio (P := P) (w := w) (base := base) (fld := (fun _ => "text")) (n := 0) T.e_ratio T.blt (h_is_whole.mono (by decide)) (h_lowest.mono (by decide)) T.z_NoNumber
  have e_ratio := ok_ratioD (P := P) (w := w) (base := base) (n := 2) T.e_ratio T.blt (h_is_whole.mono (by decide)) (h_lowest.mono (by decide))
  have h_ratio := ok_ratio (P := P) (w := w) (base := base) (n := 2) T.d_ratio T.blt (h_is_whole.mono (by decide)) (h_lowest.mono (by decide))
  have h__law_far := ok__law_far (P := P) (w := w) (base := base) (n := 2) T.d__law_far T.blt (h__law_part.mono (by decide))
  have h__law_number := ok__law_number (P := P) (w := w) (base := base) (n := 3) T.d__law_number T.blt (h__law_part.mono (by decide)) (h__law_far.mono (by decide))
  have h__law_refused := ok__law_refused (P := P) (w := w) (base := base) (n := 3) T.d__law_refused T.blt (x_ratio.mono (by decide)) T.z_NoNumber T.v_ValueError
  have h__law_alone := ok__law_alone (P := P) (w := w) (base := base) (n := 3) T.d__law_alone T.blt (y_ratio.mono (by decide)) T.z_NoNumber
  have h__law_told := ok__law_told (P := P) (w := w) (base := base) (n := 4) T.d__law_told T.blt (h_ratio.mono (by decide)) (h__law_right.mono (by decide)) (h__law_refused.mono (by decide)) (e_ratio.mono (by decide))
  exact ((fn_law (P := P) (w := w) (base := base) (n := 5) F T.blt (h_ratio.mono (by decide)) (h__law_part.mono (by decide)) (h__law_number.mono (by decide)) (h__law_right.mono (by decide)) (h__law_refused.mono (by decide)) (h__law_alone.mono (by decide)) (h__law_told.mono (by decide)) (e_ratio.mono (by decide))).mono (by decide)).imp (law_imp K11.law_true)
end K11
open PySem PySem.W PyProof.Rows
set_option maxRecDepth 100000 in
set_option maxHeartbeats 0 in
theorem PySem.Challenge.cw_nightbook_k11_a_ratio_holds : PySem.Challenge.rw_nightbook_k11_a_ratio.Holds := by
  w_on; o_law; k_head; (case hw => w_witness2)
  k_fill
  refine L2.walk_ofK (l := PySem.Challenge.rw_nightbook_k11_a_ratio) (n := 63) (k := 65) (x := "_law_script") (CX := L2.CX0) (sp := D3.spLaw) rfl (by decide) rfl ⟨rfl, by decide, by decide⟩ (fun w h Y => PySem.W.kIn_of Y) ?F ?S ?C
  case F =>
    intro w mg fa h KX G hmg
    have T : K11.Txt (L2.KOf KX) mg := by
      dsimp only [L2.KOf]
      have d_is_whole : D3.Dg (L2.KOf KX) mg "is_whole" (K11.top 4) ["thing"] := by
        dsimp only [L2.KOf]
        refine' D3.dg_mk KX G ?b ?a ?l ?c ?k
        (case a => k_is); (case l => k_is); (case c => k_is); (case k => k_is)
        (case b => exact fun _ _ _ _ _ _ us hl => match us, hl with | [_], _ => rfl)
      have d_greatest_divisor : D3.Dg (L2.KOf KX) mg "greatest_divisor" (K11.top 6) ["one", "other"] := by
        dsimp only [L2.KOf]
        refine' D3.dg_mk KX G ?b ?a ?l ?c ?k
        (case a => k_is); (case l => k_is); (case c => k_is); (case k => k_is)
        (case b => exact fun _ _ _ _ _ _ us hl => match us, hl with | [_, _], _ => rfl)
      have d_lowest : D3.Dg (L2.KOf KX) mg "lowest" (K11.top 7) ["top", "bottom"] := by
        dsimp only [L2.KOf]
        refine' D3.dg_mk KX G ?b ?a ?l ?c ?k
        (case a => k_is); (case l => k_is); (case c => k_is); (case k => k_is)
        (case b => exact fun _ _ _ _ _ _ us hl => match us, hl with | [_, _], _ => rfl)
      have d_ratio : D3.Dg (L2.KOf KX) mg "ratio" (K11.top 8) ["top", "bottom"] := by
        dsimp only [L2.KOf]
        refine' D3.dg_mkD KX G ?b ?a ?l ?c ?k ?t ?s
        (case a => k_is); (case l => k_is); (case c => k_is); (case k => k_is); (case t => k_is); (case s => rfl)
        (case b => exact fun _ _ _ _ _ _ us hl => match us, hl with | [_, _], _ => ⟨_, rfl, rfl⟩)
      have d__law_cell : D3.Dg (L2.KOf KX) mg "_law_cell" (K11.top 10) ["_law_script", "_law_at"] := by
        dsimp only [L2.KOf]
        refine' D3.dg_mk KX G ?b ?a ?l ?c ?k
        (case a => k_is); (case l => k_is); (case c => k_is); (case k => k_is)
        (case b => exact fun _ _ _ _ _ _ us hl => match us, hl with | [_, _], _ => rfl)
      have d__law_part : D3.Dg (L2.KOf KX) mg "_law_part" (K11.top 11) ["_law_script", "_law_at", "_law_k", "_law_many"] := by
        dsimp only [L2.KOf]
        refine' D3.dg_mk KX G ?b ?a ?l ?c ?k
        (case a => k_is); (case l => k_is); (case c => k_is); (case k => k_is)
        (case b => exact fun _ _ _ _ _ _ us hl => match us, hl with | [_, _, _, _], _ => rfl)
      have d__law_far : D3.Dg (L2.KOf KX) mg "_law_far" (K11.top 12) ["_law_script", "_law_at"] := by
        dsimp only [L2.KOf]
        refine' D3.dg_mk KX G ?b ?a ?l ?c ?k
        (case a => k_is); (case l => k_is); (case c => k_is); (case k => k_is)
        (case b => exact fun _ _ _ _ _ _ us hl => match us, hl with | [_, _], _ => rfl)
      have d__law_whole : D3.Dg (L2.KOf KX) mg "_law_whole" (K11.top 13) ["_law_found"] := by
        dsimp only [L2.KOf]
        refine' D3.dg_mk KX G ?b ?a ?l ?c ?k
        (case a => k_is); (case l => k_is); (case c => k_is); (case k => k_is)
        (case b => exact fun _ _ _ _ _ _ us hl => match us, hl with | [_], _ => rfl)
      have d__law_divisor : D3.Dg (L2.KOf KX) mg "_law_divisor" (K11.top 14) ["_law_one", "_law_other"] := by
        dsimp only [L2.KOf]
        refine' D3.dg_mk KX G ?b ?a ?l ?c ?k
        (case a => k_is); (case l => k_is); (case c => k_is); (case k => k_is)
        (case b => exact fun _ _ _ _ _ _ us hl => match us, hl with | [_, _], _ => rfl)
      have d__law_number : D3.Dg (L2.KOf KX) mg "_law_number" (K11.top 15) ["_law_script", "_law_at"] := by
        dsimp only [L2.KOf]
        refine' D3.dg_mk KX G ?b ?a ?l ?c ?k
        (case a => k_is); (case l => k_is); (case c => k_is); (case k => k_is)
        (case b => exact fun _ _ _ _ _ _ us hl => match us, hl with | [_, _], _ => rfl)
      have d__law_right : D3.Dg (L2.KOf KX) mg "_law_right" (K11.top 16) ["_law_found", "_law_top", "_law_low"] := by
        dsimp only [L2.KOf]
        refine' D3.dg_mk KX G ?b ?a ?l ?c ?k
        (case a => k_is); (case l => k_is); (case c => k_is); (case k => k_is)
        (case b => exact fun _ _ _ _ _ _ us hl => match us, hl with | [_, _, _], _ => rfl)
      have d__law_refused : D3.Dg (L2.KOf KX) mg "_law_refused" (K11.top 17) ["_law_top", "_law_low"] := by
        dsimp only [L2.KOf]
        refine' D3.dg_mk KX G ?b ?a ?l ?c ?k
        (case a => k_is); (case l => k_is); (case c => k_is); (case k => k_is)
        (case b => exact fun _ _ _ _ _ _ us hl => match us, hl with | [_, _], _ => rfl)
      have d__law_alone : D3.Dg (L2.KOf KX) mg "_law_alone" (K11.top 18) ["_law_top"] := by
        dsimp only [L2.KOf]
        refine' D3.dg_mk KX G ?b ?a ?l ?c ?k
        (case a => k_is); (case l => k_is); (case c => k_is); (case k => k_is)
        (case b => exact fun _ _ _ _ _ _ us hl => match us, hl with | [_], _ => rfl)
      have d__law_told : D3.Dg (L2.KOf KX) mg "_law_told" (K11.top 19) ["_law_top", "_law_low"] := by
        dsimp only [L2.KOf]
        refine' D3.dg_mk KX G ?b ?a ?l ?c ?k
        (case a => k_is); (case l => k_is); (case c => k_is); (case k => k_is)
        (case b => exact fun _ _ _ _ _ _ us hl => match us, hl with | [_, _], _ => rfl)
      have d_law : D3.Dl (L2.KOf KX) mg "law" "_law_script" (K11.top 20) := by
        dsimp only [L2.KOf]
        refine' D3.dl_mk KX G ?b ?a ?l ?c ?k
        (case a => k_is); (case l => k_is); (case c => k_is); (case k => k_is)
        (case b => exact fun _ _ _ _ _ _ u => rfl)
      have e_ratio : D3.DgD (L2.KOf KX) mg "ratio" (K11.top 8) ["top", "bottom"] [L2.V.int 1] ["bottom"] := by
        dsimp only [L2.KOf]
        refine' D3.dgD_mk1 KX G ?b ?d ?pne ?a ?l ?c ?k ?t ?s ?v
        (case a => k_is); (case l => k_is); (case c => k_is); (case k => k_is); (case t => k_is); (case s => rfl); (case pne => exact List.cons_ne_nil _ _)
        (case b => exact fun _ _ _ _ _ _ us hl => match us, (show us.length = 1 by simp at hl; omega) with | [_], _ => ⟨_, rfl, rfl⟩)
        (case d => exact fun _ _ _ _ _ _ us ws h1 hl => match ws, us, h1, (show us.length = 1 by simp at hl h1; omega) with | [_], [_], _, _ => ⟨_, rfl, rfl⟩)
        (case v => exact .cons ⟨_, rfl⟩ .nil)
      have z_NoNumber : XC.ExcG (L2.KOf KX) mg (fun _ => "text") "NoNumber" "text" "InnError" := by
        dsimp only [L2.KOf]
        refine' ⟨_, _, XC.exc_mk KX G ?a ?kp ?lC ?lI ?lN ?oN ?lNI ?oNI ?i1 ?i2 ?s1 ?s2 ?n1 ?n2 ?hB ?lk ?hcd ?sc ?l1 ?l2 ?hb ?ne ?nd ?nc, rfl, ?m⟩
        (case a => k_is); (case kp => k_is); (case lC => k_is); (case lI => k_is); (case lN => k_is); (case lNI => k_is); (case oN => rfl); (case oNI => rfl)
        (case i1 => k_is); (case i2 => k_is); (case s1 => k_is); (case s2 => k_is); (case n1 => k_is); (case n2 => k_is)
        (case hB => rw [typeLookup_type, builtinLookup_eq_fast]; kernel_rfl)
        (case lk => k_is); (case hcd => k_is); (case sc => exact ⟨rfl, rfl, rfl, by decide +kernel, rfl, by decide +kernel, by decide +kernel⟩); (case l1 => rfl); (case l2 => rfl)
        (case hb => exact fun _ _ => rfl); (case ne => decide); (case nd => decide); (case nc => decide)
        (case m => refine' PySem.W.mg_of KX G ?z; (case z => k_is))
      have v_ValueError : mg "ValueError" = none := by
        refine' PySem.W.mg_none_of KX G ?z
        (case z => k_is)
      have b_len : mg "len" = none := by
        refine' PySem.W.mg_none_of KX G ?z
        (case z => k_is)
      have b_range : mg "range" = none := by
        refine' PySem.W.mg_none_of KX G ?z
        (case z => k_is)
      have b_abs : mg "abs" = none := by
        refine' PySem.W.mg_none_of KX G ?z
        (case z => k_is)
      have b_isinstance : mg "isinstance" = none := by
        refine' PySem.W.mg_none_of KX G ?z
        (case z => k_is)
      have b_int : mg "int" = none := by
        refine' PySem.W.mg_none_of KX G ?z
        (case z => k_is)
      have b_bool : mg "bool" = none := by
        refine' PySem.W.mg_none_of KX G ?z
        (case z => k_is)
      have b_tuple : mg "tuple" = none := by
        refine' PySem.W.mg_none_of KX G ?z
        (case z => k_is)
      have b_list : mg "list" = none := by
        refine' PySem.W.mg_none_of KX G ?z
        (case z => k_is)
      have b_str : mg "str" = none := by
        refine' PySem.W.mg_none_of KX G ?z
        (case z => k_is)
      have b_max : mg "max" = none := by
        refine' PySem.W.mg_none_of KX G ?z
        (case z => k_is)
      have b_min : mg "min" = none := by
        refine' PySem.W.mg_none_of KX G ?z
        (case z => k_is)
      have b_sorted : mg "sorted" = none := by
        refine' PySem.W.mg_none_of KX G ?z
        (case z => k_is)
      have b_sum : mg "sum" = none := by
        refine' PySem.W.mg_none_of KX G ?z
        (case z => k_is)
      have b_reversed : mg "reversed" = none := by
        refine' PySem.W.mg_none_of KX G ?z
        (case z => k_is)
      have b_enumerate : mg "enumerate" = none := by
        refine' PySem.W.mg_none_of KX G ?z
        (case z => k_is)
      have b_zip : mg "zip" = none := by
        refine' PySem.W.mg_none_of KX G ?z
        (case z => k_is)
      have b_set : mg "set" = none := by
        refine' PySem.W.mg_none_of KX G ?z
        (case z => k_is)
      have b_any : mg "any" = none := by
        refine' PySem.W.mg_none_of KX G ?z
        (case z => k_is)
      have b_all : mg "all" = none := by
        refine' PySem.W.mg_none_of KX G ?z
        (case z => k_is)
      have b_dict : mg "dict" = none := by
        refine' PySem.W.mg_none_of KX G ?z
        (case z => k_is)
      exact ⟨d_is_whole, d_greatest_divisor, d_lowest, d_ratio, d__law_cell, d__law_part, d__law_far, d__law_whole, d__law_divisor, d__law_number, d__law_right, d__law_refused, d__law_alone, d__law_told, d_law, e_ratio, z_NoNumber, v_ValueError, ⟨b_len, b_range, b_abs, b_isinstance, b_int, b_bool, b_tuple, b_list, b_str, b_max, b_min, b_sorted, b_sum, b_reversed, b_enumerate, b_zip, b_set, b_any, b_all, b_dict⟩⟩
    obtain ⟨f, fd, F, b, m⟩ := T.d_law.ex
    have e0 := hmg.symm.trans m
    cases e0
    exact ⟨fd, b, fun base kb nb => K11.law_fn T F⟩
  case S => exact fun K H a ns hl hO hS => ⟨a, ns, rfl, hS, hl, fun _ => rfl⟩
  case C => exact fun _ _ _ _ z => z
