import PyProof.Rows.All
import Wide.All
import OpenK.AllK
import Wide.FinOn
import Lean
import PyProof.EqAt
import PyProof.EqKinds
import PyProof.TupleCall
import PyProof.EqLayable
import PySem.Challenge.RW_nightbook_k25_ladders_and_chances_at_a_n
set_option Elab.async false
set_option linter.all false
set_option maxRecDepth 100000
set_option maxHeartbeats 4000000
set_option exponentiation.threshold 40000
namespace L2
open PySem PySem.Spec PyProof.Rows
abbrev Key := Sum Int Str
def keyIs : Key → Value → Bool
  | .inl k, v => Value.isInt k v
  | .inr x, v => Value.isStrOf x v
def keyH (w : World) : Key → Int
  | .inl k => hashInt k
  | .inr x => hashStr w x
theorem keyIs_shape : ∀ {k : Key} {v : Value}, keyIs k v = true → (∃ i t, k = Sum.inl i ∧ v = Value.int i t) ∨ (∃ x t, k = Sum.inr x ∧ v = Value.str x t)
  | .inl i, v, h => by
    obtain ⟨t, e⟩ := Value.isInt_shape (k := i) (v := v) h
    exact .inl ⟨i, t, rfl, e⟩
  | .inr x, v, h => by
    obtain ⟨t, e⟩ := Value.isStrOf_shape (x := x) (v := v) h
    exact .inr ⟨x, t, rfl, e⟩
theorem keyIs_int (i : Int) (t : Tok) : keyIs (.inl i) (.int i t) = true := by simp [keyIs, Value.isInt]
theorem key_ll (a b : Int) : decide ((Sum.inl a : Key) = Sum.inl b) = (a == b) := by
  by_cases e : a = b
  · subst e; simp
  · have h : ¬ (Sum.inl a : Key) = Sum.inl b := fun q => e (Sum.inl.inj q)
    rw [decide_eq_false h]
    exact (beq_eq_false_iff_ne.mpr e).symm
theorem key_rr (a b : Str) : decide ((Sum.inr a : Key) = Sum.inr b) = decide (a = b) := by
  by_cases e : a = b
  · subst e; simp
  · have h : ¬ (Sum.inr a : Key) = Sum.inr b := fun q => e (Sum.inr.inj q)
    rw [decide_eq_false h, decide_eq_false e]
theorem key_lr (a : Int) (b : Str) : decide ((Sum.inl a : Key) = Sum.inr b) = false := decide_eq_false (fun q => nomatch q)
theorem key_rl (a : Str) (b : Int) : decide ((Sum.inr a : Key) = Sum.inl b) = false := decide_eq_false (fun q => nomatch q)
def mixKind (prog : Program) (w : World) : PySem.KeyKind prog w Key where
  is := keyIs
  hash := keyH w
  inj := fun v a b ha hb => by
    rcases keyIs_shape ha with ⟨i, t, rfl, rfl⟩ | ⟨x, t, rfl, rfl⟩
    · rcases keyIs_shape hb with ⟨j, u, rfl, e⟩ | ⟨y, u, rfl, e⟩
      · injection e with e1 _; rw [e1]
      · exact nomatch e
    · rcases keyIs_shape hb with ⟨j, u, rfl, e⟩ | ⟨y, u, rfl, e⟩
      · exact nomatch e
      · injection e with e1 _; rw [e1]
  byValue := fun k v h => by
    rcases keyIs_shape h with ⟨i, t, rfl, rfl⟩ | ⟨x, t, rfl, rfl⟩ <;> rfl
  pyHash := fun hv h => by
    rcases keyIs_shape hv with ⟨i, t, rfl, rfl⟩ | ⟨x, t, rfl, rfl⟩
    · exact wpAny_pyHash_int h
    · exact wpAny_pyHash_str h
  eqBool := fun hu hv h => by
    rcases keyIs_shape hu with ⟨i, t, rfl, rfl⟩ | ⟨x, t, rfl, rfl⟩
    · rcases keyIs_shape hv with ⟨j, u, rfl, rfl⟩ | ⟨y, u, rfl, rfl⟩
      · rw [key_ll] at h; exact wpAny_eqBool_int h
      · rw [key_lr] at h; exact SeqAt.EqAt.int_str i t y u _ _ _ _ h
    · rcases keyIs_shape hv with ⟨j, u, rfl, rfl⟩ | ⟨y, u, rfl, rfl⟩
      · rw [key_rl] at h; exact SeqAt.EqAt.str_int x t j u _ _ _ _ h
      · rw [key_rr] at h; exact wpAny_eqBool_str h
  «strs» := fun k x t v h => by
    rcases keyIs_shape h with ⟨i, u, rfl, e⟩ | ⟨y, u, rfl, e⟩
    · exact nomatch e
    · injection e with e1 _
      subst e1
      cases v <;> rfl
theorem mixKind_int (prog : Program) (w : World) (i : Int) (t : Tok) : (mixKind prog w).is (.inl i) (.int i t) = true := keyIs_int i t
end L2
namespace L2
open PySem PySem.Spec PyProof.Rows
inductive V where
  | non | bl (b : Bool) | int (i : Int) | str (x : Str) | byt (b : Array UInt8) | flt (b : UInt64) | ref (a : Addr) | ty (n : String)
  deriving DecidableEq
def RelV : V → Value → Prop
  | .non, u => u = Value.none
  | .bl b, u => u = Value.bool b
  | .int i, u => ∃ t, u = Value.int i t
  | .str x, u => ∃ t, u = Value.str x t
  | .byt b, u => ∃ t, u = Value.bytes b t
  | .flt b, u => ∃ t, u = Value.float b t
  | .ref a, u => u = Value.ref a
  | .ty n, u => u = Value.type n
abbrev Vals : List V → List Value → Prop := Paired RelV
theorem Vals.length {xs : List V} {us : List Value} (r : Vals xs us) : xs.length = us.length := Paired.length r
theorem Vals.get : ∀ {xs : List V} {us : List Value} {i : Nat} {x : V}, Vals xs us → xs[i]? = some x → ∃ u, us[i]? = some u ∧ RelV x u
  | _, _, _, _, .nil, e => by simp at e
  | _, _, 0, _, .cons r _, e => by simp at e; subst e; exact ⟨_, rfl, r⟩
  | _, _, i + 1, x, .cons _ t, e => by
    obtain ⟨u, h1, h2⟩ := Vals.get (i := i) (x := x) t (by simpa using e)
    exact ⟨u, by simpa using h1, h2⟩
theorem Vals.set {x : V} {u : Value} (r : RelV x u) : ∀ {xs : List V} {us : List Value} (i : Nat), Vals xs us → Vals (xs.set i x) (us.set i u)
  | _, _, _, .nil => .nil
  | _, _, 0, .cons _ t => .cons r t
  | _, _, i + 1, .cons q t => .cons q (Vals.set r i t)
theorem Vals.append : ∀ {xs ys : List V} {us ws : List Value}, Vals xs us → Vals ys ws → Vals (xs ++ ys) (us ++ ws)
  | _, _, _, _, .nil, s => s
  | _, _, _, _, .cons r t, s => .cons r (Vals.append t s)
theorem Vals.take : ∀ {xs : List V} {us : List Value} (n : Nat), Vals xs us → Vals (xs.take n) (us.take n)
  | _, _, 0, _ => .nil
  | _, _, _ + 1, .nil => .nil
  | _, _, n + 1, .cons r t => .cons r (Vals.take n t)
theorem Vals.drop : ∀ {xs : List V} {us : List Value} (n : Nat), Vals xs us → Vals (xs.drop n) (us.drop n)
  | _, _, 0, r => r
  | _, _, _ + 1, .nil => .nil
  | _, _, n + 1, .cons _ t => Vals.drop n t
def RelO : Option V → Option Value → Prop
  | some v, some u => RelV v u
  | none, none => True
  | _, _ => False
def KV {κ : Type} : List (κ × V) → List (κ × Value) → Prop := Paired fun (p : κ × V) (q : κ × Value) => p.1 = q.1 ∧ RelV p.2 q.2
def kV : Key → V
  | .inl i => .int i
  | .inr x => .str x
inductive HO where
  /-- a list -/
  | lst (xs : List V)
  /-- a tuple (never changes) -/
  | tup (xs : List V)
  /-- a dict whose keys are ints and texts; one whose keys are tuples of ints and texts (the empty one is both) -/
  | dK (kvs : List (Key × V)) | dT (kvs : List (List Key × V))
  /-- a set of ints: its members, its size -/
  | set (S : Int → Bool) (n : Nat)
  /-- an instance of the class at C, its dict at dx, its attributes -/
  | ins (C dx : Addr) (fs : List (Str × V))
  /-- the dict of the instance at x -/
  | own (x : Addr)
  /-- the dict of an exception -/
  | xd (fs : List (Str × V))
  /-- a bound method, f of x -/
  | met (f x : Addr)
  /-- a range object lo, lo + 1, .. below hi -/
  | rng (lo hi : Int)
  /-- a thing that is known to the object (the script; a dict while a loop walks it): read, never written while it is so -/
  | frz (o : Obj) (u : HO)
  /-- a code object's table -/
  | tbl (ps : Array Value)
  /-- any other thing, by what is true of its one object (a def of one's own: SetO a S n := HO.ext fun h => ..) -/
  | ext (φ : Heap → Prop)
abbrev Hp := Addr → Option HO
def upd (H : Hp) (a : Addr) (o : HO) : Hp := fun b => if b = a then some o else H b
theorem upd_same {H : Hp} {a : Addr} {o : HO} : upd H a o a = some o := by unfold upd; rw [if_pos rfl]
theorem upd_ne {H : Hp} {a b : Addr} {o : HO} (h : b ≠ a) : upd H a o b = H b := by unfold upd; rw [if_neg h]
theorem ne_of {H : Hp} {a b : Addr} {o u : HO} (h : H a = some o) (h' : H b = some u) (d : o ≠ u) : a ≠ b := by
  intro e; subst e; rw [h] at h'; exact d (Option.some.inj h')
theorem ne_of_none {H : Hp} {a b : Addr} {o : HO} (h : H a = some o) (h' : H b = none) : a ≠ b := by
  intro e; subst e; rw [h] at h'; cases h'
section
variable (P : Program) (w : World)
def ObjOk (H : Hp) (h : Heap) (a : Addr) : HO → Prop
  | .lst xs => xs.length ≤ sizeLine ∧ ∃ (its : List Value) (n : Nat), Vals xs its ∧ h.get? a = some { cls := .type "list", data := .seq its.toArray n }
  | .tup xs => xs.length ≤ sizeLine ∧ ∃ its : List Value, Vals xs its ∧ IsTup h a its.toArray
  | .dK kvs => kvs.length ≤ sizeLine ∧ (a == sysModules) = false ∧ ∃ vs, KV kvs vs ∧ h.DictOf (mixKind P w) a vs
  | .dT kvs => kvs.length ≤ sizeLine ∧ (a == sysModules) = false ∧ ∃ xs : List (List Key × Addr × Value),
      Paired (fun (p : List Key × V) (q : List Key × Addr × Value) => p.1 = q.1 ∧ H q.2.1 = some (.tup (p.1.map kV)) ∧ RelV p.2 q.2.2) kvs xs ∧
      ∃ o es ep, h.get? a = some o ∧ o.ExactDict ∧ o.data = .dict es ep ∧ es.toList = xs.map (entryOfKey (tupleKind (mixKind P w))) ∧ (xs.map (·.1)).Nodup
  | .set S n => h.SetOf (intKind P w) a S n
  | .ins C dx fs => H dx = some (.own a) ∧ fs.length ≤ 1000 ∧ dx ≠ a ∧ h.get? a = some (PySem.W.instObj C dx) ∧
      ∃ mA, h.Ns1 dx mA ∧ (∀ f, RelO (fs.lookup f) (mA f)) ∧ PySem.Within mA (fs.map (·.1))
  | .own _ => ∃ o, h.get? a = some o
  | .xd fs => ∃ mA, h.Ns1 a mA ∧ ∀ f, RelO (fs.lookup f) (mA f)
  | .rng lo hi => ∃ t u v, h.get? a = some { cls := .type "range", data := .fields #[.int lo t, .int hi u, .int 1 v] }
  | .frz o u => h.get? a = some o ∧ ObjOk H h a u
  | .tbl ps => h.get? a = some { cls := .none, data := .fields ps }
  | .met f x => h.get? a = some (PySem.W.methodObj (.ref f) (.ref x))
  | .ext φ => φ h ∧ (∃ o, h.get? a = some o) ∧ ∀ h1 h2 : Heap, φ h1 → (∀ o, h1.get? a = some o → h2.get? a = some o) → φ h2
def HOk (H : Hp) (h : Heap) : Prop := ∀ a o, H a = some o → ObjOk P w H h a o
end
section
variable {P : Program} {w : World} {H H' : Hp} {h h' : Heap} {a : Addr} {o : HO}
theorem ObjOk.lt (x : ObjOk P w H h a o) : a < h.objs.size := by
  cases o with
  | lst xs => obtain ⟨_, _, _, _, e⟩ := x; exact Heap.lt_size e
  | tup xs => obtain ⟨_, _, _, p⟩ := x; exact p.lt
  | dK kvs => obtain ⟨_, _, _, _, o, _, _, e, _⟩ := x; exact Heap.lt_size e
  | dT kvs => obtain ⟨_, _, _, _, o, _, _, e, _⟩ := x; exact Heap.lt_size e
  | set S n => obtain ⟨o, _, _, _, e, _⟩ := x; exact Heap.lt_size e
  | ins C dx fs => obtain ⟨_, _, _, e, _⟩ := x; exact Heap.lt_size e
  | own y => obtain ⟨_, e⟩ := x; exact Heap.lt_size e
  | xd fs => obtain ⟨_, ⟨_, _, _, e, _⟩, _⟩ := x; exact Heap.lt_size e
  | rng lo hi => obtain ⟨_, _, _, e⟩ := x; exact Heap.lt_size e
  | frz ob u => obtain ⟨e, _⟩ := x; exact Heap.lt_size e
  | tbl ps => exact Heap.lt_size (show h.get? a = some _ from x)
  | met f y => exact Heap.lt_size (show h.get? a = some _ from x)
  | ext φ => obtain ⟨_, ⟨_, e⟩, _⟩ := x; exact Heap.lt_size e
theorem Paired.mapP {α β : Type} {F G : α → β → Prop} : ∀ {l₁ : List α} {l₂ : List β}, Paired F l₁ l₂ → (∀ a b, F a b → G a b) → Paired G l₁ l₂
  | _, _, .nil, _ => .nil
  | _, _, .cons r t, f => .cons (f _ _ r) (Paired.mapP t f)
theorem ObjOk.stay (x : ObjOk P w H h a o) (k : ∀ b u, (b = a ∨ H b = some (.own a)) → h.get? b = some u → h'.get? b = some u)
    (ho : ∀ b, H b = some (.own a) → H' b = some (.own a)) (ht : ∀ b xs, H b = some (.tup xs) → H' b = some (.tup xs)) : ObjOk P w H' h' a o := by
  induction o with
  | lst xs => obtain ⟨z, its, n, r, e⟩ := x; exact ⟨z, its, n, r, k _ _ (.inl rfl) e⟩
  | tup xs => obtain ⟨z, its, r, ob, e, c⟩ := x; exact ⟨z, its, r, ob, k _ _ (.inl rfl) e, c⟩
  | dK kvs => obtain ⟨z, y, vs, r, ob, es, ep, e, c⟩ := x; exact ⟨z, y, vs, r, ob, es, ep, k _ _ (.inl rfl) e, c⟩
  | dT kvs =>
    obtain ⟨z, y, xs, r, ob, es, ep, e, c⟩ := x
    exact ⟨z, y, xs, Paired.mapP r fun p q z => ⟨z.1, ht _ _ z.2.1, z.2.2⟩, ob, es, ep, k _ _ (.inl rfl) e, c⟩
  | set S n => obtain ⟨ob, es, ep, t, e, c⟩ := x; exact ⟨ob, es, ep, t, k _ _ (.inl rfl) e, c⟩
  | ins C dx fs =>
    obtain ⟨d, z, ne, e, mA, ⟨od, es, ep, e2, c⟩, r⟩ := x
    exact ⟨ho _ d, z, ne, k _ _ (.inl rfl) e, mA, ⟨od, es, ep, k _ _ (.inr d) e2, c⟩, r⟩
  | own y => obtain ⟨ob, e⟩ := x; exact ⟨ob, k _ _ (.inl rfl) e⟩
  | xd fs => obtain ⟨mA, ⟨od, es, ep, e, c⟩, r⟩ := x; exact ⟨mA, ⟨od, es, ep, k _ _ (.inl rfl) e, c⟩, r⟩
  | rng lo hi => obtain ⟨t, u, v, e⟩ := x; exact ⟨t, u, v, k _ _ (.inl rfl) e⟩
  | frz ob u ih => obtain ⟨e, q⟩ := x; exact ⟨k _ _ (.inl rfl) e, ih q⟩
  | tbl ps =>
    have e : h.get? a = some { cls := .none, data := .fields ps } := x
    show h'.get? a = some { cls := .none, data := .fields ps }
    exact k a _ (.inl rfl) e
  | met f y =>
    have e : h.get? a = some (PySem.W.methodObj (.ref f) (.ref y)) := x
    show h'.get? a = some (PySem.W.methodObj (.ref f) (.ref y))
    exact k a _ (.inl rfl) e
  | ext φ => obtain ⟨p, ⟨o, e⟩, st⟩ := x; exact ⟨st _ _ p fun o q => k _ _ (.inl rfl) q, ⟨o, k _ _ (.inl rfl) e⟩, st⟩
theorem HOk.lt (x : HOk P w H h) (e : H a = some o) : a < h.objs.size := (x a o e).lt
theorem HOk.fresh (x : HOk P w H h) (e : h.objs.size ≤ a) : H a = none := by
  cases q : H a with
  | none => rfl
  | some u => exact absurd (Nat.lt_of_lt_of_le (x.lt q) e) (Nat.lt_irrefl _)
theorem HOk.kept (x : HOk P w H h) (k : ∀ b u, h.get? b = some u → h'.get? b = some u) : HOk P w H h' := fun a o e =>
  (x a o e).stay (fun b u _ q => k b u q) (fun _ q => q) fun _ _ q => q
theorem HOk.laid (x : HOk P w H h) (k : ∀ b u, h.get? b = some u → h'.get? b = some u) (hp : h.objs.size ≤ a) (new : ObjOk P w (upd H a o) h' a o) : HOk P w (upd H a o) h' := fun b u e => by
  have hn := x.fresh hp
  by_cases hb : b = a
  · subst hb; rw [upd_same] at e; cases e; exact new
  · rw [upd_ne hb] at e
    exact (x b u e).stay (fun c v _ q => k c v q) (fun c q => by rw [upd_ne (ne_of_none q hn)]; exact q) fun c xs q => by rw [upd_ne (ne_of_none q hn)]; exact q
end
def Rd (H : Hp) (a : Addr) (u : HO) : Prop := H a = some u ∨ ∃ o, H a = some (.frz o u)
theorem Rd.of {H : Hp} {a : Addr} {u : HO} (h : H a = some u) : Rd H a u := .inl h
theorem Rd.ok {P : Program} {w : World} {H : Hp} {h : Heap} {a : Addr} {u : HO} (r : Rd H a u) (x : HOk P w H h) : ObjOk P w H h a u := by
  rcases r with r | ⟨o, r⟩
  · exact x a u r
  · obtain ⟨_, q⟩ := x a _ r
    exact q
def Mut : Option HO → Prop
  | some (.lst _) => True
  | some (.dK _) => True
  | some (.dT _) => True
  | some (.set _ _) => True
  | some (.ins _ _ _) => True
  | some (.ext _) => True
  | _ => False
section
variable {P : Program} {w : World} {H : Hp} {h h' : Heap} {x e : Addr} {o' : HO}
theorem HOk.write (ok : HOk P w H h) (mu : Mut (H x)) (he : e = x ∨ H e = some (.own x)) (k : ∀ b u, b ≠ e → h.get? b = some u → h'.get? b = some u) (heo : ∃ u, h'.get? e = some u)
    (new : ObjOk P w (upd H x o') h' x o') : HOk P w (upd H x o') h' := fun b u q => by
  have nown : ∀ c y, H c = some (.own y) → c ≠ x := fun c y r z => by subst z; rw [r] at mu; exact mu
  have ntup : ∀ c xs, H c = some (.tup xs) → c ≠ x := fun c xs r z => by subst z; rw [r] at mu; exact mu
  by_cases hb : b = x
  · subst hb; rw [upd_same] at q; cases q; exact new
  · rw [upd_ne hb] at q
    by_cases hbe : b = e
    · have q' : H b = some (.own x) := by
        rcases he with z | z
        · exact absurd (hbe.trans z) hb
        · rw [hbe]; exact z
      rw [q] at q'; cases q'
      obtain ⟨v, hv⟩ := heo
      exact ⟨v, by rw [hbe]; exact hv⟩
    · refine (ok b u q).stay (fun c v hc r => k c v ?_ r) (fun c r => by rw [upd_ne (nown c b r)]; exact r) fun c xs r => by rw [upd_ne (ntup c xs r)]; exact r
      rcases hc with rfl | hc
      · exact hbe
      · rintro rfl
        rcases he with z | z
        · exact nown c b hc z
        · rw [hc] at z; cases z; exact hb rfl
end
structure Un (fs ex : List Addr) (H H' : Hp) (h h' : Heap) : Prop where
  keep : ∀ b o, h.get? b = some o → H b = none → b ∉ fs → b ∉ ex → h'.get? b = some o
  slot : ∀ b o, h.get? b = some o → H b = none → b ∈ fs → b ∉ ex → ∃ sl, h'.get? b = some { o with slots := sl }
  free : ∀ b o, h.get? b = some o → H b = none → b ∉ ex → H' b = none
  there : ∀ b o, h.get? b = some o → b ∉ ex → ∃ o', h'.get? b = some o'
  tups : ∀ b xs, H b = some (.tup xs) → H' b = some (.tup xs)
  frzs : ∀ b o u, H b = some (.frz o u) → H' b = some (.frz o u)
  tbls : ∀ b ps, H b = some (.tbl ps) → ∃ more, H' b = some (.tbl (ps ++ more))
section
variable {fs fs' ex ex' : List Addr} {H H1 H2 : Hp} {h h1 h2 h' : Heap} {a x e : Addr} {o : HO}
theorem Un.any (u : Un fs ex H H1 h h1) {b : Addr} {ob : Obj} (q : h.get? b = some ob) (n : H b = none) (hx : b ∉ ex) : ∃ sl, h1.get? b = some { ob with slots := sl } := by
  by_cases hb : b ∈ fs
  · exact u.slot b ob q n hb hx
  · exact ⟨ob.slots, u.keep b ob q n hb hx⟩
theorem Un.trans (a : Un fs ex H H1 h h1) (b : Un fs ex H1 H2 h1 h2) : Un fs ex H H2 h h2 where
  keep := fun c ob q n hc hx => b.keep c ob (a.keep c ob q n hc hx) (a.free c ob q n hx) hc hx
  slot := fun c ob q n hc hx => by
    obtain ⟨sl, e1⟩ := a.slot c ob q n hc hx
    obtain ⟨sl', e2⟩ := b.slot c _ e1 (a.free c ob q n hx) hc hx
    exact ⟨sl', e2⟩
  free := fun c ob q n hx => by
    obtain ⟨o', e1⟩ := a.there c ob q hx
    exact b.free c o' e1 (a.free c ob q n hx) hx
  there := fun c ob q hx => by
    obtain ⟨o', e1⟩ := a.there c ob q hx
    exact b.there c o' e1 hx
  tups := fun c xs q => b.tups c xs (a.tups c xs q)
  frzs := fun c ob xs q => b.frzs c ob xs (a.frzs c ob xs q)
  tbls := fun c ps q => by
    obtain ⟨m1, e1⟩ := a.tbls c ps q
    obtain ⟨m2, e2⟩ := b.tbls c _ e1
    exact ⟨m1 ++ m2, by rw [e2, Array.append_assoc]⟩
theorem Un.kept (k : ∀ b u, h.get? b = some u → h'.get? b = some u) : Un fs ex H H h h' :=
  ⟨fun b ob q _ _ _ => k b ob q, fun b ob q _ _ _ => ⟨ob.slots, k b ob q⟩, fun _ _ _ n _ => n, fun b ob q _ => ⟨ob, k b ob q⟩, fun _ _ q => q, fun _ _ _ q => q, fun _ ps q => ⟨#[], by rw [q]; simp⟩⟩
theorem Un.refl : Un fs ex H H h h := Un.kept fun _ _ q => q
theorem Un.laid (k : ∀ b u, h.get? b = some u → h'.get? b = some u) (hp : h.objs.size ≤ a) (hn : H a = none) : Un fs ex H (upd H a o) h h' where
  keep := fun b u q _ _ _ => k b u q
  slot := fun b u q _ _ _ => ⟨u.slots, k b u q⟩
  free := fun b u q n _ => by rw [upd_ne (Nat.ne_of_lt (Nat.lt_of_lt_of_le (Heap.lt_size q) hp))]; exact n
  there := fun b u q _ => ⟨u, k b u q⟩
  tups := fun b xs q => by rw [upd_ne (ne_of_none q hn)]; exact q
  frzs := fun b u xs q => by rw [upd_ne (ne_of_none q hn)]; exact q
  tbls := fun b ps q => ⟨#[], by rw [upd_ne (ne_of_none q hn), q]; simp⟩
theorem Un.write (mu : Mut (H x)) (he : e = x ∨ H e = some (.own x)) (k : ∀ b u, b ≠ e → h.get? b = some u → h'.get? b = some u) (heo : ∃ u, h'.get? e = some u) : Un fs ex H (upd H x o) h h' := by
  have hx : ∀ b, H b = none → b ≠ x := fun b n z => by subst z; rw [n] at mu; exact mu
  have hb : ∀ b, H b = none → b ≠ e := fun b n z => by
    subst z
    rcases he with r | r
    · exact hx b n r
    · rw [n] at r; cases r
  have hm : ∀ b u, H b = some u → ¬ Mut (some u) → b ≠ x := fun b u q nm z => by subst z; rw [q] at mu; exact nm mu
  refine ⟨fun b u q n _ _ => k b u (hb b n) q, fun b u q n _ _ => ⟨u.slots, k b u (hb b n) q⟩, fun b u q n _ => by rw [upd_ne (hx b n)]; exact n, fun b u q _ => ?_,
    fun b xs q => by rw [upd_ne (hm b _ q fun z => z)]; exact q, fun b u xs q => by rw [upd_ne (hm b _ q fun z => z)]; exact q, fun b ps q => ⟨#[], by rw [upd_ne (hm b _ q fun z => z), q]; simp⟩⟩
  by_cases hbe : b = e
  · subst hbe; exact heo
  · exact ⟨u, k b u hbe q⟩
theorem Un.mono (u : Un fs ex H H1 h h1) (hs : ∀ b ∈ fs, b ∈ fs') (hx : ∀ b ∈ ex, b ∈ ex') : Un fs' ex' H H1 h h1 :=
  ⟨fun b ob q n hb he => u.keep b ob q n (fun z => hb (hs b z)) fun z => he (hx b z), fun _ _ q n _ he => u.any q n fun z => he (hx _ z), fun b ob q n he => u.free b ob q n fun z => he (hx b z), fun b ob q he => u.there b ob q fun z => he (hx b z), u.tups, u.frzs, u.tbls⟩
end
def trk (h : Heap) (H : Hp) : List Addr := (List.range h.objs.size).filter fun a => (H a).isSome
def hidT (h : Heap) (H : Hp) : Heap := PySem.W.hideAll h (trk h H)
theorem hidT_size (h : Heap) (H : Hp) : (hidT h H).objs.size = h.objs.size := PySem.W.hideAll_size _ _
theorem hidT_get {h : Heap} {H : Hp} {b : Addr} {o : Obj} (e : h.get? b = some o) (n : H b = none) : (hidT h H).get? b = some o :=
  PySem.W.hideAll_get _ e fun hm => by
    have q : (H b).isSome = true := (List.mem_filter.mp hm).2
    rw [n] at q; simp at q
theorem of_hidT {h : Heap} {H : Hp} {b : Addr} {o : Obj} (e : (hidT h H).get? b = some o) : h.get? b = some o ∧ H b = none := by
  have e' : h.get? b = some o := PySem.W.of_hideAll (trk h H) e
  refine ⟨e', ?_⟩
  cases q : H b with
  | none => rfl
  | some x =>
    have hm : b ∈ trk h H := List.mem_filter.mpr ⟨List.mem_range.mpr (Heap.lt_size e'), by simp [q]⟩
    have z : (hidT h H).get? b = none := PySem.W.hideAll_none (trk h H) hm
    rw [z] at e; cases e
def allNews (g h : Heap) (L : Addr) : List (Addr × Obj) := (List.range h.objs.size).filterMap fun a => if a = L ∨ (g.get? a).isSome = true then none else (h.get? a).map fun o => (a, o)
def rest (g h : Heap) (L d : Addr) : List (Addr × Obj) := (allNews g h L).filter fun p => decide (p.1 ≠ d)
end L2
namespace L2
open PySem PySem.Spec PyProof.Rows
structure Mod (K : PySem.W.Frag) (mg : Str → Option Value) (base : Heap) : Prop where
  kin : K.In base
  glob : base.Ns mainGlobals mg
  blt : ∃ mb, base.Ns builtinsNs mb ∧ ∀ x : Str, x ≠ "__name__" → mb x = bootBuiltins x
  nolimit : base.NoLimit
structure Cx where
  prog : Program
  w : World
  K : PySem.W.Frag
  mg : Str → Option Value
  base : Heap
  A : Around
  N : List Str
  s₀ : Shared
  H₀ : Hp
  env : Env
  outer : List Env
  stack : List Env
  ex : List Addr
  fn : Str → Bool
  calm : Bool
  pn : List (Addr × Obj)
  xe : Value → Shared → Prop
def frs (l : List Env) : List Addr := l.filterMap (·.frame)
abbrev Cx.fs (X : Cx) : List Addr := frs X.outer
def Vis (sc : Scope) (x : Str) : Prop := sc.names.lookup x = some .local ∨ sc.names.lookup x = some .cell ∨ sc.names.lookup x = some .free
def Loc (sc : Scope) (x : Str) : Prop := sc.names.lookup x = some .local ∨ sc.names.lookup x = some .cell
def Look (env : Env) (h : Heap) (m : Str → Option Value) (x : Str) (u : Value) : Prop :=
  (env.kindOf x = some .local ∧ m x = some u) ∨ ((env.kindOf x = some .cell ∨ env.kindOf x = some .free) ∧ ∃ c, env.cells.lookup x = some c ∧ h.IsCell c (some u))
structure Cx.Ok (X : Cx) : Prop where
  mod : Mod X.K X.mg X.base
  kind : X.env.scope.kind = .function
  glob : X.env.globals = mainGlobals
  blt : X.env.builtins = builtinsNs
  above : X.s₀.heap.objs.size ≤ X.env.locals
  inj : ∀ x y c, X.env.cells.lookup x = some c → X.env.cells.lookup y = some c → x = y
  has : ∀ x, (X.env.kindOf x = some .cell ∨ X.env.kindOf x = some .free) → ∃ c, X.env.cells.lookup x = some c
  cab : ∀ x c, X.fn x = true → X.env.cells.lookup x = some c → X.s₀.heap.objs.size ≤ c
  hd : X.calm = true → X.A.handled = none
  frames : X.A.frames = some X.stack
  stk : X.stack = X.outer ∨ (X.stack = X.env :: X.outer ∧ X.env.frame = some X.env.locals)
  exf : ∀ b ∈ X.ex, b ≠ X.env.locals ∧ ∀ x c, X.env.cells.lookup x = some c → c ≠ b
  bs : ∀ b o, X.base.get? b = some o → X.s₀.heap.get? b = some o ∧ X.H₀ b = none
  bsz : X.base.objs.size ≤ X.s₀.heap.objs.size
  noex : ∀ b o, X.base.get? b = some o → b ∉ X.ex
  exfs : ∀ b ∈ X.ex, b ∉ X.fs
  funs : X.s₀.heap.FunFrames X.base X.outer
  frf : ∀ b ∈ X.fs, X.H₀ b = none
structure Inv (X : Cx) (pins : List (Addr × Obj)) (σ : List (Option V)) (H : Hp) (s : Shared) : Prop where
  ok : X.Ok
  os : s.os = X.s₀.os
  bare : AllBare s.gens
  base : Un X.fs X.ex X.H₀ H X.s₀.heap s.heap
  loc : ∃ m, s.heap.Ns X.env.locals m ∧ ∀ (i : Nat) (x : Str) (v : V), X.N[i]? = some x → σ[i]? = some (some v) → Vis X.env.scope x → ∃ u, RelV v u ∧ Look X.env s.heap m x u
  cell : ∀ x c, X.env.cells.lookup x = some c → ∃ v, s.heap.IsCell c v
  free : H X.env.locals = none
  freeC : ∀ x c, X.env.cells.lookup x = some c → H c = none
  pin : ∀ p ∈ X.pn ++ pins, s.heap.get? p.1 = some p.2 ∧ H p.1 = none ∧ p.1 ≠ X.env.locals ∧ p.1 ∉ X.fs ∧ ∀ v, p.2.data ≠ .cell v
  hok : HOk X.prog X.w H s.heap
  len : σ.length = X.N.length
section
variable {X : Cx} {pins : List (Addr × Obj)} {σ : List (Option V)} {H H' : Hp} {s : Shared} {h' : Heap}
theorem Cx.Ok.nofr (ok : X.Ok) {b : Addr} {o : Obj} (e : X.base.get? b = some o) : b ∉ X.fs := fun hb => by
  have := (ok.funs.mem hb).1
  rw [e] at this; cases this
theorem Inv.bs (I : Inv X pins σ H s) : ∀ b o, X.base.get? b = some o → s.heap.get? b = some o ∧ H b = none := fun b o e =>
  ⟨I.base.keep b o (I.ok.bs b o e).1 (I.ok.bs b o e).2 (I.ok.nofr e) (I.ok.noex b o e), I.base.free b o (I.ok.bs b o e).1 (I.ok.bs b o e).2 (I.ok.noex b o e)⟩
theorem Inv.bk (I : Inv X pins σ H s) : ∀ b o, X.base.get? b = some o → s.heap.get? b = some o := fun b o e => (I.bs b o e).1
theorem Inv.mod (I : Inv X pins σ H s) : Mod X.K X.mg X.base := I.ok.mod
theorem Inv.kIn (I : Inv X pins σ H s) : X.K.In s.heap := I.ok.mod.kin.keeps I.bk
theorem Inv.nolimit (I : Inv X pins σ H s) : s.heap.NoLimit := I.ok.mod.nolimit.keeps I.bk
theorem Inv.fr (I : Inv X pins σ H s) : ∃ m, Fr X.base X.env.locals s.heap m :=
  let ⟨m, hn, _⟩ := I.loc
  ⟨m, hn, I.bk, Nat.le_trans I.ok.bsz I.ok.above⟩
theorem Inv.lt (I : Inv X pins σ H s) : X.env.locals < s.heap.objs.size := let ⟨_, hn, _⟩ := I.loc; hn.lt
theorem Inv.sz (I : Inv X pins σ H s) : X.s₀.heap.objs.size ≤ s.heap.objs.size := Nat.le_trans I.ok.above (Nat.le_of_lt I.lt)
theorem Inv.nofs (I : Inv X pins σ H s) {a : Addr} (h : s.heap.objs.size ≤ a) : a ∉ X.fs := fun hb => by
  obtain ⟨_, o, ho, _⟩ := I.ok.funs.mem hb
  exact absurd (Nat.lt_of_lt_of_le (Heap.lt_size ho) (Nat.le_trans I.sz h)) (Nat.lt_irrefl _)
theorem Inv.cne (I : Inv X pins σ H s) : ∀ x c, X.env.cells.lookup x = some c → c ≠ X.env.locals := fun x c e z => by
  obtain ⟨v, o, ho, hd⟩ := I.cell x c e
  obtain ⟨m, ⟨o', es, ep, ho', hd', _⟩, _⟩ := I.loc
  rw [z, ho'] at ho; cases ho; rw [hd'] at hd; cases hd
theorem Inv.funs (I : Inv X pins σ H s) : s.heap.FunFrames X.base X.outer := by
  have all : ∀ (l : List Env), (∀ b ∈ frs l, b ∈ X.fs) → X.s₀.heap.FunFrames X.base l → s.heap.FunFrames X.base l := by
    intro l
    induction l with
    | nil => intro _ _; trivial
    | cons env r ih =>
      intro hs hl
      obtain ⟨hk, ⟨L, o, hf, hn, ho, hd⟩, hr⟩ := hl
      have hL : L ∈ X.fs := hs L (by unfold frs; rw [List.filterMap_cons, hf]; exact List.mem_cons_self)
      obtain ⟨sl, e⟩ := I.base.slot L o ho (I.ok.frf L hL) hL fun z => I.ok.exfs L z hL
      exact ⟨hk, ⟨L, _, hf, hn, e, hd⟩, ih (fun b hb => hs b (by unfold frs; rw [List.filterMap_cons, hf]; exact List.mem_cons_of_mem _ hb)) hr⟩
  exact all X.outer (fun _ hb => hb) I.ok.funs
theorem Inv.stack (I : Inv X pins σ H s) : s.heap.FunFrames X.base X.stack := by
  rcases I.ok.stk with e | ⟨e, hf⟩
  · rw [e]; exact I.funs
  · rw [e]
    obtain ⟨m, hn, _⟩ := I.loc
    refine .cons (by rw [I.ok.kind]; decide) hf hn ?_ I.funs
    exact Heap.get?_none_of_le (Nat.le_trans I.ok.bsz I.ok.above)
theorem Inv.stkSub (I : Inv X pins σ H s) : ∀ b ∈ frs X.stack, b ∈ X.env.locals :: X.fs := fun b hb => by
  rcases I.ok.stk with e | ⟨e, hf⟩
  · rw [e] at hb; exact List.mem_cons_of_mem _ hb
  · rw [e] at hb
    unfold frs at hb
    rw [List.filterMap_cons, hf] at hb
    exact hb
theorem Inv.stkFree (I : Inv X pins σ H s) : ∀ b ∈ frs X.stack, H b = none := fun b hb => by
  rcases List.mem_cons.mp (I.stkSub b hb) with e | hb
  · rw [e]; exact I.free
  · obtain ⟨_, o, ho, _⟩ := I.ok.funs.mem hb
    exact I.base.free b o ho (I.ok.frf b hb) fun z => I.ok.exfs b z hb
theorem Inv.step {g' : Array GenState} {t' : Nat} {d' : Drawn} {ch : List Addr} (I : Inv X pins σ H s)
    (hch : ∀ b ∈ ch, (b ∈ X.ex ∨ X.s₀.heap.objs.size ≤ b) ∧ b ≠ X.env.locals ∧ (∀ x c, X.env.cells.lookup x = some c → c ≠ b) ∧ ∀ p ∈ X.pn ++ pins, p.1 ≠ b)
    (keep : ∀ b o, b ≠ X.env.locals → b ∉ X.fs → b ∉ ch → s.heap.get? b = some o → H b = none → h'.get? b = some o)
    (slot : ∀ b o, b ≠ X.env.locals → b ∈ X.fs → b ∉ ch → s.heap.get? b = some o → H b = none → ∃ sl, h'.get? b = some { o with slots := sl }) (free : ∀ b o, b ∉ ch → s.heap.get? b = some o → H b = none → H' b = none)
    (there : ∀ b o, b ∉ ch → s.heap.get? b = some o → ∃ o', h'.get? b = some o')
    (tups : ∀ b xs, H b = some (.tup xs) → H' b = some (.tup xs)) (frzs : ∀ b o u, H b = some (.frz o u) → H' b = some (.frz o u)) (tbls : ∀ b ps, H b = some (.tbl ps) → ∃ more, H' b = some (.tbl (ps ++ more)))
    (ns : ∀ m, s.heap.Ns X.env.locals m → h'.Ns X.env.locals m) (hok : HOk X.prog X.w H' h') (hg : AllBare g') :
    Inv X pins σ H' { s with heap := h', gens := g', drawn := d', toks := t' } := by
  have neL : ∀ b o, X.s₀.heap.get? b = some o → b ≠ X.env.locals := fun b o e => Nat.ne_of_lt (Nat.lt_of_lt_of_le (Heap.lt_size e) I.ok.above)
  have neC : ∀ b o, X.s₀.heap.get? b = some o → b ∉ X.ex → b ∉ ch := fun b o e hx hb => by
    rcases (hch b hb).1 with z | z
    · exact hx z
    · exact absurd (Nat.lt_of_lt_of_le (Heap.lt_size e) z) (Nat.lt_irrefl _)
  have cellK : ∀ x c, X.env.cells.lookup x = some c → ∀ v, s.heap.IsCell c v → h'.IsCell c v := fun x c e v ⟨o, ho, hd⟩ => by
    have nch : c ∉ ch := fun z => (hch c z).2.2.1 x c e rfl
    by_cases hc : c ∈ X.fs
    · obtain ⟨sl, q⟩ := slot c o (I.cne x c e) hc nch ho (I.freeC x c e)
      exact ⟨_, q, hd⟩
    · exact ⟨o, keep c o (I.cne x c e) hc nch ho (I.freeC x c e), hd⟩
  refine ⟨I.ok, I.os, hg, ⟨fun b o e n hb hx => ?_, fun b o e n hb hx => ?_, fun b o e n hx => ?_, fun b o e hx => ?_, fun b xs e => tups b xs (I.base.tups b xs e), fun b o xs e => frzs b o xs (I.base.frzs b o xs e), fun b ps e => ?_⟩, ?_, fun x c e => ?_, ?_, fun x c e => ?_, fun p hp => ?_, hok, I.len⟩
  · exact keep b o (neL b o e) hb (neC b o e hx) (I.base.keep b o e n hb hx) (I.base.free b o e n hx)
  · obtain ⟨sl, e1⟩ := I.base.slot b o e n hb hx
    obtain ⟨sl', e2⟩ := slot b _ (neL b o e) hb (neC b o e hx) e1 (I.base.free b o e n hx)
    exact ⟨sl', e2⟩
  · obtain ⟨o', e1⟩ := I.base.there b o e hx
    exact free b o' (neC b o e hx) e1 (I.base.free b o e n hx)
  · obtain ⟨o', e1⟩ := I.base.there b o e hx
    exact there b o' (neC b o e hx) e1
  · obtain ⟨m1, e1⟩ := I.base.tbls b ps e
    obtain ⟨m2, e2⟩ := tbls b _ e1
    exact ⟨m1 ++ m2, by rw [e2, Array.append_assoc]⟩
  · obtain ⟨m, hn, hl⟩ := I.loc
    refine ⟨m, ns m hn, fun i x v e1 e2 e3 => ?_⟩
    obtain ⟨u, r, l⟩ := hl i x v e1 e2 e3
    refine ⟨u, r, ?_⟩
    rcases l with l | ⟨k, c, e, z⟩
    · exact .inl l
    · exact .inr ⟨k, c, e, cellK x c e _ z⟩
  · obtain ⟨v, z⟩ := I.cell x c e
    exact ⟨v, cellK x c e v z⟩
  · obtain ⟨m, ⟨o, _, _, ho, _⟩, _⟩ := I.loc
    exact free _ o (fun z => (hch _ z).2.1 rfl) ho I.free
  · obtain ⟨v, o, ho, hd⟩ := I.cell x c e
    exact free c o (fun z => (hch c z).2.2.1 x c e rfl) ho (I.freeC x c e)
  · obtain ⟨e, n, ne, nf, d⟩ := I.pin p hp
    have nch : p.1 ∉ ch := fun z => (hch p.1 z).2.2.2 p hp rfl
    exact ⟨keep p.1 p.2 ne nf nch e n, free p.1 p.2 nch e n, ne, nf, d⟩
theorem Inv.un {t' : Nat} (I : Inv X pins σ H s) (u : Un X.fs [] H H' s.heap h') (hok : HOk X.prog X.w H' h') : Inv X pins σ H' { s with heap := h', toks := t' } := by
  obtain ⟨m, ⟨o, es, ep, ho, r⟩, _⟩ := id I.loc
  obtain ⟨sl, hL⟩ := u.any ho I.free (by simp)
  exact I.step (g' := s.gens) (d' := s.drawn) (ch := []) (fun _ z => nomatch z) (fun b o _ hb _ e n => u.keep b o e n hb (by simp)) (fun b o _ hb _ e n => u.slot b o e n hb (by simp)) (fun b o _ e n => u.free b o e n (by simp)) (fun b o _ e => u.there b o e (by simp)) u.tups u.frzs u.tbls (fun m' hm => by
    obtain ⟨o', es', ep', ho', r'⟩ := hm
    rw [ho] at ho'; cases ho'
    exact ⟨_, es', ep', hL, r'⟩) hok I.bare
theorem Inv.call {g' : Array GenState} {t' : Nat} {d' : Drawn} {ch : List Addr} (I : Inv X pins σ H s) (u : Un (frs X.stack) ch H H' s.heap h') (hok : HOk X.prog X.w H' h') (hg : AllBare g')
    (hch : ∀ b ∈ ch, (b ∈ X.ex ∨ X.s₀.heap.objs.size ≤ b) ∧ b ≠ X.env.locals ∧ (∀ x c, X.env.cells.lookup x = some c → c ≠ b) ∧ ∀ p ∈ X.pn ++ pins, p.1 ≠ b) :
    Inv X pins σ H' { s with heap := h', gens := g', drawn := d', toks := t' } := by
  obtain ⟨m, ⟨o, es, ep, ho, r⟩, _⟩ := id I.loc
  obtain ⟨sl, hL⟩ := u.any ho I.free fun z => (hch _ z).2.1 rfl
  exact I.step (ch := ch) hch (fun b o hL hb hc e n => u.keep b o e n (fun z => (List.mem_cons.mp (I.stkSub b z)).elim hL hb) hc) (fun b o _ _ hc e n => u.any e n hc) (fun b o hc e n => u.free b o e n hc) (fun b o hc e => u.there b o e hc) u.tups u.frzs u.tbls (fun m' hm => by
    obtain ⟨o', es', ep', ho', r'⟩ := hm
    rw [ho] at ho'; cases ho'
    exact ⟨_, es', ep', hL, r'⟩) hok hg
theorem Inv.turned {t' : Nat} {it : Addr} (I : Inv X pins σ H s) (k : ∀ b o, b ≠ it → s.heap.get? b = some o → h'.get? b = some o) (hn : H it = none) (hL : it ≠ X.env.locals)
    (h1 : it ∈ X.ex ∨ X.s₀.heap.objs.size ≤ it) (h2 : ∀ x c, X.env.cells.lookup x = some c → c ≠ it) (h3 : ∀ p ∈ X.pn ++ pins, p.1 ≠ it) : Inv X pins σ H { s with heap := h', toks := t' } := by
  have nit : ∀ b u, H b = some u → b ≠ it := fun b u e z => by rw [z, hn] at e; cases e
  refine I.step (g' := s.gens) (d' := s.drawn) (ch := [it]) (fun b hb => ?_) (fun b o _ _ hc e _ => k b o (fun z => hc (by simp [z])) e) (fun b o _ _ hc e _ => ⟨o.slots, k b o (fun z => hc (by simp [z])) e⟩) (fun _ _ _ _ n => n)
    (fun b o hc e => ⟨o, k b o (fun z => hc (by simp [z])) e⟩) (fun _ _ e => e) (fun _ _ _ e => e) (fun b ps e => ⟨#[], by rw [e]; simp⟩) (fun m hm => ?_) (fun b u e => ?_) I.bare
  · have e : b = it := by simpa using hb
    subst e
    exact ⟨h1, hL, h2, h3⟩
  · obtain ⟨o, es, ep, ho, r⟩ := hm
    exact ⟨o, es, ep, k _ o (Ne.symm hL) ho, r⟩
  · refine (I.hok b u e).stay (fun c v hc q => k c v ?_ q) (fun _ q => q) fun _ _ q => q
    rcases hc with z | z
    · rw [z]; exact nit b u e
    · exact nit c _ z
theorem Inv.tok (I : Inv X pins σ H s) (t : Nat) : Inv X pins σ H { s with toks := t } := I.un (h' := s.heap) (t' := t) Un.refl I.hok
theorem Inv.kept {t' : Nat} (I : Inv X pins σ H s) (k : ∀ b u, s.heap.get? b = some u → h'.get? b = some u) : Inv X pins σ H { s with heap := h', toks := t' } := I.un (Un.kept k) (I.hok.kept k)
theorem Inv.laid {a : Addr} {o : HO} {t' : Nat} (I : Inv X pins σ H s) (k : ∀ b u, s.heap.get? b = some u → h'.get? b = some u) (hp : s.heap.objs.size ≤ a) (new : ObjOk X.prog X.w (upd H a o) h' a o) :
    Inv X pins σ (upd H a o) { s with heap := h', toks := t' } := I.un (Un.laid k hp (I.hok.fresh hp)) (I.hok.laid k hp new)
theorem Inv.write {x e : Addr} {o : HO} {t' : Nat} (I : Inv X pins σ H s) (mu : Mut (H x)) (he : e = x ∨ H e = some (.own x)) (k : ∀ b u, b ≠ e → s.heap.get? b = some u → h'.get? b = some u) (heo : ∃ u, h'.get? e = some u)
    (new : ObjOk X.prog X.w (upd H x o) h' x o) : Inv X pins σ (upd H x o) { s with heap := h', toks := t' } := I.un (Un.write mu he k heo) (I.hok.write mu he k heo new)
theorem Inv.pins_of {pins' : List (Addr × Obj)} (I : Inv X pins σ H s) (h : ∀ p ∈ pins', s.heap.get? p.1 = some p.2 ∧ H p.1 = none ∧ p.1 ≠ X.env.locals ∧ p.1 ∉ X.fs ∧ ∀ v, p.2.data ≠ .cell v) : Inv X pins' σ H s :=
  ⟨I.ok, I.os, I.bare, I.base, I.loc, I.cell, I.free, I.freeC, fun p hp => (List.mem_append.mp hp).elim (fun z => I.pin p (List.mem_append_left _ z)) (h p), I.hok, I.len⟩
theorem nodup_ix {N : List Str} (hN : N.Nodup) {i j : Nat} {x : Str} (a : N[i]? = some x) (b : N[j]? = some x) : i = j := by
  obtain ⟨h1, e1⟩ := List.getElem?_eq_some_iff.mp a
  obtain ⟨h2, e2⟩ := List.getElem?_eq_some_iff.mp b
  exact (List.getElem_inj hN).mp (e1.trans e2.symm)
theorem store_ok2 {M : Model} {A : Around} {E : Value → Shared → Prop} {i : Nat} {x : Str} {v : V} {u : Value} {Q : Unit → Shared → Prop} (I : Inv X pins σ H s) (hN : X.N.Nodup) (hi : X.N[i]? = some x) (hx : Loc X.env.scope x) (r : RelV v u)
    (h : ∀ s', Inv X pins (σ.set i (some v)) H s' → (∃ a, Heap.SameBut a s.heap s'.heap ∧ (a = X.env.locals ∨ X.env.cells.lookup x = some a)) → Q () s') (hf : X.fn x = true ∨ X.env.scope.names.lookup x = some .local := by first | exact .inl rfl | exact .inr rfl | assumption) : wpAny M A (storeName X.env x u) Q E s := by
  obtain ⟨m, hn, hl⟩ := id I.loc
  have hcls : (X.env.scope.kind == .class || (X.env.scope.kind == .module && X.env.locals != X.env.globals)) = false := by rw [I.ok.kind]; rfl
  have hiσ : i < σ.length := by rw [I.len]; exact (List.getElem?_eq_some_iff.mp hi).1
  have cne := I.cne
  have tracked : ∀ {a : Addr} {h' : Heap}, (∃ o, s.heap.get? a = some o ∧ H a = none) → Heap.SameBut a s.heap h' → HOk X.prog X.w H h' := fun {a h'} ha hs b ob e => by
    obtain ⟨_, _, hfree⟩ := ha
    refine (I.hok b ob e).stay (fun c w' hc q => (hs.2 c ?_).trans q) (fun _ q => q) fun _ _ q => q
    rintro rfl
    rcases hc with rfl | hc
    · rw [hfree] at e; cases e
    · rw [hfree] at hc; cases hc
  rcases hx with hk | hk
  · refine wpAny_storeName_local hk hn (fun h' hn' hs => ?_) hcls
    obtain ⟨oL, _, _, hoL, _⟩ := id hn
    refine h _ ⟨I.ok, I.os, I.bare, ⟨fun b o e n hb hx => ?_, fun b o e n hb hx => ?_, I.base.free, fun b o e hx => ?_, I.base.tups, I.base.frzs, I.base.tbls⟩, ⟨_, hn', fun j y v' e1 e2 e3 => ?_⟩, fun y c e => ?_, I.free, I.freeC, fun p hp => ?_, tracked ⟨oL, hoL, I.free⟩ hs, by simpa using I.len⟩ ⟨_, hs, .inl rfl⟩
    · exact (hs.2 b (Nat.ne_of_lt (Nat.lt_of_lt_of_le (Heap.lt_size e) I.ok.above))).trans (I.base.keep b o e n hb hx)
    · obtain ⟨sl, e1⟩ := I.base.slot b o e n hb hx
      exact ⟨sl, (hs.2 b (Nat.ne_of_lt (Nat.lt_of_lt_of_le (Heap.lt_size e) I.ok.above))).trans e1⟩
    · obtain ⟨o', e1⟩ := I.base.there b o e hx
      exact ⟨o', (hs.2 b (Nat.ne_of_lt (Nat.lt_of_lt_of_le (Heap.lt_size e) I.ok.above))).trans e1⟩
    · by_cases hj : j = i
      · subst hj
        rw [hi] at e1; cases e1
        rw [List.getElem?_set_self hiσ] at e2
        cases e2
        exact ⟨u, r, .inl ⟨hk, by simp⟩⟩
      · rw [List.getElem?_set_ne (Ne.symm hj)] at e2
        obtain ⟨u', r', q⟩ := hl j y v' e1 e2 e3
        refine ⟨u', r', ?_⟩
        rcases q with ⟨k, e⟩ | ⟨k, c, e, z⟩
        · refine .inl ⟨k, ?_⟩
          have : y ≠ x := fun e => hj (nodup_ix hN e1 (e ▸ hi))
          simp [this, e]
        · exact .inr ⟨k, c, e, z.sameBut hs (cne y c e)⟩
    · obtain ⟨w', z⟩ := I.cell y c e
      exact ⟨w', z.sameBut hs (cne y c e)⟩
    · obtain ⟨e, n, ne, nf, d⟩ := I.pin p hp
      exact ⟨(hs.2 p.1 ne).trans e, n, ne, nf, d⟩
  · have hfn : X.fn x = true := by
      rcases hf with z | z
      · exact z
      · rw [z] at hk; cases hk
    obtain ⟨c, hc⟩ := I.ok.has x (.inl hk)
    obtain ⟨w', z⟩ := I.cell x c hc
    refine wpAny_storeName_cell I.ok.kind hk hc z (fun h' hc' hs => ?_)
    obtain ⟨oc, hoc, hocd⟩ := id z
    refine h { s with heap := h' } ⟨I.ok, I.os, I.bare, ⟨fun b o e n hb hx => ?_, fun b o e n hb hx => ?_, I.base.free, fun b o e hx => ?_, I.base.tups, I.base.frzs, I.base.tbls⟩, ⟨m, hn.sameBut hs (Ne.symm (cne x c hc)), fun j y v' e1 e2 e3 => ?_⟩, fun y c' e => ?_, I.free, I.freeC, fun p hp => ?_, tracked ⟨oc, hoc, I.freeC x c hc⟩ hs, by simpa using I.len⟩ ⟨c, hs, .inr hc⟩
    · exact (hs.2 b (Nat.ne_of_lt (Nat.lt_of_lt_of_le (Heap.lt_size e) (I.ok.cab x c hfn hc)))).trans (I.base.keep b o e n hb hx)
    · obtain ⟨sl, e1⟩ := I.base.slot b o e n hb hx
      exact ⟨sl, (hs.2 b (Nat.ne_of_lt (Nat.lt_of_lt_of_le (Heap.lt_size e) (I.ok.cab x c hfn hc)))).trans e1⟩
    · obtain ⟨o', e1⟩ := I.base.there b o e hx
      exact ⟨o', (hs.2 b (Nat.ne_of_lt (Nat.lt_of_lt_of_le (Heap.lt_size e) (I.ok.cab x c hfn hc)))).trans e1⟩
    · by_cases hj : j = i
      · subst hj
        rw [hi] at e1; cases e1
        rw [List.getElem?_set_self hiσ] at e2
        cases e2
        exact ⟨u, r, .inr ⟨.inl hk, c, hc, hc'⟩⟩
      · rw [List.getElem?_set_ne (Ne.symm hj)] at e2
        obtain ⟨u', r', q⟩ := hl j y v' e1 e2 e3
        refine ⟨u', r', ?_⟩
        rcases q with q | ⟨k, c', e, z'⟩
        · exact .inl q
        · refine .inr ⟨k, c', e, z'.sameBut hs ?_⟩
          rintro rfl
          exact hj (nodup_ix hN e1 (I.ok.inj _ _ _ e hc ▸ hi))
    · by_cases hcc : c' = c
      · subst hcc; exact ⟨_, hc'⟩
      · obtain ⟨w2, z2⟩ := I.cell y c' e
        exact ⟨w2, z2.sameBut hs hcc⟩
    · obtain ⟨e, n, ne, nf, d⟩ := I.pin p hp
      refine ⟨(hs.2 p.1 ?_).trans e, n, ne, nf, d⟩
      intro q
      rw [q, hoc] at e
      have q' : oc = p.2 := Option.some.inj e
      exact d w' (by rw [← q']; exact hocd)
theorem store_ok {M : Model} {A : Around} {E : Value → Shared → Prop} {i : Nat} {x : Str} {v : V} {u : Value} {Q : Unit → Shared → Prop} (I : Inv X pins σ H s) (hN : X.N.Nodup) (hi : X.N[i]? = some x) (hx : Loc X.env.scope x) (r : RelV v u)
    (h : ∀ s', Inv X pins (σ.set i (some v)) H s' → Q () s') (hf : X.fn x = true ∨ X.env.scope.names.lookup x = some .local := by first | exact .inl rfl | exact .inr rfl | assumption) : wpAny M A (storeName X.env x u) Q E s :=
  store_ok2 I hN hi hx r (fun s' I' _ => h s' I') hf
end
abbrev XK := Value → Option Addr → Hp → Prop
abbrev St := List (Option V)
abbrev VK := V → Hp → Prop
abbrev TE := St → Hp → VK → Prop
abbrev TT := St → Hp → (Bool → Hp → Prop) → Prop
abbrev TA := St → Hp → (List V → Hp → Prop) → Prop
structure Ends where
  nx : St → Hp → Prop
  rt : VK
  bk : St → Hp → Prop := fun _ _ => False
  ct : St → Hp → Prop := fun _ _ => False
abbrev TS := Ends → St → Hp → Prop
def EP (X : Cx) (pins : List (Addr × Obj)) (σ : St) (Q : VK) (u : Value) (s' : Shared) : Prop := ∃ v H', Inv X pins σ H' s' ∧ RelV v u ∧ Q v H'
def TP (X : Cx) (pins : List (Addr × Obj)) (σ : St) (Q : Bool → Hp → Prop) (b : Bool) (s' : Shared) : Prop := ∃ H', Inv X pins σ H' s' ∧ Q b H'
def AP (X : Cx) (pins : List (Addr × Obj)) (σ : St) (Q : List V → Hp → Prop) (us : List Value) (s' : Shared) : Prop := ∃ vs H', Inv X pins σ H' s' ∧ Vals vs us ∧ Q vs H'
def SP (X : Cx) (pins : List (Addr × Obj)) (D : Ends) (f : Flow) (s' : Shared) : Prop :=
  match f with
  | .next => ∃ σ' H', Inv X pins σ' H' s' ∧ D.nx σ' H'
  | .brk => ∃ σ' H', Inv X pins σ' H' s' ∧ D.bk σ' H'
  | .cont => ∃ σ' H', Inv X pins σ' H' s' ∧ D.ct σ' H'
  | .ret u => ∃ v σ' H', Inv X pins σ' H' s' ∧ RelV v u ∧ D.rt v H'
def PE (X : Cx) (e : Expr) (t : TE) : Prop :=
  ∀ (pins : List (Addr × Obj)) (s : Shared) (σ : St) (H : Hp) (Q : VK), Inv X pins σ H s → t σ H Q → wpAny (model X.prog X.w) X.A (eval e X.env) (EP X pins σ Q) X.xe s
def PT (X : Cx) (e : Expr) (t : TT) : Prop :=
  ∀ (pins : List (Addr × Obj)) (s : Shared) (σ : St) (H : Hp) (Q : Bool → Hp → Prop), Inv X pins σ H s → t σ H Q → wpAny (model X.prog X.w) X.A (isTrue e X.env (eval e X.env)) (TP X pins σ Q) X.xe s
def PW (X : Cx) (e : Expr) (t : TT) : Prop :=
  ∀ (whole : Sem Value) (pins : List (Addr × Obj)) (s : Shared) (σ : St) (H : Hp) (Q : Bool → Hp → Prop), Inv X pins σ H s → t σ H Q → wpAny (model X.prog X.w) X.A (isTrue e X.env whole) (TP X pins σ Q) X.xe s
theorem PW.pt {X : Cx} {e : Expr} {t : TT} (h : PW X e t) : PT X e t := h _
def PA (X : Cx) (es : List Expr) (t : TA) : Prop :=
  ∀ (pos : Pos) (pins : List (Addr × Obj)) (s : Shared) (σ : St) (H : Hp) (Q : List V → Hp → Prop), Inv X pins σ H s → t σ H Q → wpAny (model X.prog X.w) X.A (spliced (backTo pos (starEach es X.env))) (AP X pins σ Q) X.xe s
def PS (X : Cx) (st : Stmt) (t : TS) : Prop :=
  ∀ (pins : List (Addr × Obj)) (s : Shared) (σ : St) (H : Hp) (D : Ends), Inv X pins σ H s → t D σ H → wpAny (model X.prog X.w) X.A (exec st X.env) (SP X pins D) X.xe s
def PSs (X : Cx) (st : List Stmt) (t : TS) : Prop :=
  ∀ (pins : List (Addr × Obj)) (s : Shared) (σ : St) (H : Hp) (D : Ends), Inv X pins σ H s → t D σ H → wpAny (model X.prog X.w) X.A (execs st X.env) (SP X pins D) X.xe s
theorem thn {α : Type} {t : Sem α} {Q Q' : α → Shared → Prop} {M : Model} {A : Around} {E : Value → Shared → Prop} {s : Shared} (h : wpAny M A t Q E s) (hQ : ∀ a s, Q a s → Q' a s) : wpAny M A t Q' E s := wpAny_mono h hQ fun _ _ x => x
end L2
namespace L2
open PySem PySem.Spec PyProof.Rows
section
variable {X : Cx}
def tVar (i : Nat) : TE := fun σ H Q => ∃ v, σ[i]? = some (some v) ∧ Q v H
def tC (v : V) : TE := fun _ H Q => Q v H
theorem pe_var {i : Nat} {x : Str} {pos : Pos} (hN : X.N[i]? = some x) (hv : Vis X.env.scope x) (hd : (x == ("__debug__" : Str)) = false := by decide) (hcd : (x == ("__classdict__" : Str)) = false := by decide) : PE X (.Name x pos) (tVar i) := by
  intro pins s σ H Q I h
  obtain ⟨v, e, h⟩ := h
  obtain ⟨m, hn, hl⟩ := I.loc
  obtain ⟨u, r, l⟩ := hl i x v hN e hv
  have fin : EP X pins σ Q u s := ⟨v, H, I, r, h⟩
  rcases l with ⟨hk, hm⟩ | ⟨hk, c, hc, hcell⟩
  · exact wpAny_Name (wpAny_loadName_local I.ok.kind hk hn hm fin) hd
  · rcases hk with hk | hk
    · exact wpAny_Name (wpAny_loadName_cell I.ok.kind hk hc hcell fin) hd
    · exact wpAny_Name (wpAny_loadName_free I.ok.kind hk hc hcell fin hcd) hd
theorem pe_int {i j pos} : PE X (.Constant (.int i) j pos) (tC (.int i)) := fun _ _ _ H _ I h => wpAny_Constant_int ⟨.int i, H, I.tok _, ⟨_, rfl⟩, h⟩
theorem pe_bl {b j pos} : PE X (.Constant (.bool b) j pos) (tC (.bl b)) := fun _ _ _ H _ I h => Constant_bool ⟨.bl b, H, I, rfl, h⟩
theorem pe_non {j pos} : PE X (.Constant .none j pos) (tC .non) := fun _ _ _ H _ I h => Constant_none ⟨.non, H, I, rfl, h⟩
theorem pe_str {x j pos} : PE X (.Constant (.str x) j pos) (tC (.str x)) := fun _ _ _ H _ I h => Calls.Constant_str ⟨.str x, H, I.tok _, ⟨_, rfl⟩, h⟩
def Gl (X : Cx) (x : Str) : Prop := X.env.kindOf x = some .globalImplicit
theorem ld_glob {E : Value → Shared → Prop} {pins : List (Addr × Obj)} {s : Shared} {σ : St} {H : Hp} {x : Str} {u : Value} {pos : Pos} {Q : Value → Shared → Prop} (I : Inv X pins σ H s) (hg : Gl X x) (hm : X.mg x = some u) (h : Q u s)
    (hd : (x == ("__debug__" : Str)) = false := by decide) : wpAny (model X.prog X.w) X.A (eval (.Name x pos) X.env) Q E s :=
  Calls.Name_function_global I.ok.kind hg (Calls.loadGlobal_global (by rw [I.ok.glob]; exact I.mod.glob.keeps I.bk) hm h) hd
theorem ld_blt {E : Value → Shared → Prop} {pins : List (Addr × Obj)} {s : Shared} {σ : St} {H : Hp} {x : Str} {u : Value} {pos : Pos} {Q : Value → Shared → Prop} (I : Inv X pins σ H s) (hg : Gl X x) (hm : X.mg x = none) (hv : bootBuiltins x = some u) (h : Q u s)
    (hn : x ≠ "__name__" := by decide) (hd : (x == ("__debug__" : Str)) = false := by decide) : wpAny (model X.prog X.w) X.A (eval (.Name x pos) X.env) Q E s := by
  obtain ⟨mb, h1, h2⟩ := I.mod.blt
  exact Calls.Name_function_global I.ok.kind hg (Calls.loadGlobal_builtin (by rw [I.ok.glob]; exact I.mod.glob.keeps I.bk) hm (by rw [I.ok.blt]; exact h1.keeps I.bk) ((h2 x hn).trans hv) h) hd
theorem pe_glob {x : Str} {v : V} {u : Value} {pos : Pos} (hg : Gl X x) (hm : X.mg x = some u) (r : RelV v u) (hd : (x == ("__debug__" : Str)) = false := by decide) : PE X (.Name x pos) (tC v) :=
  fun _ _ _ H _ I h => ld_glob I hg hm ⟨v, H, I, r, h⟩ hd
theorem pe_bltn {x : Str} {v : V} {u : Value} {pos : Pos} (hg : Gl X x) (hm : X.mg x = none) (hv : bootBuiltins x = some u) (r : RelV v u) (hn : x ≠ "__name__" := by decide) (hd : (x == ("__debug__" : Str)) = false := by decide) : PE X (.Name x pos) (tC v) :=
  fun _ _ _ H _ I h => ld_blt I hg hm hv ⟨v, H, I, r, h⟩ hn hd
variable {a b : Expr} {ta tb : TE} {pos : Pos}
def tB (t : TE) : TT := fun σ H Q => t σ H fun x H1 => ∃ c, x = .bl c ∧ Q c H1
theorem pt_val {e : Expr} {t : TE} (h : PE X e t) (he : ∀ whole, isTrue e X.env whole = (do let v ← whole; standAt e.pos; holding [v] (truthy v)) := by intro _; rfl) : PT X e (tB t) := by
  intro pins s σ H Q I hw
  refine isTrue_plain (thn (h pins s σ H _ I hw) fun v s1 ⟨x, H1, I1, r1, q1⟩ => ?_) (he _)
  obtain ⟨d, rfl, q⟩ := q1
  cases r1
  exact wpAny_truthy_bool ⟨H1, I1, q⟩
variable {tA tB' : TT} {rest : List Expr}
def tAnd (t u : TT) : TT := fun σ H Q => t σ H fun c H1 => if c = true then u σ H1 Q else Q false H1
def tOr (t u : TT) : TT := fun σ H Q => t σ H fun c H1 => if c = true then Q true H1 else u σ H1 Q
def tNot (t : TT) : TT := fun σ H Q => t σ H fun c H1 => Q (!c) H1
theorem pw_and1 (ha : PT X a tA) : PW X (.BoolOp .And [a] pos) tA := by
  intro wh pins s σ H Q I h
  refine isTrue_and (thn (ha pins s σ H Q I h) fun c s1 e => ?_)
  cases c with
  | true => exact isTrue_and_nil e
  | false => exact e
theorem pw_or1 (ha : PT X a tA) : PW X (.BoolOp .Or [a] pos) tA := by
  intro wh pins s σ H Q I h
  refine isTrue_or (thn (ha pins s σ H Q I h) fun c s1 e => ?_)
  cases c with
  | false => exact isTrue_or_nil e
  | true => exact e
theorem pw_and (ha : PT X a tA) (hb : PW X (.BoolOp .And (b :: rest) pos) tB') : PW X (.BoolOp .And (a :: b :: rest) pos) (tAnd tA tB') := by
  intro wh pins s σ H Q I h
  refine isTrue_and (thn (ha pins s σ H _ I h) fun c s1 ⟨H1, I1, q1⟩ => ?_)
  cases c with
  | true => exact hb wh pins s1 σ H1 Q I1 q1
  | false => exact ⟨H1, I1, q1⟩
theorem pw_or (ha : PT X a tA) (hb : PW X (.BoolOp .Or (b :: rest) pos) tB') : PW X (.BoolOp .Or (a :: b :: rest) pos) (tOr tA tB') := by
  intro wh pins s σ H Q I h
  refine isTrue_or (thn (ha pins s σ H _ I h) fun c s1 ⟨H1, I1, q1⟩ => ?_)
  cases c with
  | true => exact ⟨H1, I1, q1⟩
  | false => exact hb wh pins s1 σ H1 Q I1 q1
theorem pt_not (ha : PT X a tA) : PT X (.UnaryOp .Not a pos) (tNot tA) := by
  intro pins s σ H Q I h
  exact isTrue_not (ha pins s σ H (fun c H1 => Q (!c) H1) I h)
def tAndV (ta tb : TE) : TE := fun σ H Q => ta σ H fun x H1 => ∃ c, x = .bl c ∧ if c = true then tb σ H1 Q else Q (.bl false) H1
def tNotV (ta : TE) : TE := fun σ H Q => ta σ H fun x H1 => ∃ c, x = .bl c ∧ Q (.bl (!c)) H1
theorem pe_one {op} {t : TE} (h : PE X a t) : PE X (.BoolOp op [a] pos) t := fun pins s σ H Q I hw => BoolOp_one (h pins s σ H Q I hw)
theorem pe_and (ha : PE X a ta) (hb : PE X (.BoolOp .And (b :: rest) pos) tb) : PE X (.BoolOp .And (a :: b :: rest) pos) (tAndV ta tb) := by
  intro pins s σ H Q I h
  refine BoolOp_and (thn (ha pins s σ H _ I h) fun v s1 ⟨x, H1, I1, r1, q1⟩ => ?_)
  obtain ⟨c, rfl, q1⟩ := q1
  cases r1
  refine wpAny_truthy_bool ?_
  cases c with
  | true => exact hb pins s1 σ H1 Q I1 q1
  | false => exact ⟨.bl false, H1, I1, rfl, q1⟩
theorem pe_not (ha : PE X a ta) : PE X (.UnaryOp .Not a pos) (tNotV ta) := by
  intro pins s σ H Q I h
  refine UnaryOp_ (thn (ha pins s σ H _ I h) fun v s1 ⟨x, H1, I1, r1, q1⟩ => ?_)
  obtain ⟨c, rfl, q1⟩ := q1
  cases r1
  exact not_of (wpAny_truthy_bool ⟨.bl (!c), H1, I1, rfl, q1⟩)
end
end L2
namespace L2
open PySem PySem.Spec PyProof.Rows
def SqL (K : PySem.W.Frag) (H : Hp) (a : Addr) (xs : List V) : Prop :=
  Rd H a (.lst xs) ∨
    ∃ (o : Obj) (its : Array Value) (n : Nat), K.lookup a = some o ∧ o.cls = .type "list" ∧ o.dict = none ∧ o.data = .seq its n ∧ its.size ≤ sizeLine ∧ Vals xs its.toList
def SqT (K : PySem.W.Frag) (H : Hp) (a : Addr) (xs : List V) : Prop :=
  Rd H a (.tup xs) ∨
    ∃ (o : Obj) (its : Array Value) (n : Nat), K.lookup a = some o ∧ o.cls = .type "tuple" ∧ o.data = .seq its n ∧ its.size ≤ sizeLine ∧ Vals xs its.toList
def absV : Value → Option V
  | .none => some .non
  | .bool b => some (.bl b)
  | .int i _ => some (.int i)
  | .str x _ => some (.str x)
  | .bytes b _ => some (.byt b)
  | .float b _ => some (.flt b)
  | .ref a => some (.ref a)
  | .type n => some (.ty n)
  | _ => none
theorem RelV.abs {x : V} {u : Value} (r : RelV x u) : absV u = some x := by
  cases x with
  | non => cases r; rfl
  | bl _ => cases r; rfl
  | int _ => obtain ⟨t, rfl⟩ := r; rfl
  | str _ => obtain ⟨t, rfl⟩ := r; rfl
  | byt _ => obtain ⟨t, rfl⟩ := r; rfl
  | flt _ => obtain ⟨t, rfl⟩ := r; rfl
  | ref _ => cases r; rfl
  | ty _ => cases r; rfl
theorem RelV.inj {x y : V} {u : Value} (r : RelV x u) (q : RelV y u) : x = y := Option.some.inj (r.abs.symm.trans q.abs)
theorem Vals.inj : ∀ {xs ys : List V} {us : List Value}, Vals xs us → Vals ys us → xs = ys
  | _, _, _, .nil, .nil => rfl
  | _, _, _, .cons r t, .cons r' t' => by rw [r.inj r', Vals.inj t t']
section
variable {X : Cx} {pins : List (Addr × Obj)} {σ : St} {H : Hp} {s : Shared} {a : Addr} {xs ys : List V}
theorem SqL.of {K : PySem.W.Frag} (h : H a = some (.lst xs)) : SqL K H a xs := .inl (.inl h)
theorem SqT.of {K : PySem.W.Frag} (h : H a = some (.tup xs)) : SqT K H a xs := .inl (.inl h)
theorem Inv.list (I : Inv X pins σ H s) (h : SqL X.K H a xs) : ∃ its : List Value, Vals xs its ∧ PlainL s.heap a its.toArray ∧ xs.length ≤ sizeLine := by
  rcases h with h | ⟨o, its, n, hk, hc, hd, hs, hz, r⟩
  · obtain ⟨z, its, n, r, e⟩ := h.ok I.hok
    exact ⟨its, r, ⟨_, n, e, rfl, rfl, rfl⟩, z⟩
  · refine ⟨its.toList, r, ⟨o, n, I.kIn a o hk, hc, hd, by simpa using hs⟩, ?_⟩
    have e := r.length
    simp only [Array.length_toList] at e
    omega
theorem Inv.tuple (I : Inv X pins σ H s) (h : SqT X.K H a xs) : ∃ its : List Value, Vals xs its ∧ IsTup s.heap a its.toArray ∧ xs.length ≤ sizeLine := by
  rcases h with h | ⟨o, its, n, hk, hc, hs, hz, r⟩
  · obtain ⟨z, its, r, p⟩ := h.ok I.hok
    exact ⟨its, r, p, z⟩
  · refine ⟨its.toList, r, ⟨o, I.kIn a o hk, hc, n, by simpa using hs⟩, ?_⟩
    have e := r.length
    simp only [Array.length_toList] at e
    omega
theorem Inv.list_inj (I : Inv X pins σ H s) (h : SqL X.K H a xs) (h' : SqL X.K H a ys) : xs = ys := by
  obtain ⟨its, r, ⟨o, n, e, _, _, d⟩, _⟩ := I.list h
  obtain ⟨its', r', ⟨o', n', e', _, _, d'⟩, _⟩ := I.list h'
  rw [e] at e'; cases e'
  rw [d] at d'
  injection d' with d1 _
  have : its = its' := by simpa using congrArg Array.toList d1
  subst this
  exact r.inj r'
end
abbrev Cx.wish (X : Cx) (E : Value → Shared → Prop) : Cx := { X with xe := E }
abbrev Cx.nox (X : Cx) : Cx := X.wish fun _ _ => False
theorem Cx.Ok.wish {X : Cx} (ok : X.Ok) (E : Value → Shared → Prop) : (X.wish E).Ok :=
  ⟨ok.mod, ok.kind, ok.glob, ok.blt, ok.above, ok.inj, ok.has, ok.cab, ok.hd, ok.frames, ok.stk, ok.exf, ok.bs, ok.bsz, ok.noex, ok.exfs, ok.funs, ok.frf⟩
theorem Cx.Ok.unwish {X : Cx} {E : Value → Shared → Prop} (ok : (X.wish E).Ok) : X.Ok :=
  ⟨ok.mod, ok.kind, ok.glob, ok.blt, ok.above, ok.inj, ok.has, ok.cab, ok.hd, ok.frames, ok.stk, ok.exf, ok.bs, ok.bsz, ok.noex, ok.exfs, ok.funs, ok.frf⟩
section
variable {X : Cx} {pins : List (Addr × Obj)} {σ : St} {H : Hp} {s : Shared} {E : Value → Shared → Prop}
theorem Inv.wish (I : Inv X pins σ H s) (E : Value → Shared → Prop) : Inv (X.wish E) pins σ H s := ⟨I.ok.wish E, I.os, I.bare, I.base, I.loc, I.cell, I.free, I.freeC, I.pin, I.hok, I.len⟩
theorem Inv.unwish (I : Inv (X.wish E) pins σ H s) : Inv X pins σ H s := ⟨I.ok.unwish, I.os, I.bare, I.base, I.loc, I.cell, I.free, I.freeC, I.pin, I.hok, I.len⟩
theorem SP.unwish {D : Ends} {f : Flow} {s' : Shared} (h : SP (X.wish E) pins D f s') : SP X pins D f s' := by
  cases f with
  | next => obtain ⟨σ', H', I, q⟩ := h; exact ⟨σ', H', I.unwish, q⟩
  | brk => obtain ⟨σ', H', I, q⟩ := h; exact ⟨σ', H', I.unwish, q⟩
  | cont => obtain ⟨σ', H', I, q⟩ := h; exact ⟨σ', H', I.unwish, q⟩
  | ret u => obtain ⟨v, σ', H', I, r, q⟩ := h; exact ⟨v, σ', H', I.unwish, r, q⟩
theorem PE.nox {e : Expr} {t : TE} (h : PE X.nox e t) : PE X e t := fun pins s σ H Q I hw =>
  wpAny_mono (h pins s σ H Q (I.wish _) hw) (fun _ _ ⟨v, H', I', r, q⟩ => ⟨v, H', I'.unwish, r, q⟩) fun _ _ z => False.elim z
theorem PT.nox {e : Expr} {t : TT} (h : PT X.nox e t) : PT X e t := fun pins s σ H Q I hw =>
  wpAny_mono (h pins s σ H Q (I.wish _) hw) (fun _ _ ⟨H', I', q⟩ => ⟨H', I'.unwish, q⟩) fun _ _ z => False.elim z
theorem PSs.nox {st : List Stmt} {t : TS} (h : PSs X.nox st t) : PSs X st t := fun pins s σ H D I hw =>
  wpAny_mono (h pins s σ H D (I.wish _) hw) (fun _ _ q => q.unwish) fun _ _ z => False.elim z
end
section
variable {X : Cx} {st : Stmt} {rest : List Stmt} {t u : TS} {e : Expr} {te : TE} {pos : Pos}
def tNext : TS := fun D σ H => D.nx σ H
def tSeq (t u : TS) : TS := fun D σ H => t { D with nx := u D } σ H
theorem pss_nil : PSs X [] tNext := fun _ _ σ H _ I h => wpAny_execs_nil ⟨σ, H, I, h⟩
theorem pss_cons (h1 : PS X st t) (h2 : PSs X rest u) : PSs X (st :: rest) (tSeq t u) := by
  intro pins s σ H D I h
  refine wpAny_execs_cons (thn (h1 pins s σ H { D with nx := u D } I h) fun f s1 q => ?_)
  cases f with
  | next =>
    obtain ⟨σ', H', I', q⟩ := q
    exact h2 pins s1 σ' H' D I' q
  | ret v => exact q
  | brk => exact q
  | cont => exact q
theorem pss_one (h1 : PS X st t) : PSs X [st] t := by
  intro pins s σ H D I h
  refine wpAny_execs_cons (thn (h1 pins s σ H D I h) fun f s1 q => ?_)
  cases f with
  | next => exact wpAny_execs_nil q
  | ret v => exact q
  | brk => exact q
  | cont => exact q
theorem Inv.quiet {pins : List (Addr × Obj)} {σ : St} {H : Hp} {s : Shared} (I : Inv X pins σ H s) : interactive X.env = false := by simp [interactive, I.ok.kind]
def tDrop (te : TE) : TS := fun D σ H => te σ H fun _ H1 => D.nx σ H1
theorem ps_expr (he : PE X e te) (hs : swapsWith e none pos.line X.env = pure false := by rfl) : PS X (.Expr e pos) (tDrop te) := by
  intro pins s σ H D I h
  exact wpAny_Expr_any (thn (he pins s σ H _ I h) fun v s1 ⟨x, H1, I1, r1, q1⟩ => ⟨σ, H1, I1, q1⟩) I.quiet hs
def tRet (te : TE) : TS := fun D σ H => te σ H D.rt
theorem ps_ret (he : PE X e te) : PS X (.Return (some e) pos) (tRet te) := by
  intro pins s σ H D I h
  exact wpAny_Return_some (thn (he pins s σ H _ I h) fun v s1 ⟨x, H1, I1, r1, q1⟩ => ⟨x, σ, H1, I1, r1, q1⟩)
def tIfS (c : TT) (t u : TS) : TS := fun D σ H => c σ H fun b H1 => if b = true then t D σ H1 else u D σ H1
theorem ps_if {c : Expr} {a b : List Stmt} {tc : TT} (hc : PT X c tc) (ha : PSs X a t) (hb : PSs X b u) : PS X (.If c a b pos) (tIfS tc t u) := by
  intro pins s σ H D I h
  refine wpAny_If (thn (hc pins s σ H _ I h) fun d s1 ⟨H1, I1, q1⟩ => ?_)
  cases d with
  | true => exact ha pins s1 σ H1 D I1 q1
  | false => exact hb pins s1 σ H1 D I1 q1
def tNever : TS := fun _ _ _ => False
theorem ps_never : PS X st tNever := fun _ _ _ _ _ _ h => h.elim
end
abbrev TG := V → St → Hp → (St → Hp → Prop) → Prop
abbrev TGs := List V → St → Hp → (St → Hp → Prop) → Prop
def PG (X : Cx) (target : Expr) (t : TG) : Prop :=
  ∀ (pins : List (Addr × Obj)) (s : Shared) (σ : St) (H : Hp) (v : V) (u : Value) (Q : St → Hp → Prop), Inv X pins σ H s → RelV v u → t v σ H Q →
    wpAny (model X.prog X.w) X.A (assign target X.env u) (fun _ s' => ∃ σ' H', Inv X pins σ' H' s' ∧ Q σ' H') X.xe s
def PGs (X : Cx) (ts : List Expr) (t : TGs) : Prop :=
  ∀ (pins : List (Addr × Obj)) (s : Shared) (σ : St) (H : Hp) (vs : List V) (us : List Value) (Q : St → Hp → Prop), Inv X pins σ H s → Vals vs us → t vs σ H Q →
    wpAny (model X.prog X.w) X.A (assignInOrder ((assignEach ts X.env).map (·.2)) us) (fun _ s' => ∃ σ' H', Inv X pins σ' H' s' ∧ Q σ' H') X.xe s
abbrev TSet := V → V → V → Hp → (Hp → Prop) → Prop
def PSet (X : Cx) (t : TSet) : Prop :=
  ∀ (pins : List (Addr × Obj)) (s : Shared) (σ : St) (H : Hp) (o i v : V) (ov iv u : Value) (Q : Hp → Prop), Inv X pins σ H s → RelV o ov → RelV i iv → RelV v u → t o i v H Q →
    wpAny (model X.prog X.w) X.A (setItem ov iv u) (fun _ s' => ∃ H', Inv X pins σ H' s' ∧ Q H') X.xe s
section
variable {X : Cx} {pos : Pos}
def gName (i : Nat) : TG := fun v σ H Q => Q (σ.set i (some v)) H
theorem pg_name {i : Nat} {x : Str} (hN : X.N.Nodup) (hi : X.N[i]? = some x) (hx : Loc X.env.scope x) (hf : X.fn x = true ∨ X.env.scope.names.lookup x = some .local := by first | exact .inl rfl | exact .inr rfl | assumption) : PG X (.Name x pos) (gName i) := by
  intro pins s σ H v u Q I r h
  exact wpAny_assign_Name (store_ok I hN hi hx r (fun s' I' => ⟨_, H, I', h⟩) hf)
def gNil : TGs := fun vs σ H Q => vs = [] ∧ Q σ H
def gCons (t : TG) (u : TGs) : TGs := fun vs σ H Q => ∃ v r, vs = v :: r ∧ t v σ H fun σ' H' => u r σ' H' Q
theorem pgs_nil : PGs X [] gNil := by
  intro pins s σ H vs us Q I r h
  obtain ⟨e, h⟩ := h
  subst e
  cases r
  exact assignInOrder_nil ⟨σ, H, I, h⟩
theorem pgs_cons {e : Expr} {es : List Expr} {t : TG} {u : TGs} (h1 : PG X e t) (h2 : PGs X es u)
    (hs : (assignEach (e :: es) X.env).map (·.2) = assign e X.env :: (assignEach es X.env).map (·.2) := by rfl) : PGs X (e :: es) (gCons t u) := by
  intro pins s σ H vs us Q I r h
  obtain ⟨v, vr, e1, h⟩ := h
  subst e1
  cases r with
  | cons r rr =>
    rw [hs]
    refine assignInOrder_cons (thn (h1 pins s σ H _ _ _ I r h) fun _ s1 ⟨σ1, H1, I1, q1⟩ => ?_)
    exact h2 pins s1 σ1 H1 _ _ Q I1 rr q1
def gTup (K : PySem.W.Frag) (n : Nat) (t : TGs) : TG := fun v σ H Q => ∃ a xs, v = .ref a ∧ SqT K H a xs ∧ xs.length = n ∧ t xs σ H Q
theorem pg_tup {es : List Expr} {k : Nat} {t : TGs} {n : Nat} (hc : X.calm = true) (h : PGs X es t)
    (hn : (assignEach es X.env).length = n := by rfl) (hst : (assignEach es X.env).findIdx? (·.1) = none := by rfl) : PG X (.Tuple es k pos) (gTup X.K n t) := by
  intro pins s σ H v u Q I r hw
  obtain ⟨a, xs, e1, hq, hl, hw⟩ := hw
  subst e1
  cases r
  obtain ⟨its, rv, ht, hz⟩ := I.tuple hq
  refine assign_Tuple_tuple (I.ok.hd hc) ht (by simp [hn, ← hl, rv.length]) hst fun h' hx => ?_
  have I1 : Inv X pins σ H { s with heap := h' } := I.kept (t' := s.toks) fun b o e => hx b o (Nat.ne_of_lt (Heap.lt_size e)) e
  exact h pins _ σ H xs _ Q I1 (by simpa using rv) hw
def gSub (to ti : TE) (t : TSet) : TG := fun v σ H Q => to σ H fun o H1 => ti σ H1 fun i H2 => t o i v H2 fun H3 => Q σ H3
theorem pg_sub {o i : Expr} {to ti : TE} {t : TSet} (ho : PE X o to) (hi : PE X i ti) (hs : PSet X t)
    (ha : ∀ v, assign (.Subscript o i pos) X.env v = (do
      let ov ← holding [v] (eval o X.env)
      let iv ← holding [v, ov] (eval i X.env)
      standAt pos
      holding [v, ov, iv] (setItem ov iv v)
      release [v, ov, iv] []) := by intro _; rfl) : PG X (.Subscript o i pos) (gSub to ti t) := by
  intro pins s σ H v u Q I r h
  rw [ha]
  refine wpAny_bind (wpAny_holding (thn (ho pins s σ H _ I h) fun ov s1 ⟨x, H1, I1, r1, q1⟩ => ?_))
  refine wpAny_bind (wpAny_holding (thn (hi pins s1 σ H1 _ I1 q1) fun iv s2 ⟨y, H2, I2, r2, q2⟩ => ?_))
  refine wpAny_bind (wpAny_standAt (wpAny_bind (wpAny_holding (thn (hs pins s2 σ H2 x y v ov iv u _ I2 r1 r2 r q2) fun _ s3 ⟨H3, I3, q3⟩ => ?_))))
  exact wpAny_release ⟨σ, H3, I3, q3⟩
def tAsg (te : TE) (g : TG) : TS := fun D σ H => te σ H fun x H1 => g x σ H1 D.nx
theorem ps_asg {tg e : Expr} {te : TE} {g : TG} (he : PE X e te) (hg : PG X tg g) (hs : swapsWithSole [tg] e pos.line X.env = pure false := by rfl) (hw : swappedStores [tg] e X.env = pure none := by rfl)
    (h1 : (assignEach [tg] X.env).map (·.2) = [assign tg X.env] := by rfl) : PS X (.Assign [tg] e pos) (tAsg te g) := by
  intro pins s σ H D I h
  refine wpAny_Assign_stores (thn (he pins s σ H _ I h) fun v s1 ⟨x, H1, I1, r1, q1⟩ => ?_) hs hw
  rw [h1]
  exact thn (hg pins s1 σ H1 x v _ I1 r1 q1) fun _ s2 q => q
theorem ps_set {i : Nat} {x : Str} {e : Expr} {te : TE} {pos' : Pos} (hN : X.N.Nodup) (hi : X.N[i]? = some x) (hx : Loc X.env.scope x) (he : PE X e te) (hs : swapsWith e (some (.Name x pos')) pos.line X.env = pure false := by rfl) (hf : X.fn x = true ∨ X.env.scope.names.lookup x = some .local := by first | exact .inl rfl | exact .inr rfl | assumption) :
    PS X (.Assign [.Name x pos'] e pos) (tAsg te (gName i)) := by
  intro pins s σ H D I h
  refine wpAny_Assign_Name (thn (he pins s σ H _ I h) fun v s1 ⟨y, H1, I1, r1, q1⟩ => ?_) hs
  exact store_ok I1 hN hi hx r1 (fun s2 I2 => ⟨_, H1, I2, q1⟩) hf
def tPar (i j : Nat) (ta : TA) : TS := fun D σ H => ta σ H fun vs H1 => ∃ v w, vs = [v, w] ∧ D.nx ((σ.set i (some v)).set j (some w)) H1
theorem ps_par {i j : Nat} {x y : Str} {a b : Expr} {ta : TA} {px py pt : Pos} {kt k2 pt2} (hc : X.calm = true) (hN : X.N.Nodup) (hi : X.N[i]? = some x) (hj : X.N[j]? = some y) (hij : i ≠ j)
    (hx : X.env.scope.names.lookup x = some .local) (hy : X.env.scope.names.lookup y = some .local) (ha : PA X [a, b] ta)
    (hw : swappedStores [.Tuple [.Name x px, .Name y py] kt pt] (.Tuple [a, b] k2 pt2) X.env = pure (some [x, y]))
    (hs : swapsWithSole [.Tuple [.Name x px, .Name y py] kt pt] (.Tuple [a, b] k2 pt2) pos.line X.env = pure false := by rfl) :
    PS X (.Assign [.Tuple [.Name x px, .Name y py] kt pt] (.Tuple [a, b] k2 pt2) pos) (tPar i j ta) := by
  intro pins s σ H D I h
  rw [exec_Assign_arm]
  refine wpAny_bind (wpAny_standAt ?_)
  rw [hs]
  refine wpAny_bind (wpAny_pure ?_)
  rw [if_neg (by decide)]
  refine wpAny_bind (Tuple_ (thn (ha _ pins s σ H _ I h) fun us s1 ⟨vs, H1, I1, r1, q1⟩ => ?_))
  obtain ⟨v, w, e1, q1⟩ := q1
  subst e1
  obtain ⟨u1, u2, rfl, rv, rw'⟩ : ∃ u1 u2, us = [u1, u2] ∧ RelV v u1 ∧ RelV w u2 := by
    cases r1 with
    | cons p q =>
      cases q with
      | cons p' q' =>
        cases q'
        exact ⟨_, _, rfl, p, p'⟩
  refine wpAny_newObj_type ?_ (by show 2 ≤ sizeLine; decide)
  have I2 : Inv X pins σ H1 { s1 with heap := s1.heap.push { cls := .type "tuple", data := .seq [u1, u2].toArray } } := I1.kept (t' := s1.toks) fun b o e => Heap.get?_push_of_some _ e
  rw [hw]
  refine wpAny_bind (wpAny_pure ?_)
  show wpAny (model X.prog X.w) X.A (do rule "assign.swapped-stores"; let items ← unpackItems (.ref s1.heap.objs.size) 2 none; assignInOrder [fun v => bindName X.env y v, fun v => bindName X.env x v] items.reverse; pure Flow.next) _ _ _
  refine wpAny_bind (wpAny_rule (wpAny_bind (unpackItems_tuple (items := #[u1, u2]) (I.ok.hd hc) (IsTup.new s1.heap _) fun h' hx' => ?_)))
  have I3 := I2.kept (h' := h') (t' := s1.toks) fun b o e => hx' b o (Nat.ne_of_lt (Heap.lt_size e)) e
  show wpAny _ _ (assignInOrder [fun v => bindName X.env y v, fun v => bindName X.env x v] [u2, u1] >>= fun _ => pure Flow.next) _ _ _
  refine wpAny_bind (assignInOrder_cons (wpAny_bindName (store_ok I3 hN hj (.inl hy) rw' (fun s2 I4 => ?_) (.inr hy))))
  refine assignInOrder_cons (wpAny_bindName (store_ok I4 hN hi (.inl hx) rv (fun s3 I5 => assignInOrder_nil (wpAny_pure ?_)) (.inr hx)))
  rw [List.set_comm _ _ (Ne.symm hij)] at I5
  exact ⟨_, H1, I5, q1⟩
end
section
variable {X : Cx} {pos : Pos}
def tWhile (c : TT) (tb : TS) : TS := fun D σ H => ∃ W : Nat → St → Hp → Prop, (∃ m, W m σ H) ∧ ∀ m σ H, W m σ H →
  c σ H fun b H1 => if b = true then ∃ N : St → Hp → Prop, (∀ σ' H', N σ' H' → ∃ m', m' < m ∧ W m' σ' H') ∧ tb { D with nx := N, ct := N, bk := D.nx } σ H1 else D.nx σ H1
theorem ps_while {c : Expr} {body : List Stmt} {tc : TT} {tb : TS} (hp : PassesOwn (model X.prog X.w) X.A X.env X.xe) (hc : PT X c tc) (hb : PSs X body tb) : PS X (.While c body [] pos) (tWhile tc tb) := by
  intro pins s σ H D I h
  obtain ⟨W, ⟨m0, w0⟩, turn⟩ := h
  refine wpAny_While (codeAny_whileLoop (fun n s' => ∃ σ' H', Inv X pins σ' H' s' ∧ W n σ' H') ?_ m0 ⟨σ, H, I, w0⟩)
  rintro n s1 ⟨σ1, H1, I1, w1⟩
  refine wpAny_passesOwn hp (thn (hc pins s1 σ1 H1 _ I1 (turn n σ1 H1 w1)) fun b s2 ⟨H2, I2, q2⟩ => ?_)
  cases b with
  | true =>
    obtain ⟨N, hN, q2⟩ := q2
    rw [if_pos rfl]
    refine wpAny_passesOwn hp (thn (hb pins s2 σ1 H2 _ I2 q2) fun f s3 q3 => ?_)
    cases f with
    | next =>
      obtain ⟨σ3, H3, I3, n3⟩ := q3
      obtain ⟨m', hm, w3⟩ := hN σ3 H3 n3
      exact ⟨m', hm, σ3, H3, I3, w3⟩
    | cont =>
      obtain ⟨σ3, H3, I3, n3⟩ := q3
      obtain ⟨m', hm, w3⟩ := hN σ3 H3 n3
      exact ⟨m', hm, σ3, H3, I3, w3⟩
    | brk => exact q3
    | ret v => exact q3
  | false =>
    rw [if_neg Bool.false_ne_true]
    exact wpAny_execs_nil ⟨σ1, H2, I2, q2⟩
end
structure It where
  go : Nat → Hp → Prop
  yld : Nat → Hp → V → Hp → Prop
  stop : Nat → Hp → Prop
def FpOk (X : Cx) (pins : List (Addr × Obj)) (H : Hp) (b : Addr) : Prop :=
  H b = none ∧ b ≠ X.env.locals ∧ b ∉ X.fs ∧ (b ∈ X.ex ∨ X.s₀.heap.objs.size ≤ b) ∧ (∀ x c, X.env.cells.lookup x = some c → c ≠ b) ∧ ∀ p ∈ X.pn ++ pins, p.1 ≠ b
theorem Inv.fpOk {X : Cx} {pins : List (Addr × Obj)} {σ : St} {H H' : Hp} {s : Shared} {b : Addr} (I : Inv X pins σ H s) (hb : s.heap.objs.size ≤ b) (hn : H' b = none) : FpOk X pins H' b := by
  refine ⟨hn, Nat.ne_of_gt (Nat.lt_of_lt_of_le I.lt hb), I.nofs hb, .inr (Nat.le_trans I.sz hb), fun x c e z => ?_, fun p hp z => ?_⟩
  · obtain ⟨v, q⟩ := I.cell x c e
    exact absurd (Nat.lt_of_lt_of_le q.lt (by rw [z]; exact hb)) (Nat.lt_irrefl _)
  · exact absurd (Nat.lt_of_lt_of_le (Heap.lt_size (I.pin p hp).1) (by rw [z]; exact hb)) (Nat.lt_irrefl _)
structure Turn (P : Program) (w : World) (K : PySem.W.Frag) (tg : Expr) (J : It) (fp : List Addr) (it : Addr) (tn : Nat → Heap → Prop) : Prop where
  mem : it ∈ fp
  obj : ∀ i h, tn i h → ∀ b ∈ fp, ∃ o, h.get? b = some o ∧ ∀ v, o.data ≠ .cell v
  keep : ∀ i h h', tn i h → (∀ b ∈ fp, ∀ o, h.get? b = some o → h'.get? b = some o) → tn i h'
  item : ∀ (X : Cx), X.prog = P → X.w = w → X.K = K → X.calm = true → ∀ (i : Nat) (pins : List (Addr × Obj)) (s : Shared) (σ : St) (H : Hp) (E : Value → Shared → Prop), Inv X pins σ H s → (∀ b ∈ fp, FpOk X pins H b) → tn i s.heap → J.go i H →
    wpAny (model P w) X.A (pyNext (.ref it)) (fun r s1 => ∃ u, r = some u ∧
      wpAny (model P w) X.A (letOwnedTupleGo tg (.ref it) u) (fun _ s2 => ∃ x H', Inv X pins σ H' s2 ∧ RelV x u ∧ J.yld i H x H' ∧ tn (i + 1) s2.heap ∧ ∀ b ∈ fp, H' b = none) E s1) E s
  done : ∀ (X : Cx), X.prog = P → X.w = w → X.K = K → X.calm = true → ∀ (i : Nat) (pins : List (Addr × Obj)) (s : Shared) (σ : St) (H : Hp) (E : Value → Shared → Prop), Inv X pins σ H s → (∀ b ∈ fp, FpOk X pins H b) → tn i s.heap → J.stop i H →
    wpAny (model P w) X.A (pyNext (.ref it)) (fun r s1 => r = none ∧ Inv X pins σ H s1) E s
  self : ∀ (A : Around) (i : Nat) (s : Shared) (Q : Value → Shared → Prop) (E : Value → Shared → Prop), tn i s.heap → Q (.ref it) s → wpAny (model P w) A (pyIter (.ref it)) Q E s
abbrev TI := St → Hp → (It → Hp → Prop) → Prop
def PIE (X : Cx) (pins : List (Addr × Obj)) (σ : St) (tg : Expr) (R : It → Hp → Prop) (itv : Value) (s2 : Shared) : Prop :=
  ∃ (it : Addr) (fp : List Addr) (tn : Nat → Heap → Prop) (J : It) (H' : Hp), itv = .ref it ∧ Inv X pins σ H' s2 ∧ Turn X.prog X.w X.K tg J fp it tn ∧ tn 0 s2.heap ∧ (∀ b ∈ fp, FpOk X pins H' b) ∧ R J H'
def PI (X : Cx) (tg iter : Expr) (wi : TI) : Prop :=
  ∀ (pins : List (Addr × Obj)) (s : Shared) (σ : St) (H : Hp) (R : It → Hp → Prop), Inv X pins σ H s → wi σ H R →
    wpAny (model X.prog X.w) X.A (eval iter X.env) (fun v s1 => wpAny (model X.prog X.w) X.A (pyIter v) (PIE X pins σ tg R) X.xe s1) X.xe s
theorem go_of {M : Model} {A : Around} {E : Value → Shared → Prop} {s : Shared} {tg : Expr} {it : Addr} {u : Value} {o : Obj} {n : String} {vs : Array Value} {Q : Unit → Shared → Prop} (ho : s.heap.get? it = some o) (hc : o.cls = .type n) (hd : o.data = .fields vs)
    (hn : ["enumerate", "zip", "dict_itemiterator", "dict_reverseitemiterator", "odict_iterator", "itertools.zip_longest", "itertools.pairwise"].contains n = false) (hQ : Q () s) : wpAny M A (letOwnedTupleGo tg (.ref it) u) Q E s := by
  unfold letOwnedTupleGo
  cases tg <;> first
    | exact wpAny_pure hQ
    | (cases u <;> first
        | exact wpAny_pure hQ
        | (refine wpAny_bind (wpAny_load ho ?_)
           rw [hc, hd]
           show wpAny M A (if (["enumerate", "zip", "dict_itemiterator", "dict_reverseitemiterator", "odict_iterator", "itertools.zip_longest", "itertools.pairwise"].contains n && vs[0]? == some (rawInt _)) = true then _ else _) Q E s
           rw [if_neg (by intro h; rw [hn, Bool.false_and] at h; cases h)]
           exact wpAny_pure hQ))
def Itl (K : PySem.W.Frag) (a : Addr) : It :=
  ⟨fun i H => ∃ xs x, SqL K H a xs ∧ xs[i]? = some x, fun i H x H' => H' = H ∧ ∀ xs, SqL K H a xs → xs[i]? = some x, fun i H => ∃ xs, SqL K H a xs ∧ xs.length ≤ i⟩
def Itr (lo : Int) (n : Nat) : It := ⟨fun i _ => i < n, fun i H x H' => H' = H ∧ x = .int (lo + i), fun i _ => n ≤ i⟩
theorem turn_list {P : Program} {w : World} {K : PySem.W.Frag} {tg : Expr} (a it : Addr) : Turn P w K tg (Itl K a) [it] it (fun i h => h.IsListIter it a i) where
  mem := by simp
  obj := fun i h st b hb => by
    have e : b = it := by simpa using hb
    subst e
    obtain ⟨o, e, c, d⟩ := st
    exact ⟨o, e, fun v z => by rw [d] at z; cases z⟩
  keep := fun i h h' st k => st.at fun o e => k it (by simp) o e
  item := by
    intro X hP hw hK hc i pins s σ H E I hf st hg
    subst hP hw hK
    obtain ⟨xs, x, hq, hx⟩ := hg
    obtain ⟨its, rv, p, hz⟩ := I.list hq
    obtain ⟨u, hu, ru⟩ := rv.get hx
    obtain ⟨f0, f1, f2, f3, f4, f5⟩ := hf it (by simp)
    refine wpAny_pyNext_list_item st p.isList (x := u) (by simpa using hu) fun h' st' sb => ?_
    have I1 : Inv X pins σ H { s with heap := h' } := I.turned (t' := s.toks) (fun b o hb e => (sb.2 b hb).trans e) f0 f1 f3 f4 f5
    obtain ⟨o, e, c, d⟩ := id st'
    exact ⟨u, rfl, go_of (s := { s with heap := h' }) e c d (by decide) ⟨x, H, I1, ru, ⟨rfl, fun ys hy => by rw [I.list_inj hy hq]; exact hx⟩, st', fun b hb => (hf b hb).1⟩⟩
  done := by
    intro X hP hw hK hc i pins s σ H E I hf st hg
    subst hP hw hK
    obtain ⟨xs, hq, hx⟩ := hg
    obtain ⟨its, rv, p, hz⟩ := I.list hq
    obtain ⟨f0, f1, f2, f3, f4, f5⟩ := hf it (by simp)
    have hl := rv.length
    exact wpAny_pyNext_list_end (I.ok.hd hc) st p.isList (by simp; omega) fun h' eb => ⟨rfl, I.turned (t' := s.toks) (fun b o hb e => eb b o hb e) f0 f1 f3 f4 f5⟩
  self := fun _ _ _ _ _ st h => wpAny_pyIter_listiter st h
theorem turn_range {P : Program} {w : World} {K : PySem.W.Frag} {tg : Expr} (it : Addr) (lo : Int) (n : Nat) : Turn P w K tg (Itr lo n) [it] it (fun i h => IsRangeIter h it (lo + (i : Nat) * 1) ((n : Int) - (i : Nat)) 1) where
  mem := by simp
  obj := fun i h st b hb => by
    have e : b = it := by simpa using hb
    subst e
    exact ⟨_, st, fun v z => by
      have z' : Data.fields _ = Data.cell v := z
      cases z'⟩
  keep := fun i h h' st k => k it (by simp) _ st
  item := by
    intro X hP hw hK hc i pins s σ H E I hf st hg
    subst hP hw hK
    obtain ⟨f0, f1, f2, f3, f4, f5⟩ := hf it (by simp)
    have W := Walks.range (prog := X.prog) (w := X.w) (I.ok.hd hc) it lo 1 n
    refine W.item i s _ _ hg st fun v h' tk hv st' kk => ?_
    obtain ⟨t, rfl⟩ := hv
    have I1 : Inv X pins σ H { s with heap := h', toks := tk } := I.turned (fun b o hb e => kk b o (by simpa using hb) e) f0 f1 f3 f4 f5
    refine ⟨_, rfl, go_of (s := { s with heap := h', toks := tk }) (n := "range_iterator") st' rfl rfl (by decide) ⟨.int (lo + i), H, I1, ⟨t, ?_⟩, ⟨rfl, rfl⟩, st', fun b hb => (hf b hb).1⟩⟩
    rw [Int.mul_one]
  done := by
    intro X hP hw hK hc i pins s σ H E I hf st hg
    subst hP hw hK
    obtain ⟨f0, f1, f2, f3, f4, f5⟩ := hf it (by simp)
    exact wpAny_pyNext_range_end (I.ok.hd hc) st (by have : n ≤ i := hg; omega) fun h' eb => ⟨rfl, I.turned (t' := s.toks) (fun b o hb e => eb b o hb e) f0 f1 f3 f4 f5⟩
  self := fun _ _ _ _ _ st h => wpAny_pyIter_rangeiter st h
end L2
namespace L2
open PySem PySem.Spec PyProof.Rows
section
variable {X : Cx} {tg : Expr}
def iList (K : PySem.W.Frag) (tl : TE) : TI := fun σ H R => tl σ H fun x H1 => ∃ a, x = .ref a ∧ (∃ xs, SqL K H1 a xs) ∧ R (Itl K a) H1
theorem pi_list {l : Expr} {tl : TE} (hl : PE X l tl) : PI X tg l (iList X.K tl) := by
  intro pins s σ H R I h
  refine thn (hl pins s σ H _ I h) fun v s1 ⟨x, H1, I1, r1, q1⟩ => ?_
  obtain ⟨a, e, ⟨xs, hq⟩, q⟩ := q1
  subst e
  cases r1
  obtain ⟨its, rv, p, hz⟩ := I1.list hq
  refine wpAny_pyIter_list p.isList ?_
  refine ⟨s1.heap.objs.size, [s1.heap.objs.size], _, _, H1, rfl, I1.kept (t' := s1.toks) fun b o e => Heap.get?_push_of_some _ e, turn_list a _, ⟨_, Heap.get?_push_size _ rfl, rfl, rfl⟩, fun b hb => ?_, q⟩
  have e : b = s1.heap.objs.size := by simpa using hb
  subst e
  exact I1.fpOk (Nat.le_refl _) (I1.hok.fresh (Nat.le_refl _))
theorem range_it {pins : List (Addr × Obj)} {σ : St} {H : Hp} {s : Shared} {R : It → Hp → Prop} {E : Value → Shared → Prop} {lo hi : Int} {t u v : Tok} {tk : Nat} (I : Inv X pins σ H s) (h1 : -(2 ^ 62) ≤ lo) (h2 : lo < 2 ^ 62) (h3 : -(2 ^ 62) ≤ hi) (h4 : hi < 2 ^ 62)
    (q : R (Itr lo (hi - lo).toNat) H) : wpAny (model X.prog X.w) X.A (pyIter (.ref s.heap.objs.size)) (PIE X pins σ tg R) E { s with heap := s.heap.push { cls := .type "range", data := .fields #[.int lo t, .int hi u, .int 1 v] }, toks := tk } := by
  refine wpAny_pyIter_range (IsRange.new ..) (small_one h1 h2 h3 h4) ?_
  have I1 : Inv X pins σ H { s with heap := s.heap.push { cls := .type "range", data := .fields #[.int lo t, .int hi u, .int 1 v] }, toks := tk } := I.kept fun b o e => Heap.get?_push_of_some _ e
  refine ⟨(s.heap.push { cls := .type "range", data := .fields #[.int lo t, .int hi u, .int 1 v] }).objs.size, [(s.heap.push { cls := .type "range", data := .fields #[.int lo t, .int hi u, .int 1 v] }).objs.size], _, _, H, rfl,
    I1.kept (t' := tk) fun b o e => Heap.get?_push_of_some _ e, turn_range _ lo (hi - lo).toNat, ?_, fun b hb => ?_, q⟩
  · have e1 : lo + ((0 : Nat) : Int) * 1 = lo := by simp
    have e2 : (((hi - lo).toNat : Nat) : Int) - ((0 : Nat) : Int) = Builtin.Range.rangeSize lo hi 1 := by rw [rangeSize_one]; split <;> omega
    show IsRangeIter _ _ (lo + ((0 : Nat) : Int) * 1) ((((hi - lo).toNat : Nat) : Int) - ((0 : Nat) : Int)) 1
    rw [e1, e2]
    exact Heap.get?_push_size _ rfl
  · have e : b = (s.heap.push { cls := .type "range", data := .fields #[.int lo t, .int hi u, .int 1 v] }).objs.size := by simpa using hb
    subst e
    exact I1.fpOk (Nat.le_refl _) (I1.hok.fresh (Nat.le_refl _))
def iRng1 (ta : TA) : TI := fun σ H R => ta σ H fun vs H1 => ∃ j : Int, vs = [.int j] ∧ -(2 ^ 62) ≤ j ∧ j < 2 ^ 62 ∧ R (Itr 0 j.toNat) H1
def iRng2 (ta : TA) : TI := fun σ H R => ta σ H fun vs H1 => ∃ i j : Int, vs = [.int i, .int j] ∧ (-(2 ^ 62) ≤ i ∧ i < 2 ^ 62 ∧ -(2 ^ 62) ≤ j ∧ j < 2 ^ 62) ∧ R (Itr i (j - i).toNat) H1
theorem pi_range1 {a : Expr} {ta : TA} {p pos : Pos} (hg : Gl X "range") (hm : X.mg "range" = none) (ha : PA X [a] ta) (hs : starEach [a] X.env = [(false, eval a X.env)] := by rfl) : PI X tg (.Call (.Name "range" p) [a] [] pos) (iRng1 ta) := by
  intro pins s σ H R I h
  refine Call_ (ld_blt I hg hm boot_range (PyProof.Rows.callWith_type1 (thn (ha pos pins s σ H _ I h) fun us s1 ⟨vs, H1, I1, r1, q1⟩ => ?_) hs rfl))
  obtain ⟨j, e, q1, q2, q⟩ := q1
  subst e
  cases r1 with
  | cons r rr =>
    cases rr
    obtain ⟨t, rfl⟩ := r
    exact call_range_1 (range_it I1 (by omega) (by omega) q1 q2 (by simpa using q))
theorem pi_range2 {a b : Expr} {ta : TA} {p pos : Pos} (hg : Gl X "range") (hm : X.mg "range" = none) (ha : PA X [a, b] ta) (hs : starEach [a, b] X.env = [(false, eval a X.env), (false, eval b X.env)] := by rfl) (hs2 : starEach [b] X.env = [(false, eval b X.env)] := by rfl) :
    PI X tg (.Call (.Name "range" p) [a, b] [] pos) (iRng2 ta) := by
  intro pins s σ H R I h
  refine Call_ (ld_blt I hg hm boot_range (PyProof.Rows.callWith_type1 (thn (ha pos pins s σ H _ I h) fun us s1 ⟨vs, H1, I1, r1, q1⟩ => ?_) (by rw [hs, hs2]) (by rw [hs2]; rfl)))
  obtain ⟨i, j, e, ⟨q1, q2, q3, q4⟩, q⟩ := q1
  subst e
  cases r1 with
  | cons r rr =>
    cases rr with
    | cons r' rr =>
      cases rr
      obtain ⟨t, rfl⟩ := r
      obtain ⟨t', rfl⟩ := r'
      exact call_range_2 (range_it I1 q1 q2 q3 q4 q)
def tFor (wi : TI) (g : TG) (tb : TS) : TS := fun D σ H => wi σ H fun J H1 => ∃ W : Nat → Nat → St → Hp → Prop, (∃ m, W 0 m σ H1) ∧ ∀ i m σ H, W i m σ H →
  (J.stop i H ∧ D.nx σ H) ∨ (J.go i H ∧ ∃ N : St → Hp → Prop, (∀ σ' H', N σ' H' → ∃ m', m' < m ∧ W (i + 1) m' σ' H') ∧ ∀ x H', J.yld i H x H' → g x σ H' fun σ2 H2 => tb { D with nx := N, ct := N, bk := D.nx } σ2 H2)
def pinsAt (fp : List Addr) (h : Heap) : List (Addr × Obj) := fp.filterMap fun b => (h.get? b).map fun o => (b, o)
theorem mem_pinsAt {fp : List Addr} {h : Heap} {b : Addr} {o : Obj} (hb : b ∈ fp) (e : h.get? b = some o) : (b, o) ∈ pinsAt fp h := List.mem_filterMap.mpr ⟨b, hb, by rw [e]; rfl⟩
theorem of_pinsAt {fp : List Addr} {h : Heap} {p : Addr × Obj} (hp : p ∈ pinsAt fp h) : p.1 ∈ fp ∧ h.get? p.1 = some p.2 := by
  obtain ⟨b, hb, e⟩ := List.mem_filterMap.mp hp
  cases q : h.get? b with
  | none => rw [q] at e; cases e
  | some o =>
    rw [q] at e
    have e' : (b, o) = p := Option.some.inj e
    subst e'
    exact ⟨hb, q⟩
theorem Inv.pinned {pins : List (Addr × Obj)} {σ : St} {H : Hp} {s : Shared} {fp : List Addr} (I : Inv X pins σ H s) (hf : ∀ b ∈ fp, FpOk X pins H b) (ho : ∀ b ∈ fp, ∃ o, s.heap.get? b = some o ∧ ∀ v, o.data ≠ .cell v) : Inv X (pins ++ pinsAt fp s.heap) σ H s :=
  I.pins_of fun p hp => (List.mem_append.mp hp).elim (fun z => I.pin p (List.mem_append_right _ z)) fun z => by
    obtain ⟨hb, e⟩ := of_pinsAt z
    obtain ⟨f0, f1, f2, _⟩ := hf p.1 hb
    obtain ⟨o, e', d⟩ := ho p.1 hb
    rw [e] at e'; cases e'
    exact ⟨e, f0, f1, f2, d⟩
theorem Inv.unpinned {pins pl : List (Addr × Obj)} {σ : St} {H : Hp} {s : Shared} (I : Inv X (pins ++ pl) σ H s) : Inv X pins σ H s := I.pins_of fun p hp => I.pin p (List.mem_append_right _ (List.mem_append_left _ hp))
theorem ps_for {iter : Expr} {body : List Stmt} {wi : TI} {g : TG} {tb : TS} {pos : Pos} (hp : PassesOwn (model X.prog X.w) X.A X.env X.xe) (hc : X.calm = true) (hi : PI X tg iter wi) (hg : PG X tg g) (hb : PSs X body tb)
    (hs : ∀ x, foldedSetIterable iter X.env x = pure x := by intro _; rfl) : PS X (.For tg iter body [] pos) (tFor wi g tb) := by
  intro pins s σ H D I h
  refine wpAny_For (thn (hi pins s σ H _ I h) fun v s1 h1 => thn h1 fun itv s2 h2 => ?_) hs
  obtain ⟨it, fp, tn, J, H2, e, I2, T, st2, f2, W, ⟨m0, w0⟩, turn⟩ := h2
  subst e
  have stat : ∀ {H' : Hp}, (∀ b ∈ fp, H' b = none) → ∀ b ∈ fp, FpOk X pins H' b := fun hn b hb => ⟨hn b hb, (f2 b hb).2⟩
  refine codeAny_forLoop_any (fun n s' => ∃ i σ' H', Inv X pins σ' H' s' ∧ tn i s'.heap ∧ (∀ b ∈ fp, H' b = none) ∧ W i n σ' H') ?_ m0 ⟨0, σ, H2, I2, st2, fun b hb => (f2 b hb).1, w0⟩
  rintro n s3 ⟨i, σ3, H3, I3, st3, fr3, w3⟩
  rcases turn i n σ3 H3 w3 with ⟨stop, qn⟩ | ⟨go, N, hN, step⟩
  · refine wpAny_passesOwn hp (thn (T.done X rfl rfl rfl hc i pins s3 σ3 H3 X.xe I3 (stat fr3) st3 stop) fun r s4 ⟨hr, I4⟩ => ?_)
    subst hr
    exact wpAny_execs_nil ⟨σ3, H3, I4, qn⟩
  · refine wpAny_passesOwn hp (thn (T.item X rfl rfl rfl hc i pins s3 σ3 H3 X.xe I3 (stat fr3) st3 go) fun r s4 ⟨u, hr, h4⟩ => ?_)
    subst hr
    refine wpAny_passesOwn hp (thn h4 fun _ s5 ⟨x, H5, I5, r5, y5, st5, fr5⟩ => ?_)
    have I5' := I5.pinned (stat fr5) (T.obj _ _ st5)
    refine wpAny_passesOwn hp (thn (hg _ s5 σ3 H5 x u _ I5' r5 (step x H5 y5)) fun _ s6 ⟨σ6, H6, I6, q6⟩ => ?_)
    refine wpAny_passesOwn hp (thn (hb _ s6 σ6 H6 _ I6 q6) fun f s7 q7 => ?_)
    have again : ∀ {σ7 : St} {H7 : Hp}, Inv X (pins ++ pinsAt fp s5.heap) σ7 H7 s7 → N σ7 H7 → ∃ m, m < n ∧ ∃ i σ' H', Inv X pins σ' H' s7 ∧ tn i s7.heap ∧ (∀ b ∈ fp, H' b = none) ∧ W i m σ' H' := fun {σ7 H7} I7 n7 => by
      obtain ⟨m', hm, w7⟩ := hN σ7 H7 n7
      refine ⟨m', hm, i + 1, σ7, H7, I7.unpinned, T.keep _ _ _ st5 fun b hb o e => (I7.pin (b, o) (List.mem_append_right _ (List.mem_append_right _ (mem_pinsAt hb e)))).1, fun b hb => ?_, w7⟩
      obtain ⟨o, e, d⟩ := T.obj _ _ st5 b hb
      exact (I7.pin (b, o) (List.mem_append_right _ (List.mem_append_right _ (mem_pinsAt hb e)))).2.1
    cases f with
    | next => obtain ⟨σ7, H7, I7, n7⟩ := q7; exact again I7 n7
    | cont => obtain ⟨σ7, H7, I7, n7⟩ := q7; exact again I7 n7
    | brk => obtain ⟨σ7, H7, I7, q7⟩ := q7; exact ⟨σ7, H7, I7.unpinned, q7⟩
    | ret v => obtain ⟨x7, σ7, H7, I7, r7, q7⟩ := q7; exact ⟨x7, σ7, H7, I7.unpinned, r7, q7⟩
end
end L2
namespace L2
open PySem PySem.Spec PyProof.Rows
abbrev R2 := V → V → Hp → VK → Prop
def OpR (X : Cx) (f : Value → Value → Sem Value) (r : R2) : Prop :=
  ∀ (pins : List (Addr × Obj)) (s : Shared) (σ : St) (H : Hp) (x y : V) (v u : Value) (Q : VK), Inv X pins σ H s → RelV x v → RelV y u → r x y H Q →
    wpAny (model X.prog X.w) X.A (f v u) (EP X pins σ Q) X.xe s
def UnR (X : Cx) (f : Value → Sem Value) (r : V → Hp → VK → Prop) : Prop :=
  ∀ (pins : List (Addr × Obj)) (s : Shared) (σ : St) (H : Hp) (x : V) (v : Value) (Q : VK), Inv X pins σ H s → RelV x v → r x H Q →
    wpAny (model X.prog X.w) X.A (f v) (EP X pins σ Q) X.xe s
def CallR (X : Cx) (f : Value) (r : List V → Hp → VK → Prop) : Prop :=
  ∀ (pins : List (Addr × Obj)) (s : Shared) (σ : St) (H : Hp) (xs : List V) (us : List Value) (Q : VK), Inv X pins σ H s → Vals xs us → r xs H Q →
    wpAny (model X.prog X.w) X.A (call f us) (EP X pins σ Q) X.xe s
def tOp (r : R2) (ta tb : TE) : TE := fun σ H Q => ta σ H fun x H1 => tb σ H1 fun y H2 => r x y H2 Q
def tUn (r : V → Hp → VK → Prop) (ta : TE) : TE := fun σ H Q => ta σ H fun x H1 => r x H1 Q
def rI (C : Int → Int → Prop) (g : Int → Int → V) : R2 := fun x y H Q => ∃ i j, x = .int i ∧ y = .int j ∧ C i j ∧ Q (g i j) H
def rI0 (g : Int → Int → V) : R2 := fun x y H Q => ∃ i j, x = .int i ∧ y = .int j ∧ Q (g i j) H
def rU (g : Int → V) : V → Hp → VK → Prop := fun x H Q => ∃ i, x = .int i ∧ Q (g i) H
section
variable {X : Cx} {a b c : Expr} {ta tb tc : TE} {pos : Pos}
theorem binT (ha : PE X a ta) (hb : PE X b tb) {pins : List (Addr × Obj)} {s : Shared} {σ : St} {H : Hp} {R : V → V → Hp → Prop} (I : Inv X pins σ H s)
    (h : ta σ H fun x H1 => tb σ H1 fun y H2 => R x y H2) {Q : Value → Shared → Prop} {f : Value → Value → Sem Value}
    (hf : ∀ v u s2 x y H2, Inv X pins σ H2 s2 → RelV x v → RelV y u → R x y H2 → wpAny (model X.prog X.w) X.A (f v u) Q X.xe s2) :
    wpAny (model X.prog X.w) X.A (eval a X.env) (fun v s₁ => wpAny (model X.prog X.w) X.A (eval b X.env) (fun u s₂ => wpAny (model X.prog X.w) X.A (f v u) Q X.xe s₂) X.xe s₁) X.xe s := by
  refine thn (ha pins s σ H _ I h) fun v s1 ⟨x, H1, I1, r1, q1⟩ => ?_
  refine thn (hb pins s1 σ H1 _ I1 q1) fun u s2 ⟨y, H2, I2, r2, q2⟩ => ?_
  exact hf v u s2 x y H2 I2 r1 r2 q2
theorem pe_op {op : Operator} {r : R2} (ho : OpR X (binaryOp op) r) (ha : PE X a ta) (hb : PE X b tb) : PE X (.BinOp a op b pos) (tOp r ta tb) := by
  intro pins s σ H Q I h
  exact wpAny_BinOp (binT ha hb I h fun v u s2 x y H2 I2 rx ry q => ho pins s2 σ H2 x y v u Q I2 rx ry q)
theorem pe_un {op : UnaryOp} {r : V → Hp → VK → Prop} (ho : UnR X (unaryOp op) r) (ha : PE X a ta) : PE X (.UnaryOp op a pos) (tUn r ta) := by
  intro pins s σ H Q I h
  exact UnaryOp_ (thn (ha pins s σ H _ I h) fun v s1 ⟨x, H1, I1, r1, q1⟩ => ho pins s1 σ H1 x v Q I1 r1 q1)
theorem opI {f : Value → Value → Sem Value} {C : Int → Int → Prop} {g : Int → Int → Int}
    (rule : ∀ (i j : Int) (t u : Tok) (s : Shared) (Q : Value → Shared → Prop) (E : Value → Shared → Prop), C i j → Q (.int (g i j) s.toks) { s with toks := s.toks + 1 } → wpAny (model X.prog X.w) X.A (f (.int i t) (.int j u)) Q E s) :
    OpR X f (rI C fun i j => .int (g i j)) := by
  intro pins s σ H x y v u Q I rx ry h
  obtain ⟨i, j, rfl, rfl, hc, q⟩ := h
  obtain ⟨t, rfl⟩ := rx
  obtain ⟨t', rfl⟩ := ry
  exact rule i j t t' s _ _ hc ⟨.int (g i j), H, I.tok _, ⟨_, rfl⟩, q⟩
theorem opI0 {f : Value → Value → Sem Value} {g : Int → Int → Int}
    (rule : ∀ (i j : Int) (t u : Tok) (s : Shared) (Q : Value → Shared → Prop) (E : Value → Shared → Prop), Q (.int (g i j) s.toks) { s with toks := s.toks + 1 } → wpAny (model X.prog X.w) X.A (f (.int i t) (.int j u)) Q E s) :
    OpR X f (rI0 fun i j => .int (g i j)) := by
  intro pins s σ H x y v u Q I rx ry h
  obtain ⟨i, j, rfl, rfl, q⟩ := h
  obtain ⟨t, rfl⟩ := rx
  obtain ⟨t', rfl⟩ := ry
  exact rule i j t t' s _ _ ⟨.int (g i j), H, I.tok _, ⟨_, rfl⟩, q⟩
theorem opB0 {f : Value → Value → Sem Value} {g : Int → Int → Bool}
    (rule : ∀ (i j : Int) (t u : Tok) (s : Shared) (Q : Value → Shared → Prop) (E : Value → Shared → Prop), Q (.bool (g i j)) s → wpAny (model X.prog X.w) X.A (f (.int i t) (.int j u)) Q E s) :
    OpR X f (rI0 fun i j => .bl (g i j)) := by
  intro pins s σ H x y v u Q I rx ry h
  obtain ⟨i, j, rfl, rfl, q⟩ := h
  obtain ⟨t, rfl⟩ := rx
  obtain ⟨t', rfl⟩ := ry
  exact rule i j t t' s _ _ ⟨.bl (g i j), H, I, rfl, q⟩
def CPow (i j : Int) : Prop := 0 ≤ j ∧ j ≤ 1000000 ∧ i.natAbs < 2 ^ 64
def CMul (i j : Int) : Prop := (-(2 ^ 64) < i ∧ i < 2 ^ 64) ∨ (-(2 ^ 64) < j ∧ j < 2 ^ 64)
theorem CMul.ok {i j : Int} (h : CMul i j) : IntMulOk i j := by
  rcases h with ⟨h1, h2⟩ | ⟨h1, h2⟩
  · exact .of_left (intBits_le_64 h1 h2)
  · exact .of_right (intBits_le_64 h1 h2)
theorem op_add : OpR X (binaryOp .Add) (rI0 fun i j => .int (i + j)) := opI0 fun _ _ _ _ _ _ _ q => add_int q
theorem op_sub : OpR X (binaryOp .Sub) (rI0 fun i j => .int (i - j)) := opI0 fun _ _ _ _ _ _ _ q => sub_int q
theorem op_modN : OpR X (binaryOp .Mod) (rI (fun _ j => j ≠ 0) fun i j => .int (i.fmod j)) := opI fun _ _ _ _ _ _ _ hc q => mod_int' hc q
theorem op_pow : OpR X (binaryOp .Pow) (rI CPow fun i j => .int (i ^ j.toNat)) := opI fun _ _ _ _ _ _ _ hc q => pow_int_small hc.1 hc.2.1 hc.2.2 q
theorem unI {f : Value → Sem Value} {g : Int → Int}
    (rule : ∀ (i : Int) (t : Tok) (s : Shared) (Q : Value → Shared → Prop) (E : Value → Shared → Prop), Q (.int (g i) s.toks) { s with toks := s.toks + 1 } → wpAny (model X.prog X.w) X.A (f (.int i t)) Q E s) :
    UnR X f (rU fun i => .int (g i)) := by
  intro pins s σ H x v Q I rx h
  obtain ⟨i, rfl, q⟩ := h
  obtain ⟨t, rfl⟩ := rx
  exact rule i t s _ _ ⟨.int (g i), H, I.tok _, ⟨_, rfl⟩, q⟩
theorem un_neg : UnR X (unaryOp .USub) (rU fun i => .int (-i)) := unI fun _ _ _ _ _ q => neg_int q
end
section
variable {X : Cx} {a b c : Expr} {ta tb tc : TE} {pos : Pos}
theorem op_lt : OpR X (compareOp .Lt) (rI0 fun i j => .bl (decide (i < j))) := opB0 fun _ _ _ _ _ _ _ q => lt_int q
theorem op_le : OpR X (compareOp .LtE) (rI0 fun i j => .bl (decide (i ≤ j))) := opB0 fun _ _ _ _ _ _ _ q => le_int q
theorem op_gt : OpR X (compareOp .Gt) (rI0 fun i j => .bl (decide (j < i))) := opB0 fun _ _ _ _ _ _ _ q => gt_int q
theorem op_ge : OpR X (compareOp .GtE) (rI0 fun i j => .bl (decide (j ≤ i))) := opB0 fun _ _ _ _ _ _ _ q => ge_int q
theorem OpR.or {f : Value → Value → Sem Value} {r r' : R2} (h : OpR X f r) (h' : OpR X f r') : OpR X f (fun x y H Q => r x y H Q ∨ r' x y H Q) := by
  intro pins s σ H x y v u Q I rx ry q
  rcases q with q | q
  · exact h pins s σ H x y v u Q I rx ry q
  · exact h' pins s σ H x y v u Q I rx ry q
theorem nomark (b : Expr) {op : CmpOp} (h : op ≠ .In := by decide) (h2 : op ≠ .NotIn := by decide) : behindInMarks op b = false := by
  have e1 : (op == CmpOp.In) = false := by cases op <;> first | rfl | exact absurd rfl h
  have e2 : (op == CmpOp.NotIn) = false := by cases op <;> first | rfl | exact absurd rfl h2
  cases b <;> simp [behindInMarks, e1, e2]
theorem pe_cmpR {op : CmpOp} {r : R2} (ho : OpR X (compareOp op) r) (ha : PE X a ta) (hb : PE X b tb) (hm : behindInMarks op b = false) : PE X (.Compare a [op] [b] pos) (tOp r ta tb) := by
  intro pins s σ H Q I h
  exact wpAny_Compare1 (binT ha hb I h fun v u s2 x y H2 I2 rx ry q => ho pins s2 σ H2 x y v u Q I2 rx ry q) hm
def tTest (t : TE) : TT := fun σ H Q => t σ H fun x H' => ∃ k, x = .bl k ∧ Q k H'
theorem pt_cmpR {op : CmpOp} {r : R2} (ho : OpR X (compareOp op) r) (ha : PE X a ta) (hb : PE X b tb) (hm : behindInMarks op b = false) : PT X (.Compare a [op] [b] pos) (tTest (tOp r ta tb)) := by
  intro pins s σ H Q I h
  refine wpAny_isTrue_Compare1 (thn (ha pins s σ H _ I h) fun v s1 ⟨x, H1, I1, r1, q1⟩ => thn (hb pins s1 σ H1 _ I1 q1) fun u s2 ⟨y, H2, I2, r2, q2⟩ =>
    thn (ho pins s2 σ H2 x y v u _ I2 r1 r2 q2) fun c s3 ⟨z, H3, I3, r3, k, e, q3⟩ => ?_) hm
  subst e
  cases r3
  exact wpAny_truthy_bool ⟨H3, I3, q3⟩
def tChain (r r' : R2) (ta tb tc : TE) : TE := fun σ H Q => ta σ H fun x H1 => tb σ H1 fun y H2 => r x y H2 fun z H3 => ∃ k, z = .bl k ∧
  (if k = true then tc σ H3 fun w' H4 => r' y w' H4 Q else Q (.bl false) H3)
theorem pe_chain {op op' : CmpOp} {r r' : R2} (ho : OpR X (compareOp op) r) (ho' : OpR X (compareOp op') r') (ha : PE X a ta) (hb : PE X b tb) (hc : PE X c tc)
    (hm : lastMarks [op, op'] [b, c] = false := by with_unfolding_all rfl) : PE X (.Compare a [op, op'] [b, c] pos) (tChain r r' ta tb tc) := by
  intro pins s σ H Q I h
  refine Compare_chain (thn (ha pins s σ H _ I h) fun v s1 ⟨x, H1, I1, r1, q1⟩ => chain_link (thn (hb pins s1 σ H1 _ I1 q1) fun u s2 ⟨y, H2, I2, r2, q2⟩ =>
    thn (ho pins s2 σ H2 x y v u _ I2 r1 r2 q2) fun d s3 ⟨z, H3, I3, r3, k, e, q3⟩ => ?_)) hm
  subst e
  cases r3
  refine wpAny_truthy_bool ?_
  cases k with
  | false => exact ite_ff ⟨.bl false, H3, I3, rfl, q3⟩
  | true => exact ite_tt (chain_last (thn (hc pins s3 σ H3 _ I3 q3) fun w' s4 ⟨z', H4, I4, r4, q4⟩ => ho' pins s4 σ H4 y z' u w' Q I4 r2 r4 q4))
theorem pt_chain {op op' : CmpOp} {r r' : R2} (ho : OpR X (compareOp op) r) (ho' : OpR X (compareOp op') r') (ha : PE X a ta) (hb : PE X b tb) (hc : PE X c tc)
    (hm : lastMarks [op, op'] [b, c] = false := by with_unfolding_all rfl) : PT X (.Compare a [op, op'] [b, c] pos) (tTest (tChain r r' ta tb tc)) := by
  intro pins s σ H Q I h
  refine isTrue_chain (thn (ha pins s σ H _ I h) fun v s1 ⟨x, H1, I1, r1, q1⟩ => test_link (thn (hb pins s1 σ H1 _ I1 q1) fun u s2 ⟨y, H2, I2, r2, q2⟩ =>
    thn (ho pins s2 σ H2 x y v u _ I2 r1 r2 q2) fun d s3 ⟨z, H3, I3, r3, k, e, q3⟩ => ?_)) hm
  subst e
  cases r3
  refine wpAny_truthy_bool ?_
  cases k with
  | false =>
    obtain ⟨k', e', q'⟩ := q3
    cases e'
    exact ite_ff ⟨H3, I3, q'⟩
  | true =>
    refine ite_tt (test_last (thn (hc pins s3 σ H3 _ I3 q3) fun w' s4 ⟨z', H4, I4, r4, q4⟩ => thn (ho' pins s4 σ H4 y z' u w' _ I4 r2 r4 q4) fun d' s5 ⟨z2, H5, I5, r5, k2, e2, q5⟩ => ?_))
    subst e2
    cases r5
    exact wpAny_truthy_bool ⟨H5, I5, q5⟩
theorem line63 : (sizeLine : Nat) < 2 ^ 63 := by rw [sizeLine_eq]; decide
theorem vals1 {x : V} {us : List Value} (r : Vals [x] us) : ∃ u, us = [u] ∧ RelV x u := by
  cases r with
  | cons r1 r2 => cases r2; exact ⟨_, rfl, r1⟩
theorem vals2 {x y : V} {us : List Value} (r : Vals [x, y] us) : ∃ u w', us = [u, w'] ∧ RelV x u ∧ RelV y w' := by
  cases r with
  | cons r1 r2 =>
    cases r2 with
    | cons r3 r4 => cases r4; exact ⟨_, _, rfl, r1, r3⟩
theorem call_abs : CallR X (.builtin "abs") (fun xs H Q => ∃ i, xs = [.int i] ∧ Q (.int (if i < 0 then -i else i)) H) := by
  intro pins s σ H xs us Q I r h
  obtain ⟨i, rfl, q⟩ := h
  obtain ⟨u, rfl, t, rfl⟩ := vals1 r
  exact call_abs_int fun u tk => ⟨.int (if i < 0 then -i else i), H, I.tok _, ⟨_, rfl⟩, q⟩
theorem call_min2 (hc : X.calm = true) : CallR X (.builtin "min") (fun xs H Q => ∃ i j, xs = [.int i, .int j] ∧ Q (.int (if j < i then j else i)) H) := by
  intro pins s σ H xs us Q I r h
  obtain ⟨i, j, rfl, q⟩ := h
  obtain ⟨u, w', rfl, ⟨t, rfl⟩, ⟨t', rfl⟩⟩ := vals2 r
  refine min_two_ints (I.ok.hd hc) fun h' tk k => ⟨_, H, I.kept k, ?_, q⟩
  by_cases hj : j < i
  · rw [if_pos hj, if_pos hj]; exact ⟨_, rfl⟩
  · rw [if_neg hj, if_neg hj]; exact ⟨_, rfl⟩
theorem call_int1 : CallR X (.type "int") (fun xs H Q => (∃ i, xs = [.int i] ∧ Q (.int i) H) ∨ ∃ k, xs = [.bl k] ∧ Q (.int (if k then 1 else 0)) H) := by
  intro pins s σ H xs us Q I r h
  rcases h with ⟨i, rfl, q⟩ | ⟨k, rfl, q⟩
  · obtain ⟨u, rfl, t, rfl⟩ := vals1 r
    exact call_int_int ⟨.int i, H, I, ⟨_, rfl⟩, q⟩
  · obtain ⟨u, rfl, r1⟩ := vals1 r
    cases r1
    exact call_int_bool ⟨.int (if k then 1 else 0), H, I.tok _, ⟨_, rfl⟩, q⟩
end
end L2
namespace L2
open PySem PySem.Spec PyProof.Rows
structure ObjM (h : Heap) (x dx C : Addr) (mA : Str → Option Value) : Prop where
  obj : h.get? x = some (PySem.W.instObj C dx)
  ns : h.Ns1 dx mA
  ne : dx ≠ x
theorem lookIn_ns {h : Heap} {dx : Addr} {mA : Str → Option Value} (n : h.Ns1 dx mA) : ∃ od, h.get? dx = some od ∧ ∀ name, PySem.W.lookIn name od = some (mA name) := by
  obtain ⟨o, es, ep, ho, hd, hk, _, hm⟩ := n
  refine ⟨o, ho, fun name => ?_⟩
  have e := hm name
  unfold nsFind findBy at e
  rw [← Array.find?_toList] at e
  unfold PySem.W.lookIn
  rw [hd]
  dsimp only
  split
  · rename_i y q
    rw [q] at e
    exact congrArg some e
  · rename_i q
    rw [q] at e
    have a : es.toList.any (·.refKey) = false := by
      rw [List.any_eq_false]
      intro y hy
      obtain ⟨z, t, hkey⟩ := hk y (Array.mem_toList_iff.mp hy)
      simp [DictEntry.refKey, hkey]
    have a' : ¬ es.toList.any (·.refKey) = true := by rw [a]; exact Bool.false_ne_true
    rw [if_neg a']
    exact congrArg some e
theorem ObjM.look {h : Heap} {x dx C : Addr} {mA : Str → Option Value} (I : ObjM h x dx C mA) : ∃ od, PySem.W.InstAt h x (PySem.W.instObj C dx) C (some od) ∧ ∀ name, PySem.W.lookIn name od = some (mA name) :=
  let ⟨od, ho, hl⟩ := lookIn_ns I.ns
  ⟨od, ⟨I.obj, rfl, rfl, ho⟩, hl⟩
section
variable {prog : Program} {w : World} {A : Around} {E : Value → Shared → Prop} {s : Shared} {K : PySem.W.Frag} {x dx C f : Addr} {mA : Str → Option Value} {name : Str} {v : Value}
end
section
variable {P : Program} {w : World} {H H' : Hp} {h h' : Heap} {a C dx : Addr} {fs fs' : List (Str × V)}
theorem ins_get (hok : HOk P w H h) (e : H a = some (.ins C dx fs)) : ∃ mA, ObjM h a dx C mA ∧ (∀ f, RelO (fs.lookup f) (mA f)) ∧ PySem.Within mA (fs.map (·.1)) ∧ fs.length ≤ 1000 ∧ H dx = some (.own a) := by
  obtain ⟨d, z, ne, ob, mA, n, r, q⟩ := (show ObjOk P w H h a (.ins C dx fs) from hok a _ e)
  exact ⟨mA, ⟨ob, n, ne⟩, r, q, z, d⟩
end
structure Cls (K : PySem.W.Frag) (C : Addr) : Prop where
  pg : PySem.W.plainGet K C Str.empty = true
  hd : PySem.W.hasDictIn K C = true
  po : PySem.W.plainOver K C = true
  sa : PySem.W.findIn K (.ref C) "__setattr__" = some (some (.builtin "object.__setattr__"))
theorem Cls.get {K : PySem.W.Frag} {C : Addr} (c : Cls K C) (f : Str) : PySem.W.plainGet K C f = true := c.pg
structure Con (K : PySem.W.Frag) (C : Addr) (f : Str) (v : V) (u : Value) : Prop where
  at_ : PySem.W.findIn K (.ref C) f = some (some u)
  rel : RelV v u
  get : PySem.W.specialIn K u "__get__" = some none
  cp : PySem.W.copiedNames.contains f = false
structure Meth (K : PySem.W.Frag) (C : Addr) (m : Str) (f : Addr) : Prop where
  at_ : PySem.W.findIn K (.ref C) m = some (some (.ref f))
  fn : PySem.W.isFn K (.ref f) = true
  kp : PySem.W.keepIn K (.ref f) = true
section
variable {X : Cx} {pins : List (Addr × Obj)} {σ : St} {H : Hp} {s : Shared} {a C dx : Addr} {fs : List (Str × V)} {f : Str} {v : V} {A : Around} {E : Value → Shared → Prop}
end
section
variable {X : Cx} {o e value : Expr} {f : Str} {pos pos' tpos : Pos} {ta tv : TE}
end
section
variable {X : Cx} {pins : List (Addr × Obj)} {σ : St} {H : Hp} {s : Shared} {A : Around} {E : Value → Shared → Prop} {Q : Value → Shared → Prop} {c : Value} {b : Bool}
inductive TyOf (K : PySem.W.Frag) (H : Hp) : V → Value → Prop where
  | non : TyOf K H .non (.type "NoneType")
  | bl (x : Bool) : TyOf K H (.bl x) (.type "bool")
  | int (i : Int) : TyOf K H (.int i) (.type "int")
  | str (x : Str) : TyOf K H (.str x) (.type "str")
  | flt (x : UInt64) : TyOf K H (.flt x) (.type "float")
  | lst {a : Addr} {xs : List V} (e : H a = some (.lst xs)) : TyOf K H (.ref a) (.type "list")
  | frz {a : Addr} {o : Obj} {xs : List V} (e : H a = some (.frz o (.lst xs))) : TyOf K H (.ref a) (.type "list")
  | tup {a : Addr} {xs : List V} (e : H a = some (.tup xs)) : TyOf K H (.ref a) (.type "tuple")
  | dK {a : Addr} {kvs : List (Key × V)} (e : H a = some (.dK kvs)) : TyOf K H (.ref a) (.type "dict")
  | dT {a : Addr} {kvs : List (List Key × V)} (e : H a = some (.dT kvs)) : TyOf K H (.ref a) (.type "dict")
  | ins {a C dx : Addr} {fs : List (Str × V)} (e : H a = some (.ins C dx fs)) (cl : Cls K C) (ha : PySem.W.findIn K (.ref C) "__class__" = some (some (.builtin "object.__class__")))
      (hn : PySem.W.specialIn K (.builtin "object.__class__") "__get__" = some (some (.builtin "getset_descriptor.__get__"))) (htk : PySem.W.takesIn K (.builtin "object.__class__") = some true)
      (hm : PySem.W.mroIn K C (.type "object") = some true) : TyOf K H (.ref a) (.ref C)
theorem isinst_ok {x : V} {u t : Value} (I : Inv X pins σ H s) (rx : RelV x u) (ty : TyOf X.K H x t) (e : PySem.W.kitOne X.K t c = some b) (h : ∀ tk, Q (.bool b) { s with toks := tk }) :
    wpAny (model X.prog X.w) A (call (.builtin "isinstance") [u, c]) Q E s := by
  cases ty with
  | non => cases (show u = Value.none from rx); exact PySem.W.kia_one PySem.W.kitx_none I.kIn True.intro e (fun z => nomatch z) h
  | bl y => cases (show u = Value.bool y from rx); exact PySem.W.kia_one PySem.W.kitx_bool I.kIn True.intro e (fun z => nomatch z) h
  | int i => obtain ⟨t, q⟩ := (show ∃ t, u = Value.int i t from rx); cases q; exact PySem.W.kia_one PySem.W.kitx_int I.kIn True.intro e (fun z => nomatch z) h
  | str y => obtain ⟨t, q⟩ := (show ∃ t, u = Value.str y t from rx); cases q; exact PySem.W.kia_one PySem.W.kitx_str I.kIn True.intro e (fun z => nomatch z) h
  | flt y => obtain ⟨t, q⟩ := (show ∃ t, u = Value.float y t from rx); cases q; exact PySem.W.kia_one PySem.W.kitx_float I.kIn True.intro e (fun z => nomatch z) h
  | @lst a xs ea =>
    cases (show u = Value.ref a from rx)
    obtain ⟨_, _, n, _, h1⟩ := (show ObjOk X.prog X.w H s.heap a (.lst xs) from I.hok a _ ea)
    exact PySem.W.kia_one PySem.W.kitx_list I.kIn ⟨_, h1, rfl⟩ e (fun z => nomatch z) h
  | @frz a ob xs ea =>
    cases (show u = Value.ref a from rx)
    obtain ⟨_, _, _, n, _, h1⟩ := (show ObjOk X.prog X.w H s.heap a (.frz ob (.lst xs)) from I.hok a _ ea)
    exact PySem.W.kia_one PySem.W.kitx_list I.kIn ⟨_, h1, rfl⟩ e (fun z => nomatch z) h
  | @tup a xs ea =>
    cases (show u = Value.ref a from rx)
    obtain ⟨_, _, _, p⟩ := (show ObjOk X.prog X.w H s.heap a (.tup xs) from I.hok a _ ea)
    obtain ⟨o, h1, h2, _⟩ := p
    exact PySem.W.kia_one PySem.W.kitx_tuple I.kIn ⟨o, h1, h2⟩ e (fun z => nomatch z) h
  | @dK a kvs ea =>
    cases (show u = Value.ref a from rx)
    obtain ⟨_, _, vs, _, p⟩ := (show ObjOk X.prog X.w H s.heap a (.dK kvs) from I.hok a _ ea)
    obtain ⟨o, es, ep, h1, h2, _⟩ := p
    exact PySem.W.kia_one PySem.W.kitx_dict I.kIn ⟨o, h1, h2.1⟩ e (fun z => nomatch z) h
  | @dT a kvs ea =>
    cases (show u = Value.ref a from rx)
    obtain ⟨_, _, xs, _, o, es, ep, h1, h2, _⟩ := (show ObjOk X.prog X.w H s.heap a (.dT kvs) from I.hok a _ ea)
    exact PySem.W.kia_one PySem.W.kitx_dict I.kIn ⟨o, h1, h2.1⟩ e (fun z => nomatch z) h
  | @ins a C dx fs ea cl ha hn htk hm =>
    cases (show u = Value.ref a from rx)
    obtain ⟨mA, O, _⟩ := ins_get I.hok ea
    obtain ⟨od, J, _⟩ := O.look
    exact PySem.W.kia_one (PySem.W.kitx_own (cl.get _) cl.hd ha hn htk hm) I.kIn J e (fun z => nomatch z) h
end
end L2
namespace L2
open PySem PySem.Spec PyProof.Rows
structure Room (k : Nat) (A : Around) : Prop where
  hd : A.handled = none
  dp : A.depth + 3 * k + 5 < recursionLimit
  un : A.units + 16 * k + 200 < cLine
theorem Room.mono {j k : Nat} {A : Around} (r : Room k A) (h : j ≤ k) : Room j A := ⟨r.hd, by have := r.dp; omega, by have := r.un; omega⟩
theorem Room.deeper {k : Nat} {A : Around} (r : Room (k + 1) A) (env : Env) : Room k (A.deeper env) :=
  ⟨r.hd, by have := r.dp; show A.depth + 1 + 3 * k + 5 < _; omega, by have := r.un; show A.units + 3 + 16 * k + 200 < _; omega⟩
theorem Room.in1 {k : Nat} {A : Around} (r : Room (k + 1) A) : Room k A.in1 :=
  ⟨r.hd, by have := r.dp; show A.depth + 3 * k + 5 < _; omega, by have := r.un; show A.units + 1 + 16 * k + 200 < _; omega⟩
theorem Room.depth {k : Nat} {A : Around} (r : Room k A) : A.depth < recursionLimit := by have := r.dp; omega
theorem Room.units {k : Nat} {A : Around} (r : Room k A) : A.units + 64 < cLine := by have := r.un; omega
def tNil : TA := fun _ H Q => Q [] H
def tCons (ta : TE) (tr : TA) : TA := fun σ H Q => ta σ H fun x H1 => tr σ H1 fun xs H2 => Q (x :: xs) H2
section
variable {X : Cx} {e : Expr} {es : List Expr} {te : TE} {t : TA} {pos : Pos}
theorem pa_nil : PA X [] tNil := fun _ _ _ _ H Q I h => Calls.spliced_nil ⟨[], H, I, .nil, h⟩
theorem pa_cons (ha : PE X e te) (hr : PA X es t) (hs : starEach (e :: es) X.env = (false, eval e X.env) :: starEach es X.env := by rfl) : PA X (e :: es) (tCons te t) := by
  intro pos pins s σ H Q I h
  rw [hs]
  show wpAny _ _ (spliced ((false, eval e X.env) :: backTo pos (starEach es X.env))) _ _ s
  refine Calls.spliced_cons (thn (ha pins s σ H _ I h) fun u s1 ⟨x, H1, I1, r1, q1⟩ => ?_)
  exact thn (hr pos pins s1 σ H1 _ I1 q1) fun us s2 ⟨xs, H2, I2, r2, q2⟩ => ⟨x :: xs, H2, I2, .cons r1 r2, q2⟩
def tTup (t : TA) : TE := fun σ H Q => t σ H fun xs H1 => xs.length ≤ sizeLine ∧ ∀ p, H1 p = none → Q (.ref p) (upd H1 p (.tup xs))
def tLst (t : TA) : TE := fun σ H Q => t σ H fun xs H1 => xs.length ≤ sizeLine ∧ ∀ p, H1 p = none → Q (.ref p) (upd H1 p (.lst xs))
theorem pe_tup {x1} (h : PA X es t) : PE X (.Tuple es x1 pos) (tTup t) := by
  intro pins s σ H Q I hq
  refine wpAny_Tuple_spliced (thn (h pos pins s σ H _ I hq) fun us s1 ⟨xs, H1, I1, r, z, q⟩ => ⟨by rw [← r.length]; exact z, ?_⟩)
  have hf : H1 s1.heap.objs.size = none := I1.hok.fresh (Nat.le_refl _)
  refine ⟨.ref s1.heap.objs.size, upd H1 s1.heap.objs.size (.tup xs), I1.laid (t' := s1.toks) (fun b u e => Heap.get?_push_of_some _ e) (Nat.le_refl _) ?_, rfl, q _ hf⟩
  exact ⟨z, us, r, ⟨_, Heap.get?_push_size _ rfl, rfl, _, rfl⟩⟩
theorem pe_lst (h : PA X es t) : PE X (.List es pos) (tLst t) := by
  intro pins s σ H Q I hq
  refine wpAny_List_spliced (thn (h pos pins s σ H _ I hq) fun us s1 ⟨xs, H1, I1, r, z, q⟩ => ⟨by rw [← r.length]; exact z, ?_⟩)
  have hf : H1 s1.heap.objs.size = none := I1.hok.fresh (Nat.le_refl _)
  refine ⟨.ref s1.heap.objs.size, upd H1 s1.heap.objs.size (.lst xs), I1.laid (t' := s1.toks) (fun b u e => Heap.get?_push_of_some _ e) (Nat.le_refl _) ?_, rfl, q _ hf⟩
  exact ⟨z, us, 0, r, Heap.get?_push_size _ rfl⟩
end
abbrev Sp := List V → Hp → VK → XK → Prop
abbrev CXT := List Env → Hp → Shared → XK → Value → Shared → Prop
structure Env0 (P : Program) (w : World) (K : PySem.W.Frag) (mg : Str → Option Value) (base : Heap) (A : Around) (outer : List Env) (s : Shared) (H : Hp) : Prop where
  frames : A.frames = some outer
  mod : Mod K mg base
  bs : ∀ b o, base.get? b = some o → s.heap.get? b = some o ∧ H b = none
  bsz : base.objs.size ≤ s.heap.objs.size
  funs : s.heap.FunFrames base outer
  frf : ∀ b ∈ frs outer, H b = none
  hok : HOk P w H s.heap
  bare : AllBare s.gens
def CE (outer : List Env) (P : Program) (w : World) (H : Hp) (s : Shared) (Q : VK) (u : Value) (s' : Shared) : Prop :=
  ∃ v H', s'.os = s.os ∧ AllBare s'.gens ∧ Un (frs outer) [] H H' s.heap s'.heap ∧ HOk P w H' s'.heap ∧ RelV v u ∧ Q v H'
def CR (CX : CXT) (outer : List Env) (P : Program) (w : World) (H : Hp) (s : Shared) (Q : VK) (E : XK) (r : Result) (s' : Shared) : Prop :=
  match r with
  | .ok (.ret u) => CE outer P w H s Q u s'
  | .ok _ => False
  | .error e => CX outer H s E e s'
structure FnOk (P : Program) (w : World) (K : PySem.W.Frag) (mg : Str → Option Value) (base : Heap) (CX : CXT) (k : Nat) (f : Addr) (fd : FuncData) (ps : List Str) (sp : Sp) : Prop where
  len : ∀ vs H Q E, sp vs H Q E → vs.length = ps.length
  run : ∀ (A : Around) (outer : List Env) (s : Shared) (H : Hp) (args : Args) (us : List Value) (vs : List V) (Q : VK) (E : XK), Room k A → Env0 P w K mg base A outer s H → BindsTo s fd args (ps.zip us) → Vals vs us → sp vs H Q E →
    codeAny (model P w) A (.call (.ref f) args) (CR CX outer P w H s Q E) s
theorem FnOk.mono {P : Program} {w : World} {K : PySem.W.Frag} {mg : Str → Option Value} {base : Heap} {CX : CXT} {j k : Nat} {f : Addr} {fd : FuncData} {ps : List Str} {sp : Sp} (F : FnOk P w K mg base CX j f fd ps sp) (h : j ≤ k) :
    FnOk P w K mg base CX k f fd ps sp := ⟨F.len, fun A outer s H args us vs Q E hr => F.run A outer s H args us vs Q E (hr.mono h)⟩
theorem FnOk.imp {P : Program} {w : World} {K : PySem.W.Frag} {mg : Str → Option Value} {base : Heap} {CX : CXT} {k : Nat} {f : Addr} {fd : FuncData} {ps : List Str} {sp sp' : Sp} (F : FnOk P w K mg base CX k f fd ps sp)
    (h : ∀ vs H Q E, sp' vs H Q E → sp vs H Q E) : FnOk P w K mg base CX k f fd ps sp' :=
  ⟨fun vs H Q E q => F.len vs H Q E (h _ _ _ _ q), fun A outer s H args us vs Q E hr he hb hv hs => F.run A outer s H args us vs Q E hr he hb hv (h _ _ _ _ hs)⟩
theorem Env0.in1 {P : Program} {w : World} {K : PySem.W.Frag} {mg : Str → Option Value} {base : Heap} {A : Around} {outer : List Env} {s : Shared} {H : Hp} (e : Env0 P w K mg base A outer s H) :
    Env0 P w K mg base A.in1 outer s H := ⟨e.frames, e.mod, e.bs, e.bsz, e.funs, e.frf, e.hok, e.bare⟩
section
variable {X : Cx} {pins : List (Addr × Obj)} {σ : St} {H : Hp} {s s' : Shared}
theorem Inv.env0 (I : Inv X pins σ H s) : Env0 X.prog X.w X.K X.mg X.base X.A X.stack s H :=
  ⟨I.ok.frames, I.ok.mod, I.bs, Nat.le_trans I.ok.bsz I.sz, I.stack, I.stkFree, I.hok, I.bare⟩
theorem Inv.after {Q : VK} {u : Value} (I : Inv X pins σ H s) (h : CE X.stack X.prog X.w H s Q u s') : EP X pins σ Q u s' := by
  obtain ⟨v, H', os, bare, un, hok, r, q⟩ := h
  obtain ⟨hh, g, d, t, os'⟩ := s'
  obtain rfl : os' = s.os := os
  exact ⟨v, H', I.call (h' := hh) (g' := g) (d' := d) (t' := t) (ch := []) un hok bare (fun b z => absurd z (by simp)), r, q⟩
end
def tCall (sp : Sp) (dvs : List V) (E : XK) (t : TA) : TE := fun σ H Q => t σ H fun vs H1 => sp (vs ++ dvs) H1 Q E
def Binds (K : PySem.W.Frag) (fd : FuncData) (ps : List Str) (ds : List Value) : Prop :=
  ∀ (s : Shared) (us : List Value), K.In s.heap → (us ++ ds).length = ps.length → BindsTo s fd ⟨us, []⟩ (ps.zip (us ++ ds))
theorem Binds.all {K : PySem.W.Frag} {fd : FuncData} {ps : List Str} (h : ∀ us : List Value, us.length = ps.length → bindArgs fd ⟨us, []⟩ = pure (ps.zip us)) : Binds K fd ps [] := fun s us _ hl => by
  rw [List.append_nil] at hl ⊢
  exact .of_eq (h us hl)
def Passes (CX : CXT) (X : Cx) (E : XK) : Prop := ∀ (pins : List (Addr × Obj)) (σ : St) (H : Hp) (s : Shared) (e : Value) (s' : Shared), Inv X pins σ H s → CX X.stack H s E e s' → X.xe e s'
section
variable {X : Cx} {CX : CXT} {k : Nat} {f C : Addr} {fd : FuncData} {ps : List Str} {sp : Sp} {dvs : List V} {ds : List Value} {E : XK} {x m : Str} {p pos apos : Pos} {e o : Expr} {es : List Expr} {ta : TE} {t : TA}
theorem run_fn {pins : List (Addr × Obj)} {σ : St} {H : Hp} {s : Shared} {Q : VK} {us : List Value} {vs : List V} (F : FnOk X.prog X.w X.K X.mg X.base CX k f fd ps sp) (hr : Room k X.A) (hb : Binds X.K fd ps ds) (hd : Vals dvs ds) (hx : Passes CX X E)
    (I : Inv X pins σ H s) (r : Vals vs us) (h : sp (vs ++ dvs) H Q E) : wpAny (model X.prog X.w) X.A (call (.ref f) us) (EP X pins σ Q) X.xe s := by
  have r2 : Vals (vs ++ dvs) (us ++ ds) := r.append hd
  have hl : (us ++ ds).length = ps.length := by rw [← r2.length]; exact F.len _ _ _ _ h
  refine wpAny_call (codeAny_mono (F.run X.A X.stack s H ⟨us, []⟩ (us ++ ds) (vs ++ dvs) Q E hr I.env0 (hb s us I.kIn hl) r2 h) fun r s' hq => ?_)
  cases r with
  | error e => exact hx pins σ H s e s' I hq
  | ok fl =>
    cases fl with
    | ret u => exact I.after hq
    | next => exact False.elim hq
    | brk => exact False.elim hq
    | cont => exact False.elim hq
theorem pe_call (F : FnOk X.prog X.w X.K X.mg X.base CX k f fd ps sp) (hr : Room k X.A) (hg : Gl X x) (hm : X.mg x = some (.ref f)) (hk : PySem.W.keepIn X.K (.ref f) = true) (hb : Binds X.K fd ps ds) (hd : Vals dvs ds) (hx : Passes CX X E)
    (ha : PA X (e :: es) t) (hdb : (x == ("__debug__" : Str)) = false := by decide) (he : starEach (e :: es) X.env = (false, eval e X.env) :: starEach es X.env := by rfl) (hpl : (backTo pos (starEach es X.env)).any (·.1) = false := by rfl) :
    PE X (.Call (.Name x p) (e :: es) [] pos) (tCall sp dvs E t) := by
  intro pins s σ H Q I h
  refine wpAny_Call_Name_kw (ld_glob I hg hm ?_ hdb)
  refine PySem.W.callWith_K (h₀ := X.base) I.ok.mod.kin hk (thn (ha pos pins s σ H _ I h) fun us s1 ⟨vs, H1, I1, r, q⟩ => ⟨I1.kIn, ?_⟩) he hpl
  exact run_fn F hr hb hd hx I1 r q
structure Mk (K : PySem.W.Frag) (C f : Addr) : Prop where
  makes : PySem.W.makesIn K C = true
  init : PySem.W.findIn K (.ref C) "__init__" = some (some (.ref f))
  fn : PySem.W.isFn K (.ref f) = true
  kp : PySem.W.keepIn K (.ref C) = true
end
section
variable {X : Cx} {CX : CXT} {k : Nat} {f C : Addr} {fd : FuncData} {ps ks : List Str} {sp : Sp} {E : XK} {x m : Str} {p pos apos kpos : Pos} {e o : Expr} {es : List Expr} {kws : List Keyword} {te ta : TE} {t tk : TA} {nm : Option Str}
structure KBinds (K : PySem.W.Frag) (fd : FuncData) (ps ks : List Str) (g : List Value → List Value → List Value) (gV : List V → List V → List V) : Prop where
  to : ∀ (s : Shared) (us ws : List Value), K.In s.heap → (g us ws).length = ps.length → BindsTo s fd ⟨us, ks.zip ws⟩ (ps.zip (g us ws))
  rel : ∀ {vs : List V} {us : List Value} {zs : List V} {ws : List Value}, Vals vs us → Vals zs ws → Vals (gV vs zs) (g us ws)
variable {g : List Value → List Value → List Value} {gV : List V → List V → List V}
end
structure FnScope (N P : List Str) (sc : Scope) : Prop where
  kind : sc.kind = .function
  co : sc.isCoroutine = false
  gen : sc.isGenerator = false
  nd : N.Nodup
  pre : N.take P.length = P
  par : ∀ x ∈ P, sc.names.lookup x = some .local ∨ sc.names.lookup x = some .cell
  nofree : ∀ y ∈ sc.names, y.2 ≠ .free
theorem bindL_out {kindOf : Str → Option NameKind} {x : Str} : ∀ {binds : List (Str × Value)} {m : Str → Option Value}, (∀ v, (x, v) ∉ binds) → bindL kindOf binds m x = m x
  | [], _, _ => rfl
  | (n, v) :: r, m, h => by
    unfold bindL
    rw [bindL_out fun w hw => h w (List.mem_cons_of_mem _ hw)]
    split
    · have : x ≠ n := by rintro rfl; exact h v List.mem_cons_self
      simp [this]
    · rfl
theorem bindC_out {kindOf : Str → Option NameKind} {x : Str} : ∀ {binds : List (Str × Value)} {m : Str → Option Value}, (∀ v, (x, v) ∉ binds) → bindC kindOf binds m x = m x
  | [], _, _ => rfl
  | (n, v) :: r, m, h => by
    unfold bindC
    rw [bindC_out fun w hw => h w (List.mem_cons_of_mem _ hw)]
    split
    · rfl
    · have : x ≠ n := by rintro rfl; exact h v List.mem_cons_self
      simp [this]
theorem bindL_get {kindOf : Str → Option NameKind} {x : Str} {v : Value} : ∀ {P : List Str} {vs : List Value} {i : Nat} {m : Str → Option Value}, P.Nodup → P[i]? = some x → vs[i]? = some v → kindOf x = some .local →
    bindL kindOf (P.zip vs) m x = some v
  | [], _, _, _, _, h, _, _ => by simp at h
  | _ :: _, [], _, _, _, _, h, _ => by simp at h
  | p :: P, w :: vs, 0, m, nd, h1, h2, hk => by
    simp at h1 h2; subst h1; subst h2
    show bindL kindOf ((p, w) :: P.zip vs) m p = _
    unfold bindL
    rw [bindL_out fun v hv => (List.nodup_cons.mp nd).1 (List.of_mem_zip hv).1, if_pos hk]
    simp
  | p :: P, w :: vs, i + 1, m, nd, h1, h2, hk => by
    show bindL kindOf ((p, w) :: P.zip vs) m x = _
    unfold bindL
    exact bindL_get (i := i) (List.nodup_cons.mp nd).2 (by simpa using h1) (by simpa using h2) hk
theorem bindC_get {kindOf : Str → Option NameKind} {x : Str} {v : Value} : ∀ {P : List Str} {vs : List Value} {i : Nat} {m : Str → Option Value}, P.Nodup → P[i]? = some x → vs[i]? = some v → kindOf x ≠ some .local →
    bindC kindOf (P.zip vs) m x = some v
  | [], _, _, _, _, h, _, _ => by simp at h
  | _ :: _, [], _, _, _, _, h, _ => by simp at h
  | p :: P, w :: vs, 0, m, nd, h1, h2, hk => by
    simp at h1 h2; subst h1; subst h2
    show bindC kindOf ((p, w) :: P.zip vs) m p = _
    unfold bindC
    rw [bindC_out fun v hv => (List.nodup_cons.mp nd).1 (List.of_mem_zip hv).1, if_neg hk]
    simp
  | p :: P, w :: vs, i + 1, m, nd, h1, h2, hk => by
    show bindC kindOf ((p, w) :: P.zip vs) m x = _
    unfold bindC
    exact bindC_get (i := i) (List.nodup_cons.mp nd).2 (by simpa using h1) (by simpa using h2) hk
def start (N : List Str) (vs : List V) : St := vs.map some ++ List.replicate (N.length - vs.length) none
def cxOf (CX : CXT) (P : Program) (w : World) (K : PySem.W.Frag) (mg : Str → Option Value) (base : Heap) (N : List Str) (qual : Str) (scope : Scope) (f : Addr) (cd : Value) (A : Around) (outer : List Env) (s : Shared) (H : Hp) (E : XK) : Cx where
  prog := P
  w := w
  K := K
  mg := mg
  base := base
  A := A.deeper (envOfC qual scope s.heap.objs.size f cd)
  N := N
  s₀ := s
  H₀ := H
  env := envOfC qual scope s.heap.objs.size f cd
  outer := outer
  stack := envOfC qual scope s.heap.objs.size f cd :: outer
  ex := []
  calm := true
  fn := fun _ => true
  pn := []
  xe := fun e s' => wpAny (model P w) (A.deeper (envOfC qual scope s.heap.objs.size f cd)) (leaving (envOfC qual scope s.heap.objs.size f cd) e) (fun _ s'' => CX outer H s E e s'') (fun e' s'' => CX outer H s E e' s'') s'
theorem cell_has {sc : Scope} {n : Nat} {x : Str} (h : sc.names.lookup x = some .cell) : ∃ c, (cellsFrom n sc.names []).lookup x = some c := by
  have q := PySem.W.cellsFrom_some sc.names n [] (.inl h)
  exact Option.isSome_iff_exists.mp q
theorem inv_start {CX : CXT} {P : Program} {w : World} {K : PySem.W.Frag} {mg : Str → Option Value} {base : Heap} {N ps : List Str} {qual : Str} {scope : Scope} {f : Addr} {cd : Value} {A : Around} {outer : List Env} {s s1 : Shared} {H : Hp} {E : XK} {us : List Value} {vs : List V}
    (S : FnScope N ps scope) (hd : A.handled = none) (e0 : Env0 P w K mg base A outer s H) (hl : vs.length = ps.length) (r : Vals vs us)
    (x : InCallC s s.heap.objs.size (bindL (envOfC qual scope s.heap.objs.size f cd).kindOf (ps.zip us) fun _ => none) (cellsFrom (s.heap.objs.size + 1) scope.names []) (bindC (envOfC qual scope s.heap.objs.size f cd).kindOf (ps.zip us) fun _ => none) s1) :
    Inv (cxOf CX P w K mg base N qual scope f cd A outer s H E) [] (start N vs) H s1 := by
  have hpl : ps.length ≤ N.length := by have := congrArg List.length S.pre; rw [List.length_take] at this; omega
  obtain ⟨h1, tk, rfl, hk⟩ := x.done
  have noA : ∀ b : Addr, b ∉ (cxOf CX P w K mg base N qual scope f cd A outer s H E).ex := fun b z => absurd (show b ∈ ([] : List Addr) from z) (by simp)
  refine ⟨⟨e0.mod, S.kind, rfl, rfl, Nat.le_refl _, fun y z c h1 h2 => ?_, fun y hy => ?_, fun y c _ h => ?_, fun _ => hd, Around.frames_deeper e0.frames, .inr ⟨rfl, rfl⟩, fun b z => absurd z (noA b), e0.bs, e0.bsz, fun b _ _ => noA b, fun b z => absurd z (noA b), e0.funs, e0.frf⟩,
    rfl, e0.bare, Un.kept hk, ⟨_, x.toInCall.ns, fun i y v h1 h2 h3 => ?_⟩, fun y c h => ⟨_, x.cell y c h⟩, e0.hok.fresh (Nat.le_refl _), fun y c h => ?_, fun p hp => absurd (show p ∈ ([] : List (Addr × Obj)) from hp) (by simp), e0.hok.kept hk, ?_⟩
  · exact name_of_addr x.apart (PySem.mem_of_lookup h1) (PySem.mem_of_lookup h2)
  · have hy : scope.names.lookup y = some .cell ∨ scope.names.lookup y = some .free := hy
    rcases hy with hy | hy
    · exact cell_has hy
    · exact absurd rfl (S.nofree _ (PySem.mem_of_lookup hy))
  · exact Nat.le_of_lt (x.above y c (PySem.mem_of_lookup h))
  · have hi : i < vs.length := by
      unfold start at h2
      by_cases hi : i < vs.length
      · exact hi
      · rw [List.getElem?_append_right (by simpa using hi)] at h2
        rw [List.getElem?_replicate] at h2
        split at h2 <;> cases h2
    have ha : vs[i]? = some v := by
      unfold start at h2
      rw [List.getElem?_append_left (by simpa using hi), List.getElem?_map] at h2
      cases e : vs[i]? with
      | none => rw [e] at h2; cases h2
      | some a => rw [e] at h2; cases h2; rfl
    obtain ⟨u, hu, rv⟩ := r.get ha
    have hp : ps[i]? = some y := by
      rw [← S.pre, List.getElem?_take_of_lt (by omega)]; exact h1
    have ndP : ps.Nodup := by rw [← S.pre]; exact S.nd.sublist (List.take_sublist _ _)
    refine ⟨u, rv, ?_⟩
    rcases S.par y (List.mem_of_getElem? hp) with k | k
    · exact .inl ⟨k, bindL_get ndP hp hu k⟩
    · obtain ⟨c, e⟩ := cell_has (n := s.heap.objs.size + 1) k
      refine .inr ⟨.inl k, c, e, ?_⟩
      have q := x.cell y c e
      rw [bindC_get ndP hp hu (by show scope.names.lookup y ≠ _; rw [k]; decide)] at q
      exact q
  · exact e0.hok.fresh (Nat.le_of_lt (x.above y c (PySem.mem_of_lookup h)))
  · unfold start
    show _ = N.length
    rw [List.length_append, List.length_map, List.length_replicate]
    omega
theorem fn_of {CX : CXT} {P : Program} {w : World} {K : PySem.W.Frag} {mg : Str → Option Value} {base : Heap} {k : Nat} {f : Addr} {name qual : Str} {params : Arguments} {body : List Stmt} {scope : Scope} {dV kV doc pm cdv ct oc : Value} {an od : Option Addr}
    {osl : Array (Option Value)} {N ps : List Str} {sp : Sp} (lk : K.lookup f = some ⟨oc, od, .func (PySem.W.fnOf name qual params body scope dV kV doc pm an cdv ct), osl⟩) (hcd : PySem.W.codeIn K cdv qual = true) (S : FnScope N ps scope)
    (len : ∀ vs H Q E, sp vs H Q E → vs.length = ps.length)
    (hbody : ∀ (A : Around) (outer : List Env) (s : Shared) (H : Hp) (vs : List V) (Q : VK) (E : XK), Room k (A.deeper (envOfC qual scope s.heap.objs.size f cdv)) → sp vs H Q E →
      ∃ t, PSs (cxOf CX P w K mg base N qual scope f cdv A outer s H E) body t ∧ t { nx := fun _ H' => Q .non H', rt := Q } (start N vs) H) :
    FnOk P w K mg base CX (k + 1) f (PySem.W.fnOf name qual params body scope dV kV doc pm an cdv ct) ps sp := by
  refine ⟨len, fun A outer s H args us vs Q E hr e0 hb r hsp => ?_⟩
  have hl := len _ _ _ _ hsp
  have KX : K.In s.heap := e0.mod.kin.keeps fun b o e => (e0.bs b o e).1
  have lim : s.heap.NoLimit := e0.mod.nolimit.keeps fun b o e => (e0.bs b o e).1
  have hkind : ∀ y ∈ ps.zip us, scope.names.lookup y.1 = some .local ∨ (scope.names.lookup y.1 = some .cell ∧ ((cellsFrom (s.heap.objs.size + 1) scope.names []).lookup y.1).isSome = true) := fun ⟨n, v⟩ hy => by
    rcases S.par n (List.of_mem_zip hy).1 with q | q
    · exact .inl q
    · exact .inr ⟨q, PySem.W.cellsFrom_some _ _ _ (.inl q)⟩
  refine codeAny_call_function hr.depth (KX _ _ lk) rfl S.co S.gen rfl (PySem.W.codeRec_of KX hcd) (hb _ _ _ _ ?_)
  refine wpAny_newFunctionEnv_cells S.kind hkind fun env he s1 x => ?_
  subst he
  refine ⟨lim.keeps x.toInCall.keep, codeAny_func ?_⟩
  obtain ⟨t, ht, hq⟩ := hbody A outer s H vs Q E (hr.deeper _) hsp
  have I : Inv (cxOf CX P w K mg base N qual scope f cdv A outer s H E) [] (start N vs) H s1 := inv_start S hr.hd e0 hl r x
  refine wpAny_mono (ht [] s1 (start N vs) H _ I hq) (fun fl s' hs => ?_) fun e s' hs => hs
  have fin : ∀ {σ' : St} {H' : Hp} {v : V} {u : Value}, Inv (cxOf CX P w K mg base N qual scope f cdv A outer s H E) [] σ' H' s' → RelV v u → Q v H' → CE outer P w H s Q u s' :=
    fun {σ' H' v u} J rv q => ⟨v, H', J.os, J.bare, J.base, J.hok, rv, q⟩
  cases fl with
  | ret u =>
    obtain ⟨v, σ', H', J, rv, q⟩ := hs
    exact fin J rv q
  | next =>
    obtain ⟨σ', H', J, q⟩ := hs
    exact fin (v := V.non) (u := Value.none) J rfl q
  | brk =>
    obtain ⟨_, _, _, q⟩ := hs
    exact False.elim q
  | cont =>
    obtain ⟨_, _, _, q⟩ := hs
    exact False.elim q
end L2
namespace L2
open PySem PySem.Spec PyProof.Rows
section
variable {X : Cx} {x : Str} {p pos : Pos} {e : Expr} {es : List Expr} {t : TA} {id T : String} {r : List V → Hp → VK → Prop}
def tCB (r : List V → Hp → VK → Prop) (t : TA) : TE := fun σ H Q => t σ H fun vs H1 => r vs H1 Q
theorem pe_callB (hc : CallR X (.builtin id) r) (hg : Gl X x) (hm : X.mg x = none) (hv : bootBuiltins x = some (.builtin id)) (ha : PA X (e :: es) t) (hn : x ≠ "__name__" := by decide) (hdb : (x == ("__debug__" : Str)) = false := by decide)
    (he : starEach (e :: es) X.env = (false, eval e X.env) :: starEach es X.env := by rfl) (hpl : (backTo pos (starEach es X.env)).any (·.1) = false := by rfl) : PE X (.Call (.Name x p) (e :: es) [] pos) (tCB r t) := by
  intro pins s σ H Q I h
  refine wpAny_Call_Name_kw (ld_blt I hg hm hv ?_ hn hdb)
  exact PyProof.Rows.callWith_builtin1 (thn (ha pos pins s σ H _ I h) fun us s1 ⟨vs, H1, I1, r1, q1⟩ => hc pins s1 σ H1 vs us Q I1 r1 q1) he hpl
theorem pe_callTy (hc : CallR X (.type T) r) (hg : Gl X x) (hm : X.mg x = none) (hv : bootBuiltins x = some (.type T)) (ha : PA X (e :: es) t) (hn : x ≠ "__name__" := by decide) (hdb : (x == ("__debug__" : Str)) = false := by decide)
    (he : starEach (e :: es) X.env = (false, eval e X.env) :: starEach es X.env := by rfl) (hpl : (backTo pos (starEach es X.env)).any (·.1) = false := by rfl) : PE X (.Call (.Name x p) (e :: es) [] pos) (tCB r t) := by
  intro pins s σ H Q I h
  refine wpAny_Call_Name_kw (ld_blt I hg hm hv ?_ hn hdb)
  exact PyProof.Rows.callWith_type1 (thn (ha pos pins s σ H _ I h) fun us s1 ⟨vs, H1, I1, r1, q1⟩ => hc pins s1 σ H1 vs us Q I1 r1 q1) he hpl
end
end L2
namespace HT
open PySem PyProof.Rows
section
open PySem.SeqAt
open PySem.AutoSeq1 (wpAny_loadPart')
open PySem.MeetsSeq PySem.MeetsSeq2 PySem.MeetsSeq3
end
section
variable {prog : Program} {w : World} {A : Around} {E : Value → Shared → Prop} {s : Shared}
def sIx (n d : Nat) : Option Int → Nat
  | none => d
  | some v => if v < 0 then (v + (n : Int)).toNat else min v.toNat n
end
end HT
namespace L2
open PySem PySem.Spec PyProof.Rows
abbrev TO := St → Hp → (Option Int → Hp → Prop) → Prop
def PO (X : Cx) (e : Option Expr) (t : TO) : Prop :=
  ∀ (pins : List (Addr × Obj)) (s : Shared) (σ : St) (H : Hp) (Q : Option Int → Hp → Prop), Inv X pins σ H s → t σ H Q →
    wpAny (model X.prog X.w) X.A (evalPart e X.env) (fun u s' => ∃ o H', Inv X pins σ H' s' ∧ IsPart u o ∧ Q o H') X.xe s
def tNoPart : TO := fun _ H Q => Q none H
def tPart (t : TE) : TO := fun σ H Q => t σ H fun x H1 => ∃ i, x = .int i ∧ Q (some i) H1
section
variable {X : Cx} {e : Expr} {te : TE} {lo hi : Option Expr} {tl th : TO} {pos p2 : Pos}
theorem po_none : PO X none tNoPart := by
  intro pins s σ H Q I h
  rw [evalPart_none]
  exact wpAny_pure ⟨none, H, I, .none, h⟩
theorem po_some (h : PE X e te) : PO X (some e) (tPart te) := by
  intro pins s σ H Q I hw
  rw [evalPart_some]
  refine thn (h pins s σ H _ I hw) fun u s1 ⟨x, H1, I1, r1, q1⟩ => ?_
  obtain ⟨i, rfl, q⟩ := q1
  obtain ⟨t, rfl⟩ := r1
  exact ⟨some i, H1, I1, .int i t, q⟩
def SlR (X : Cx) (r : V → Option Int → Option Int → Hp → VK → Prop) : Prop :=
  ∀ (pins : List (Addr × Obj)) (s : Shared) (σ : St) (H : Hp) (x : V) (v vl vu : Value) (lo hi : Option Int) (sl : Addr) (Q : VK), Inv X pins σ H s → RelV x v → s.heap.IsSliceOf sl vl vu .none → IsPart vl lo → IsPart vu hi → r x lo hi H Q →
    ∃ T id, typeLookup (.type T) "__getitem__" = pure (some (.builtin id)) ∧ s.TypeIs v T ∧ wpAny (model X.prog X.w) X.A (getItem v (.ref sl)) (EP X pins σ Q) X.xe s
theorem SlR.or {r r' : V → Option Int → Option Int → Hp → VK → Prop} (h : SlR X r) (h' : SlR X r') : SlR X (fun x lo hi H Q => r x lo hi H Q ∨ r' x lo hi H Q) := by
  intro pins s σ H x v vl vu lo hi sl Q I rx hs pl pu q
  rcases q with q | q
  · exact h pins s σ H x v vl vu lo hi sl Q I rx hs pl pu q
  · exact h' pins s σ H x v vl vu lo hi sl Q I rx hs pl pu q
def tSl (r : V → Option Int → Option Int → Hp → VK → Prop) (te : TE) (tl th : TO) : TE := fun σ H Q => te σ H fun x H1 => tl σ H1 fun l H2 => th σ H2 fun u H3 => r x l u H3 Q
theorem pe_slice {r : V → Option Int → Option Int → Hp → VK → Prop} (hr : SlR X r) (he : PE X e te) (hl : PO X lo tl) (hu : PO X hi th) : PE X (.Subscript e (.Slice lo hi none p2) pos) (tSl r te tl th) := by
  intro pins s σ H Q I h
  refine Subscript_ (thn (he pins s σ H _ I h) fun v s1 ⟨x, H1, I1, r1, q1⟩ => ?_)
  refine wpAny_Slice (thn (hl pins s1 σ H1 _ I1 q1) fun vl s2 ⟨l, H2, I2, pl, q2⟩ => thn (hu pins s2 σ H2 _ I2 q2) fun vu s3 ⟨u, H3, I3, pu, q3⟩ => ?_)
  rw [evalPart_none]
  refine wpAny_pure ?_
  have I4 : Inv X pins σ H3 { s3 with heap := s3.heap.push { cls := .type "slice", data := .fields #[vl, vu, .none] } } := I3.kept (t' := s3.toks) fun b ob q => Heap.get?_push_of_some _ q
  obtain ⟨T, id, hT, ht, hg⟩ := hr pins { s3 with heap := s3.heap.push { cls := .type "slice", data := .fields #[vl, vu, .none] } } σ H3 x v vl vu l u s3.heap.objs.size Q I4 r1 (Heap.IsSliceOf.new ..) pl pu q3
  show wpAny (model X.prog X.w) X.A (subscriptTail e (.Slice lo hi none p2) v (.ref s3.heap.objs.size)) (EP X pins σ Q) X.xe { s3 with heap := s3.heap.push { cls := .type "slice", data := .fields #[vl, vu, .none] } }
  exact tail_any (ops := [.ref s3.heap.objs.size, v]) ht hT hg (by with_unfolding_all rfl)
def cutV (xs : List V) (lo hi : Option Int) : List V := (xs.drop (HT.sIx xs.length 0 lo)).take (HT.sIx xs.length xs.length hi - HT.sIx xs.length 0 lo)
theorem cutV_length (xs : List V) (lo hi : Option Int) : (cutV xs lo hi).length ≤ xs.length := by
  unfold cutV
  rw [List.length_take, List.length_drop]
  omega
end
end L2
namespace L2
open PySem PySem.Spec PyProof.Rows
def ixN (n : Nat) (i : Int) : Option Nat := if 0 ≤ i then (if i < n then some i.toNat else none) else if -(n : Int) ≤ i then some (i + n).toNat else none
def atI {α : Type} (xs : List α) (i : Int) : Option α := (ixN xs.length i).bind fun j => xs[j]?
theorem ixN_seq {n : Nat} {i : Int} {j : Nat} (h : ixN n i = some j) : seqIndex? i n = some j ∧ j < n ∧ -(n : Int) ≤ i ∧ i < n := by
  unfold ixN at h
  by_cases h0 : 0 ≤ i
  · rw [if_pos h0] at h
    by_cases h1 : i < n
    · rw [if_pos h1] at h
      have e : i.toNat = j := Option.some.inj h
      exact ⟨by rw [seqIndex_of h0 h1, e], by omega, by omega, h1⟩
    · rw [if_neg h1] at h; cases h
  · rw [if_neg h0] at h
    by_cases h1 : -(n : Int) ≤ i
    · rw [if_pos h1] at h
      have e : (i + n).toNat = j := Option.some.inj h
      exact ⟨by rw [seqIndex_neg (by omega) h1, e], by omega, h1, by omega⟩
    · rw [if_neg h1] at h; cases h
theorem atI_get {α : Type} {xs : List α} {i : Int} {v : α} (h : atI xs i = some v) : ∃ j, seqIndex? i xs.length = some j ∧ xs[j]? = some v ∧ j < xs.length ∧ -(xs.length : Int) ≤ i ∧ i < xs.length := by
  unfold atI at h
  cases e : ixN xs.length i with
  | none => rw [e] at h; cases h
  | some j =>
    rw [e] at h
    obtain ⟨h1, h2, h3, h4⟩ := ixN_seq e
    exact ⟨j, h1, h, h2, h3, h4⟩
def PlainIx (b : Expr) : Prop := ∀ o i, subscripted b false o i = operate [o, i] (getItem o i)
def IxR (X : Cx) (r : R2) : Prop :=
  ∀ (value slice : Expr) (pins : List (Addr × Obj)) (s : Shared) (σ : St) (H : Hp) (x y : V) (v u : Value) (Q : VK), Inv X pins σ H s → RelV x v → RelV y u → r x y H Q →
    subscripted slice false v u = operate [v, u] (getItem v u) → wpAny (model X.prog X.w) X.A (subscriptTail value slice v u) (EP X pins σ Q) X.xe s
def MtR (X : Cx) (id : String) (r : V → List V → Hp → VK → Prop) : Prop :=
  ∀ (pins : List (Addr × Obj)) (s : Shared) (σ : St) (H : Hp) (x : V) (xs : List V) (v : Value) (us : List Value) (Q : VK), Inv X pins σ H s → RelV x v → Vals xs us → r x xs H Q →
    wpAny (model X.prog X.w) X.A (call (.builtin id) (v :: us)) (EP X pins σ Q) X.xe s
section
variable {X : Cx} {a b : Expr} {ta tb : TE} {pos : Pos}
theorem IxR.or {r r' : R2} (h : IxR X r) (h' : IxR X r') : IxR X (fun x y H Q => r x y H Q ∨ r' x y H Q) := by
  intro value slice pins s σ H x y v u Q I rx ry q hs
  rcases q with q | q
  · exact h value slice pins s σ H x y v u Q I rx ry q hs
  · exact h' value slice pins s σ H x y v u Q I rx ry q hs
theorem MtR.or {id : String} {r r' : V → List V → Hp → VK → Prop} (h : MtR X id r) (h' : MtR X id r') : MtR X id (fun x xs H Q => r x xs H Q ∨ r' x xs H Q) := by
  intro pins s σ H x xs v us Q I rx rs q
  rcases q with q | q
  · exact h pins s σ H x xs v us Q I rx rs q
  · exact h' pins s σ H x xs v us Q I rx rs q
theorem pe_ix {r : R2} (hr : IxR X r) (ha : PE X a ta) (hb : PE X b tb) (hs : PlainIx b) : PE X (.Subscript a b pos) (tOp r ta tb) := by
  intro pins s σ H Q I h
  exact Subscript_ (binT ha hb I h fun v u s2 x y H2 I2 rx ry q => hr a b pins s2 σ H2 x y v u Q I2 rx ry q (hs _ _))
def rIxL (K : PySem.W.Frag) : R2 := fun x y H Q => ∃ p xs i v, x = .ref p ∧ y = .int i ∧ SqL K H p xs ∧ atI xs i = some v ∧ Q v H
def rIxT (K : PySem.W.Frag) : R2 := fun x y H Q => ∃ p xs i v, x = .ref p ∧ y = .int i ∧ SqT K H p xs ∧ atI xs i = some v ∧ Q v H
def rIxS : R2 := fun x y H Q => ∃ z i c, x = .str z ∧ y = .int i ∧ z.length ≤ sizeLine ∧ atI z.cps.toList i = some c ∧ Q (.str ⟨#[c]⟩) H
theorem ix_list : IxR X (rIxL X.K) := by
  intro value slice pins s σ H x y v u Q I rx ry h hs
  obtain ⟨p, xs, i, z, rfl, rfl, hq, he, q⟩ := h
  cases rx
  obtain ⟨t, rfl⟩ := ry
  obtain ⟨its, r, pl, hz⟩ := I.list hq
  obtain ⟨j, h1, h2, h3, h4, h5⟩ := atI_get he
  obtain ⟨w, ew, rw'⟩ := r.get h2
  have hl := r.length
  have hn := line63
  have fin : EP X pins σ Q w s := ⟨z, H, I, rw', q⟩
  by_cases h0 : 0 ≤ i
  · have hj : i.toNat = j := by
      rw [seqIndex_of h0 h5] at h1
      exact Option.some.inj h1
    exact item_listR pl.isList h0 (by omega) (by rw [hj]; simpa using ew) fin hs
  · have hj : (i + (its.toArray.size : Int)).toNat = j := by
      rw [seqIndex_neg (by omega) h4] at h1
      rw [List.size_toArray, ← hl]
      exact Option.some.inj h1
    exact subscriptTail_builtinR (x := w) pl.isList.typeIs slot_list_getitem.lookup
      (wpAny_getItem_list_neg (Q := fun r s' => r = w ∧ EP X pins σ Q r s') pl.isList (by omega) (by rw [List.size_toArray] <;> omega) (by omega) (by rw [hj]; simpa using ew) ⟨rfl, fin⟩) hs
theorem ix_tup : IxR X (rIxT X.K) := by
  intro value slice pins s σ H x y v u Q I rx ry h hs
  obtain ⟨p, xs, i, z, rfl, rfl, hq, he, q⟩ := h
  cases rx
  obtain ⟨t, rfl⟩ := ry
  obtain ⟨its, r, pl, hz⟩ := I.tuple hq
  obtain ⟨j, h1, h2, h3, h4, h5⟩ := atI_get he
  obtain ⟨w, ew, rw'⟩ := r.get h2
  have hl := r.length
  have hn := line63
  have fin : EP X pins σ Q w s := ⟨z, H, I, rw', q⟩
  exact subscriptTail_builtinR (x := w) pl.typeIs slot_tuple_getitem.lookup
    (getItem_tuple (j := j) (Q := fun r s' => r = w ∧ EP X pins σ Q r s') pl (by omega) (by omega) (by rw [List.size_toArray, ← hl]; exact h1) (by simpa using ew) ⟨rfl, fin⟩) hs
theorem ix_str : IxR X rIxS := by
  intro value slice pins s σ H x y v u Q I rx ry h hs
  obtain ⟨z, i, c, rfl, rfl, hz, he, q⟩ := h
  obtain ⟨t, rfl⟩ := rx
  obtain ⟨t', rfl⟩ := ry
  obtain ⟨j, h1, h2, h3, h4, h5⟩ := atI_get he
  have hl : z.cps.toList.length = z.length := by simp [Str.length]
  rw [hl] at h1 h4 h5
  have hn := line63
  exact tail_any (typeIs_str s z t) slot_str_getitem.lookup (getItem_str (c := c) (by
    have e1 : decide (i < -(2 ^ 63 : Int)) = false := decide_eq_false (by omega)
    have e2 : decide (i ≥ 2 ^ 63) = false := decide_eq_false (by omega)
    rw [e1, e2, Bool.or_false]) (by rw [h1]; simpa using h2) ⟨.str ⟨#[c]⟩, H, I.tok _, ⟨_, rfl⟩, q⟩) hs
def rIx (K : PySem.W.Frag) : R2 := fun x y H Q => rIxL K x y H Q ∨ rIxT K x y H Q ∨ rIxS x y H Q
theorem ix_seq : IxR X (rIx X.K) := ix_list.or (ix_tup.or ix_str)
theorem mapSeq_set (its : List Value) (n j : Nat) (u : Value) : Obj.mapSeq (·.setIfInBounds j u) { cls := .type "list", data := .seq its.toArray n } = { cls := .type "list", data := .seq (its.set j u).toArray n } := by
  simp [Obj.mapSeq]
theorem Inv.lst {pins : List (Addr × Obj)} {σ : St} {H : Hp} {s : Shared} {p : Addr} {xs : List V} (I : Inv X pins σ H s) (h : H p = some (.lst xs)) :
    ∃ (its : List Value) (n : Nat), Vals xs its ∧ s.heap.get? p = some { cls := .type "list", data := .seq its.toArray n } ∧ xs.length ≤ sizeLine := by
  obtain ⟨z, its, n, r, e⟩ := I.hok p _ h
  exact ⟨its, n, r, e, z⟩
theorem Inv.lstUpd {pins : List (Addr × Obj)} {σ : St} {H : Hp} {s : Shared} {p : Addr} {xs ys : List V} {its its' : List Value} {n n' : Nat} {f : Obj → Obj} (I : Inv X pins σ H s) (h : H p = some (.lst xs))
    (ho : s.heap.get? p = some { cls := .type "list", data := .seq its.toArray n }) (hf : f { cls := .type "list", data := .seq its.toArray n } = { cls := .type "list", data := .seq its'.toArray n' }) (r : Vals ys its') (hz : ys.length ≤ sizeLine) (t : Nat) :
    Inv X pins σ (upd H p (.lst ys)) { s with heap := s.heap.update p f, toks := t } := by
  have e : (s.heap.update p f).get? p = some { cls := .type "list", data := .seq its'.toArray n' } := by
    rw [Heap.get?_update_self f ho (by rw [hf] <;> rfl), hf]
  refine I.write (x := p) (e := p) (by rw [h]; trivial) (.inl rfl) (fun b u hb q => (Heap.get?_update_other _ _ (Ne.symm hb)).trans q) ⟨_, e⟩ ?_
  exact ⟨hz, its', n', r, e⟩
def rSetL : V → V → V → Hp → (Hp → Prop) → Prop := fun o i v H Q => ∃ p xs k j, o = .ref p ∧ i = .int k ∧ H p = some (.lst xs) ∧ ixN xs.length k = some j ∧ Q (upd H p (.lst (xs.set j v)))
theorem set_list : PSet X rSetL := by
  intro pins s σ H o i v ov iv u Q I ro ri rv h
  obtain ⟨p, xs, k, j, rfl, rfl, hp, hj, q⟩ := h
  cases ro
  obtain ⟨t, rfl⟩ := ri
  obtain ⟨its, n, r, ho, hz⟩ := I.lst hp
  obtain ⟨h1, h2, h3, h4⟩ := ixN_seq hj
  have hl := r.length
  have hn := line63
  have I' : Inv X pins σ (upd H p (.lst (xs.set j v))) { s with heap := s.heap.update p (Obj.mapSeq (·.setIfInBounds j u)) } :=
    I.lstUpd hp ho (mapSeq_set its n j u) (r.set rv j) (by rw [List.length_set]; exact hz) s.toks
  by_cases h0 : 0 ≤ k
  · have hk : k.toNat = j := by
      rw [seqIndex_of h0 h4] at h1
      exact Option.some.inj h1
    exact PySem.W.ki_setAt ho h0 (by omega) (by rw [List.size_toArray, ← hl]; exact h4) (by rw [hk]; exact ⟨_, I', q⟩)
  · have hk : (k + (its.toArray.size : Int)).toNat = j := by
      rw [seqIndex_neg (by omega) h3] at h1
      rw [List.size_toArray, ← hl]
      exact Option.some.inj h1
    exact PySem.W.ki_setBack ho (by omega) (by rw [List.size_toArray, ← hl]; exact h3) (by omega) (by rw [hk]; exact ⟨_, I', q⟩)
theorem slice_bounds (lo hi : Option Int) (n : Nat) : (sliceBounds lo hi none n).1 = ((HT.sIx n 0 lo : Nat) : Int) ∧ (sliceBounds lo hi none n).2.1 = ((HT.sIx n n hi : Nat) : Int) ∧ (sliceBounds lo hi none n).2.2 = 1 := by
  refine ⟨?_, ?_, rfl⟩
  · cases lo with
    | none => simp [sliceBounds, HT.sIx]
    | some i =>
      simp only [sliceBounds, HT.sIx, Option.getD_none, show (1 : Int) > 0 by decide, if_true]
      by_cases h : i < 0
      · simp only [h, if_true] <;> omega
      · simp only [h, if_false] <;> omega
  · cases hi with
    | none => simp [sliceBounds, HT.sIx]
    | some i =>
      simp only [sliceBounds, HT.sIx, Option.getD_none, show (1 : Int) > 0 by decide, if_true]
      by_cases h : i < 0
      · simp only [h, if_true] <;> omega
      · simp only [h, if_false] <;> omega
theorem slicePick_cut (its : List Value) (lo hi : Option Int) : slicePick its.toArray lo hi none = ((its.drop (HT.sIx its.length 0 lo)).take (HT.sIx its.length its.length hi - HT.sIx its.length 0 lo)).toArray := by
  obtain ⟨h1, h2, h3⟩ := slice_bounds lo hi its.toArray.size
  unfold slicePick
  rw [h1, h2, h3]
  simp only [sliceRange_one, pick_run, List.size_toArray] <;> rfl
def rSlL (K : PySem.W.Frag) : V → Option Int → Option Int → Hp → VK → Prop := fun x lo hi H Q => ∃ a xs, x = .ref a ∧ SqL K H a xs ∧ ∀ p, H p = none → Q (.ref p) (upd H p (.lst (cutV xs lo hi)))
theorem sl_list : SlR X (rSlL X.K) := by
  intro pins s σ H x v vl vu lo hi sl Q I rx hs pl pu h
  obtain ⟨a, xs, rfl, hx, q⟩ := h
  cases rx
  obtain ⟨its, r, ht, hz⟩ := I.list hx
  have hlen := r.length
  refine ⟨"list", _, slot_list_getitem.lookup, ht.isList.typeIs, ?_⟩
  refine wpAny_getItem_list_slice ht.isList hs pl pu .none (by simp) ?_ (by rw [List.size_toArray] <;> omega)
  rw [slicePick_cut, ← hlen]
  refine ⟨.ref s.heap.objs.size, _, I.laid (t' := s.toks) (o := .lst (cutV xs lo hi)) (fun b ob q => Heap.get?_push_of_some _ q) (Nat.le_refl _) ?_, rfl, q _ (I.hok.fresh (Nat.le_refl _))⟩
  exact ⟨Nat.le_trans (cutV_length xs lo hi) hz, _, 0, (r.drop (HT.sIx xs.length 0 lo)).take (HT.sIx xs.length xs.length hi - HT.sIx xs.length 0 lo), Heap.get?_push_size _ rfl⟩
theorem call_len_seq : CallR X (.builtin "len") (fun xs H Q => ∃ p ys, xs = [.ref p] ∧ (SqL X.K H p ys ∨ SqT X.K H p ys) ∧ Q (.int ys.length) H) := by
  intro pins s σ H xs us Q I r h
  obtain ⟨p, ys, rfl, hq, q⟩ := h
  obtain ⟨u, rfl, rx⟩ := vals1 r
  cases rx
  have hn := line63
  rcases hq with hq | hq
  · obtain ⟨its, r', pl, hz⟩ := I.list hq
    have hlen := r'.length
    exact Calls.call_len_list pl.isList (by simp only [List.size_toArray] <;> omega) ⟨.int ys.length, H, I.tok _, ⟨s.toks + 1, by rw [List.size_toArray, hlen]⟩, q⟩
  · obtain ⟨its, r', pl, hz⟩ := I.tuple hq
    have hlen := r'.length
    exact len_tuple pl (by simp only [List.size_toArray] <;> omega) ⟨.int ys.length, H, I.tok _, ⟨s.toks + 1, by rw [List.size_toArray, hlen]⟩, q⟩
theorem CallR.or {f : Value} {r r' : List V → Hp → VK → Prop} (h : CallR X f r) (h' : CallR X f r') : CallR X f (fun xs H Q => r xs H Q ∨ r' xs H Q) := by
  intro pins s σ H xs us Q I rs q
  rcases q with q | q
  · exact h pins s σ H xs us Q I rs q
  · exact h' pins s σ H xs us Q I rs q
theorem call_list_of : CallR X (.type "list") (fun xs H Q => ∃ p ys, xs = [.ref p] ∧ (SqL X.K H p ys ∨ SqT X.K H p ys) ∧ ∀ l, H l = none → Q (.ref l) (upd H l (.lst ys))) := by
  intro pins s σ H xs us Q I r h
  obtain ⟨p, ys, rfl, hq, q⟩ := h
  obtain ⟨u, rfl, rx⟩ := vals1 r
  cases rx
  have fin : ∀ (its : List Value), Vals ys its → ys.length ≤ sizeLine → ∀ (h' : Heap) (c' : Nat), (∀ b o', s.heap.get? b = some o' → h'.get? b = some o') →
      h'.get? s.heap.objs.size = some { cls := .type "list", dict := none, data := .seq its.toArray c', slots := #[] } → EP X pins σ Q (.ref s.heap.objs.size) { s with heap := h' } := fun its r' hz h' c' kp e =>
    ⟨.ref s.heap.objs.size, _, I.laid (t' := s.toks) kp (Nat.le_refl _) (show ObjOk X.prog X.w _ h' _ (.lst ys) from ⟨hz, its, c', r', e⟩), rfl, q _ (I.hok.fresh (Nat.le_refl _))⟩
  rcases hq with hq | hq
  · obtain ⟨its, r', pl, hz⟩ := I.list hq
    have hlen := r'.length
    obtain ⟨o, ho, hc, n, hd⟩ := pl.isList
    exact call_list_seq p (.inl rfl) ho hc hd (fun h' c' kp e => fin its r' hz h' c' kp e) (by simp only [List.size_toArray] <;> omega)
  · obtain ⟨its, r', pl, hz⟩ := I.tuple hq
    have hlen := r'.length
    obtain ⟨o, ho, hc, n, hd⟩ := pl
    exact call_list_seq p (.inr rfl) ho hc hd (fun h' c' kp e => fin its r' hz h' c' kp e) (by simp only [List.size_toArray] <;> omega)
theorem call_tuple_of : CallR X (.type "tuple") (fun xs H Q => ∃ p ys, xs = [.ref p] ∧ ((SqL X.K H p ys ∧ ∀ l, H l = none → Q (.ref l) (upd H l (.tup ys))) ∨ (SqT X.K H p ys ∧ Q (.ref p) H))) := by
  intro pins s σ H xs us Q I r h
  obtain ⟨p, ys, rfl, h⟩ := h
  obtain ⟨u, rfl, rx⟩ := vals1 r
  cases rx
  rcases h with ⟨hq, q⟩ | ⟨hq, q⟩
  · obtain ⟨its, r', pl, hz⟩ := I.list hq
    have hlen := r'.length
    refine call_tuple_list pl.isList (fun h' kp => ?_) (by simp only [List.size_toArray] <;> omega)
    have I1 : Inv X pins σ H { s with heap := h' } := I.kept (t' := s.toks) kp
    have I2 : Inv X pins σ (upd H h'.objs.size (.tup ys)) { s with heap := h'.push { cls := .type "tuple", data := .seq its.toArray } } :=
      I1.laid (t' := s.toks) (fun b o e => Heap.get?_push_of_some _ e) (Nat.le_refl _) (show ObjOk X.prog X.w _ _ _ (.tup ys) from ⟨hz, its, r', IsTup.new _ _⟩)
    exact ⟨.ref h'.objs.size, _, I2, rfl, q _ (I1.hok.fresh (Nat.le_refl _))⟩
  · obtain ⟨its, r', pl, hz⟩ := I.tuple hq
    exact call_tuple_same pl ⟨.ref p, H, I, rfl, q⟩
def tyV (K : PySem.W.Frag) (T : String) (x : V) (H : Hp) : Prop := match x with
  | .str _ => T = "str"
  | .int _ => T = "int"
  | .ref p => (T = "list" ∧ ∃ xs, SqL K H p xs) ∨ (T = "tuple" ∧ ∃ o, K.lookup p = some o ∧ o.cls = .type "tuple" ∧ o.dict = none) ∨
      (T = "dict" ∧ ((∃ kvs, H p = some (.dK kvs)) ∨ ∃ kvs, H p = some (.dT kvs))) ∨ (T = "set" ∧ ∃ S n, H p = some (.set S n))
  | _ => False
theorem tyV_is {pins : List (Addr × Obj)} {σ : St} {H : Hp} {s : Shared} {T : String} {x : V} {v : Value} (I : Inv X pins σ H s) (r : RelV x v) (ty : tyV X.K T x H) :
    s.TypeIs v T ∧ ∀ a, v = .ref a → ∃ ob, s.heap.get? a = some ob ∧ ob.dict = none := by
  cases x with
  | str z =>
    obtain ⟨t, rfl⟩ := r
    cases (show T = "str" from ty)
    exact ⟨typeIs_str s z t, fun _ e => nomatch e⟩
  | int i =>
    obtain ⟨t, rfl⟩ := r
    cases (show T = "int" from ty)
    exact ⟨typeIs_int s i t, fun _ e => nomatch e⟩
  | ref p =>
    cases r
    rcases ty with ⟨rfl, xs, hq⟩ | ⟨rfl, o, hk, hc, hd⟩ | ⟨rfl, hk⟩ | ⟨rfl, S, n, hk⟩
    · obtain ⟨its, _, pl, _⟩ := I.list hq
      refine ⟨pl.isList.typeIs, fun a e => ?_⟩
      cases e
      obtain ⟨o, n, e, c, hd, _⟩ := pl
      exact ⟨o, e, hd⟩
    · refine ⟨⟨o, I.kIn p o hk, hc⟩, fun a e => ?_⟩
      cases e
      exact ⟨o, I.kIn _ o hk, hd⟩
    · have z : ∃ o, s.heap.get? p = some o ∧ o.ExactDict := by
        rcases hk with ⟨kvs, hk⟩ | ⟨kvs, hk⟩
        · obtain ⟨_, _, _, _, o, _, _, e, ex, _⟩ := I.hok p _ hk
          exact ⟨o, e, ex⟩
        · obtain ⟨_, _, _, _, o, _, _, e, ex, _⟩ := I.hok p _ hk
          exact ⟨o, e, ex⟩
      obtain ⟨o, e, ex⟩ := z
      refine ⟨⟨o, e, ex.1⟩, fun a e2 => ?_⟩
      cases e2
      exact ⟨o, e, ex.2.1⟩
    · obtain ⟨o, _, _, _, e, ex, _⟩ := I.hok p _ hk
      refine ⟨⟨o, e, ex.1⟩, fun a e2 => ?_⟩
      cases e2
      exact ⟨o, e, ex.2.1⟩
  | _ => exact False.elim ty
def tBM (K : PySem.W.Frag) (T : String) (r : V → List V → Hp → VK → Prop) (to : TE) (t : TA) : TE := fun σ H Q => to σ H fun x H1 => tyV K T x H1 ∧ t σ H1 fun xs H2 => r x xs H2 Q
variable {o e : Expr} {es : List Expr} {to : TE} {t : TA} {name : Str} {apos cpos : Pos} {T id : String} {r : V → List V → Hp → VK → Prop}
theorem pe_bm (pa : PlainAttrs T) (slot : Slot T name id) (hty : typeOf (.builtin id) = pure (.type "method_descriptor")) (hm : MtR X id r) (ho : PE X o to) (ha : PA X (e :: es) t)
    (hbase : attributeBase o name X.env (eval o X.env) = eval o X.env := by rfl)
    (hfew : ((backTo cpos (starEach (e :: es) X.env)).all (fun x => !x.1) && (backToKw cpos (keywordEach [] X.env)).all (fun x => x.1.isSome)
      && decide ((e :: es).length + ([] : List Keyword).length + (if ([] : List Keyword).isEmpty then 0 else 1) < 30)) = true := by rfl)
    (hline : (apos.endLine == cpos.line) = true := by rfl) (hs : starEach (e :: es) X.env = (false, eval e X.env) :: starEach es X.env := by rfl) (hplain : (backTo cpos (starEach es X.env)).any (·.1) = false := by rfl) :
    PE X (.Call (.Attribute o name apos) (e :: es) [] cpos) (tBM X.K T r to t) := by
  intro pins s σ H Q I h
  refine wpAny_Call_method_late hbase hfew hline rfl (thn (ho pins s σ H _ I h) fun v s1 ⟨x, H1, I1, r1, ty, q1⟩ => ?_)
  obtain ⟨h1, h2⟩ := tyV_is I1 r1 ty
  refine ⟨T, id, pa, slot, hty, h1, h2, ?_⟩
  have hA := ha cpos pins s1 σ H1 _ I1 q1
  rw [hs] at hA ⊢
  refine Calls.callWith_builtin (by show (false || (backTo cpos (starEach es X.env)).any (·.1)) = false; rw [hplain] <;> rfl) (Calls.evalArgs_plain ?_)
  exact thn hA fun us s2 ⟨vs, H2, I2, r2, q2⟩ => hm pins s2 σ H2 x vs v us Q I2 r1 r2 q2
/- xs.append(e), list.index on a module's tuple .. are MtR facts of 06m -/
end
end L2
namespace L2
open PySem PySem.Spec PyProof.Rows
def MtM (X : Cx) (id : String) (r : V → List V → Hp → VK → Prop) : Prop :=
  ∀ (pins : List (Addr × Obj)) (s : Shared) (σ : St) (H : Hp) (x : V) (xs : List V) (v : Value) (us : List Value) (Q : VK), Inv X pins σ H s → RelV x v → Vals xs us → r x xs H Q →
    wpAny (model X.prog X.w) X.A (call (.builtin id) (v :: us)) (EP X pins σ Q) X.xe s
theorem Vals.one : ∀ {x : V} {us : List Value}, Vals [x] us → ∃ u, us = [u] ∧ RelV x u
  | _, _, .cons r .nil => ⟨_, rfl, r⟩
theorem Vals.zero : ∀ {us : List Value}, Vals [] us → us = []
  | _, .nil => rfl
theorem Vals.reverse {xs : List V} {us : List Value} (h : Vals xs us) : Vals xs.reverse us.reverse := by
  induction h with
  | nil => exact .nil
  | cons r t ih => rw [List.reverse_cons, List.reverse_cons]; exact Vals.append ih (.cons r .nil)
theorem Vals.rep {xs : List V} {us : List Value} (h : Vals xs us) : ∀ k : Nat, Vals (List.replicate k xs).flatten (List.replicate k us).flatten
  | 0 => .nil
  | k + 1 => by
    rw [List.replicate_succ, List.replicate_succ, List.flatten_cons, List.flatten_cons]
    exact Vals.append h (Vals.rep h k)
theorem foldl_rep (its : List Value) : ∀ (k : Nat) (acc : List Value),
    List.foldl (fun x1 x2 => x1 ++ x2) acc.toArray (List.replicate k its.toArray) = (acc ++ (List.replicate k its).flatten).toArray
  | 0, acc => by simp
  | k + 1, acc => by
    have e : acc.toArray ++ its.toArray = (acc ++ its).toArray := by simp
    have e2 : (acc ++ its) ++ (List.replicate k its).flatten = acc ++ (List.replicate (k + 1) its).flatten := by
      rw [List.replicate_succ, List.flatten_cons, List.append_assoc]
    rw [← e2, ← foldl_rep its k (acc ++ its), ← e, List.replicate_succ, List.foldl_cons]
section
variable {X : Cx} {pins : List (Addr × Obj)} {σ : St} {H : Hp} {s : Shared} {l b : Addr} {xs ys zs : List V}
theorem Inv.lset {its its' : List Value} {n : Nat} {f : Array Value → Array Value} {t' : Nat} (I : Inv X pins σ H s) (hH : H l = some (.lst xs))
    (e : s.heap.get? l = some { cls := .type "list", data := .seq its.toArray n }) (hf : f its.toArray = its'.toArray) (hv : Vals ys its') (hz : ys.length ≤ sizeLine) :
    Inv X pins σ (upd H l (.lst ys)) { s with heap := s.heap.update l (Obj.mapSeq f), toks := t' } := by
  have q := PySem.IsL.update e f
  rw [hf] at q
  refine I.write (x := l) (e := l) (by rw [hH]; exact trivial) (.inl rfl) (fun b' u hb hu => (Heap.get?_update_other s.heap (Obj.mapSeq f) (Ne.symm hb)).trans hu) ⟨_, q⟩ ?_
  exact ⟨hz, its', _, hv, q⟩
theorem Inv.lnew {its : List Value} {t' : Nat} (I : Inv X pins σ H s) (hv : Vals ys its) (hz : ys.length ≤ sizeLine) :
    Inv X pins σ (upd H s.heap.objs.size (.lst ys)) { s with heap := s.heap.push { cls := .type "list", data := .seq its.toArray }, toks := t' } :=
  I.laid (fun _ _ q => Heap.get?_push_of_some _ q) (Nat.le_refl _) ⟨hz, its, 0, hv, Heap.get?_push_size _ rfl⟩
theorem Inv.fresh (I : Inv X pins σ H s) : H s.heap.objs.size = none := I.hok.fresh (Nat.le_refl _)
theorem Inv.lstM (I : Inv X pins σ H s) (hH : H l = some (.lst xs)) : xs.length ≤ sizeLine ∧ ∃ (its : List Value) (n : Nat), Vals xs its ∧ xs.length = its.length ∧ s.heap.get? l = some { cls := .type "list", data := .seq its.toArray n } := by
  obtain ⟨z, its, n, r, e⟩ := I.hok l _ hH
  exact ⟨z, its, n, r, r.length, e⟩
theorem notLongL {n : Nat} (h : n ≤ sizeLine) : Builtin.List.listTooLong n = false := by
  unfold Builtin.List.listTooLong
  exact decide_eq_false (by omega)
end
section
variable {X : Cx}
def rAppend : V → List V → Hp → VK → Prop := fun x vs H Q => ∃ l xs y, x = .ref l ∧ vs = [y] ∧ H l = some (.lst xs) ∧ xs.length < sizeLine ∧ Q .non (upd H l (.lst (xs ++ [y])))
theorem mt_append : MtM X "list.append" rAppend := by
  intro pins s σ H x vs v us Q I rx rv h
  obtain ⟨l, xs, y, rfl, rfl, hH, hz, q⟩ := h
  cases rx
  obtain ⟨u, rfl, ru⟩ := rv.one
  obtain ⟨z, its, n, r, hl, e⟩ := I.lstM hH
  refine call_meets F.slot_list_append ⟨_, e, rfl⟩ F.entry_list_append (F.args_list_append_2 _ _) (PySem.list_append l its.toArray n u (by rw [List.size_toArray]; omega)) ⟨e, ?_⟩
  refine ⟨.non, _, I.lset (its' := its ++ [u]) hH e (by simp) (r.append (.cons ru .nil)) ?_, rfl, q⟩
  rw [List.length_append, List.length_singleton]
  omega
def rRep : R2 := fun x y H Q => ∃ l k xs, x = .ref l ∧ y = .int k ∧ H l = some (.lst xs) ∧ -(2 ^ 63) ≤ k ∧ k < 2 ^ 63 ∧ xs.length * k.toNat ≤ sizeLine ∧
  ∀ p, H p = none → Q (.ref p) (upd H p (.lst (List.replicate k.toNat xs).flatten))
theorem len_rep {α : Type} (xs : List α) (k : Nat) : (List.replicate k xs).flatten.length = k * xs.length := by
  induction k with
  | zero => simp
  | succ k ih => rw [List.replicate_succ, List.flatten_cons, List.length_append, ih, Nat.succ_mul, Nat.add_comm]
theorem op_rep : OpR X (binaryOp .Mult) rRep := by
  intro pins s σ H x y v u Q I rx ry h
  obtain ⟨l, k, xs, rfl, rfl, hH, h1, h2, hz, q⟩ := h
  cases rx
  obtain ⟨t, rfl⟩ := ry
  obtain ⟨z, its, n, r, hl, e⟩ := I.lstM hH
  have hlen : its.toArray.size * k.toNat ≤ sizeLine := by rw [List.size_toArray, ← hl]; exact hz
  have hcap : ¬ its.toArray.size * k.toNat > (2 ^ 63 - 1) / 8 := by
    have : (sizeLine : Nat) ≤ (2 ^ 63 - 1) / 8 := by decide
    omega
  have hfit : ¬ (!Builtin.List.listFitsIndex k) = true := by
    rw [fitsIndex_both h1 h2]
    exact Bool.false_ne_true
  have hlong : ¬ Builtin.List.listTooLong (its.toArray.size * k.toNat) = true := by
    rw [notLongL hlen]
    exact Bool.false_ne_true
  have hnew : List.foldl (fun x1 x2 => x1 ++ x2) #[] (List.replicate (if its.toArray.isEmpty = true then 0 else k.toNat) its.toArray) = (List.replicate k.toNat its).flatten.toArray := by
    have f0 : ∀ m : Nat, List.foldl (fun x1 x2 => x1 ++ x2) #[] (List.replicate m its.toArray) = (List.replicate m its).flatten.toArray := fun m => by
      have := foldl_rep its m []
      rw [List.nil_append] at this
      exact this
    rw [f0]
    cases its with
    | nil => simp
    | cons a r' => rw [if_neg (by simp)]
  refine wpAny_binaryOp_repeat_ref (T := "list") (U := "int") (by decide) ⟨_, e, rfl⟩ (fun s' => typeIs_int s' k t) noFill_list_mul F.fills_int_mul F.slot_int_rmul repeat_list F.slot_int_index.lookup
    (call_meets F.slot_int_rmul (typeIs_int s k t) F.entry_int_rmul (F.args_int_rmul_2 _ _) (int___rmul___int_list k t l its.toArray n)
      ⟨e, rfl, ⟨_, e, rfl⟩, call_meets F.slot_list_mul ⟨_, e, rfl⟩ F.entry_list_mul (F.args_list_mul_2 _ _) (AutoListH.list___mul___list_int_3 l its.toArray n k t hfit hcap hlong) ⟨e, ?_⟩⟩)
  rw [hnew]
  exact ⟨.ref _, _, I.lnew (t' := s.toks) (r.rep k.toNat) (by rw [len_rep, Nat.mul_comm]; exact hz), rfl, q _ I.fresh⟩
end
section
variable {prog : Program} {w : World} {A : Around} {E : Value → Shared → Prop} {s : Shared}
set_option maxRecDepth 100000 in
end
section
variable {X : Cx}
end
end L2
namespace Att
open PySem PySem.W PySem.Calls PyProof.Rows
theorem ints_of_wellAll {P : Params} {h : Heap} : ∀ (ns : List Int) (vs : List Value), WellAll P h vs (ns.map WData.int) → IntsAre vs ns := by
  intro ns
  induction ns with
  | nil =>
    intro vs w
    rw [List.map_nil] at w
    cases w
    exact .nil
  | cons n ns ih =>
    intro vs w
    rw [List.map_cons] at w
    cases w with
    | cons a b =>
      cases a
      exact .cons _ _ (ih _ b)
theorem script_of {l : OpenLaw} {n : Nat} (hn : l.most = some n) {P : Params} {h : Heap} {args : List WData} {vals : List Value}
    (hpre : l.row.toRowW.claim.pre args = true) (hwl : WellAll P h vals args) :
    ∃ a vs ns, vals = [Value.ref a] ∧ args = [WData.list (ns.map WData.int)] ∧ h.get? a = some { cls := .type "list", data := .seq vs.toArray } ∧ IntsAre vs ns ∧ ns.length ≤ n := by
  have hsh : WShape.hasAll [] args [.list .int] = true := (pre_splitW hpre).1
  have hc : l.pre.holds [] { args := args } = true := (pre_splitW hpre).2
  obtain ⟨d, r, rfl, h1, h2⟩ := hasAllW_cons hsh
  obtain rfl := hasAllW_nil h2
  obtain ⟨xs, rfl, h3⟩ := hasW_list h1
  obtain ⟨ns, rfl⟩ := items_int h3
  have hlen : ns.length ≤ n := by
    unfold OpenLaw.pre at hc
    have h4 : (WTm.not (.lt (.lit (.int (n : Int))) (.len (.arg 0)))).holds [] { args := [.list (ns.map .int)] } = true := by
      have h4 := (holds_andW hc).1
      rw [hn] at h4
      exact h4
    have h5 := condW_of h4 (w_not (w_lt w_lit (w_len_list (w_arg rfl))))
    rw [List.length_map] at h5
    refine Nat.le_of_not_lt fun q => ?_
    have q' : (n : Int) < ((ns.length : Nat) : Int) := by omega
    first
      | (rw [decide_eq_true q'] at h5; exact absurd h5 (by decide))
      | (simp at h5; omega)
  cases hwl with
  | cons w1 w2 =>
    cases w2
    cases w1 with
    | list ho hall => exact ⟨_, _, ns, rfl, rfl, ho, ints_of_wellAll ns _ hall, hlen⟩
theorem post_true (l : OpenLaw) (args : List WData) : l.row.toRowW.claim.post args (.bool true) args = true :=
  postW_of (r := l.row.toRowW) (X := (true == true))
    (show WShape.has [] (.bool true) .bool = true by first | rfl | decide | simp [WShape.has, WShape.arms, WShape.armsAll])
    (show (WTm.eq .res (.lit (.bool true))).value [] { args := args, res := some (.bool true), after := args } = some (.bool (true == true)) from w_eq_bool (w_res rfl) w_lit) rfl
theorem attach_call {l : OpenLaw} {n : Nat} {q : Program} {loose : List Str} {XP : (Str → Option Value) → Heap → Prop} {YP : World → Heap → Prop} {d : DefRec}
    (hn : l.most = some n) (hdf : d.params.defaults = [])
    (call : ∀ (w : World) (s₀ s₁ : Shared) (mg mb : Str → Option Value) (fa : Addr) (o : Obj) (pm cd doc : Value) (a : Addr) (vs : List Value) (ns : List Int),
      Ground q loose [] XP w s₀ mg mb s₁.heap → YP w s₁.heap →
      s₁.heap.get? fa = some o → o.data = .func (docDef d.name d.params d.body d.scope pm cd doc) → s₁.heap.CodeRec cd d.name → mg d.name = some (.ref fa) →
      s₁.heap.get? a = some { cls := .type "list", data := .seq vs.toArray } → IntsAre vs ns → ns.length ≤ n → s₁.gens = #[] →
      codeAny (model l.prog w) callerA (.call (.ref fa) ⟨[.ref a], []⟩) (fun r s' => r = .ok (.ret (.bool true)) ∧ OldK s₁.heap s'.heap ∧ s'.os = s₁.os ∧ AllBare s'.gens) s₁) :
    WalkO q loose XP YP l.row.toRowW d [] (fun f vs => PySem.call f vs) := by
  intro w s₀ s₁ mg mb G Y fa o pm cd doc dV kV ho hd hcd hD hmg hg args vals as hpre hlay hrd hwl hlo
  obtain rfl : dV = .none := Dflts.none hD hdf
  obtain rfl : kV = .none := Dflts.noKw hD
  obtain ⟨a, vs, ns, rfl, rfl, hobj, hints, hlen⟩ := script_of hn hpre hwl
  refine enter_call (codeAny_mono (call w s₀ s₁ mg mb fa o pm cd doc a vs ns G Y ho (fd_plain hd) hcd hmg hobj hints hlen hg) fun r s' hq => ?_)
  obtain ⟨rfl, h2, h3, h4⟩ := hq
  exact ⟨.inl ⟨.bool true, .bool true, [], rfl, fun _ => rfl, .bool true, post_true l _, fun _ => ⟨List.Pairwise.nil, fun _ hm => (nomatch hm)⟩⟩, h2, h3, h4⟩
section
variable {prog : Program} {w : World} {A : Around} {E : Value → Shared → Prop} {s : Shared} {K : Frag}
end
end Att
namespace L2
open PySem PySem.Spec PyProof.Rows
theorem vals_ints : ∀ {vs : List Value} {ns : List Int}, IntsAre vs ns → Vals (ns.map V.int) vs
  | _, _, .nil => .nil
  | _, _, .cons n t h => .cons ⟨t, rfl⟩ (vals_ints h)
def Only (H : Hp) : Prop := ∀ b, H b = none ∨ ∃ o xs, H b = some (.frz o (.lst xs))
theorem law_call {P : Program} {w : World} {K : PySem.W.Frag} {mg mb : Str → Option Value} {CX : CXT} {k : Nat} {fa a : Addr} {fd : FuncData} {x : Str} {sp : Sp} {s₁ : Shared} {vs : List Value} {ns : List Int}
    (KX : K.In s₁.heap) (hns : s₁.heap.Ns mainGlobals mg) (hb : s₁.heap.Ns builtinsNs mb) (hbb : ∀ x : Str, x ≠ "__name__" → mb x = bootBuiltins x) (hlim : s₁.heap.NoLimit) (hg : s₁.gens = #[])
    (ha : s₁.heap.get? a = some { cls := .type "list", data := .seq vs.toArray }) (hi : IntsAre vs ns) (hl : ns.length ≤ sizeLine) (hr : Room k callerA)
    (F : ∀ base : Heap, K.In base → base.Ns mainGlobals mg → FnOk P w K mg base CX k fa fd [x] sp) (hbind : ∀ (s : Shared) (u : Value), BindsTo s fd ⟨[u], []⟩ [(x, u)])
    (hsp : ∀ H : Hp, Only H → SqL K H a (ns.map V.int) → sp [.ref a] H (fun v _ => v = .bl true) fun _ _ _ => False)
    (hCX : ∀ H e s', CX [] H s₁ (fun _ _ _ => False) e s' → False) :
    codeAny (model P w) callerA (.call (.ref fa) ⟨[.ref a], []⟩) (fun r s' => r = .ok (.ret (.bool true)) ∧ OldK s₁.heap s'.heap ∧ s'.os = s₁.os ∧ AllBare s'.gens) s₁ := by
  have rv := vals_ints hi
  have lenV := hi.length
  have core : ∀ H : Hp, Only H → SqL K H a (ns.map V.int) → HOk P w H s₁.heap → (∀ b, H b ≠ none → b = a) → (H a ≠ none → K.lookup a = none) →
      codeAny (model P w) callerA (.call (.ref fa) ⟨[.ref a], []⟩) (fun r s' => r = .ok (.ret (.bool true)) ∧ OldK s₁.heap s'.heap ∧ s'.os = s₁.os ∧ AllBare s'.gens) s₁ := by
    intro H hO hS hok hA hK
    have base_of : ∀ {b : Addr} {o : Obj}, s₁.heap.get? b = some o → H b = none → (hidT s₁.heap H).get? b = some o := fun e n => hidT_get e n
    have noA : ∀ {b : Addr} {o : Obj} {es : Array DictEntry} {ep : Nat}, s₁.heap.get? b = some o → o.data = .dict es ep → H b = none := fun {b o es ep} e d => by
      cases q : H b with
      | none => rfl
      | some u =>
        have e' : b = a := hA b (by rw [q]; simp)
        subst e'
        rw [ha] at e; cases e
        have d' : Data.seq vs.toArray _ = Data.dict es ep := d
        cases d'
    have nsK : ∀ {b : Addr} {m : Str → Option Value}, s₁.heap.Ns b m → (hidT s₁.heap H).Ns b m := fun {b m} ⟨o, es, ep, e, d, r⟩ => ⟨o, es, ep, base_of e (noA e d), d, r⟩
    have hKb : K.In (hidT s₁.heap H) := fun b o e => base_of (KX b o e) (by
      cases q : H b with
      | none => rfl
      | some u =>
        have e' : b = a := hA b (by rw [q]; simp)
        subst e'
        rw [hK (by rw [q]; simp)] at e; cases e)
    have hM : Mod K mg (hidT s₁.heap H) := ⟨hKb, nsK hns, ⟨mb, nsK hb, hbb⟩, let ⟨mc, h1, h2⟩ := hlim; ⟨mc, nsK h1, h2⟩⟩
    have e0 : Env0 P w K mg (hidT s₁.heap H) callerA [] s₁ H := ⟨rfl, hM, fun b o e => of_hidT e, Nat.le_of_eq (hidT_size _ _), trivial, fun b hb => absurd (show b ∈ ([] : List Addr) from hb) (by simp), hok, .of_eq hg⟩
    refine codeAny_mono ((F _ hKb (nsK hns)).run callerA [] s₁ H ⟨[.ref a], []⟩ [.ref a] [.ref a] _ _ hr e0 (hbind s₁ (.ref a)) (.cons rfl .nil) (hsp H hO hS)) fun r s' h => ?_
    cases r with
    | error e => exact (hCX H e s' h).elim
    | ok fl =>
      cases fl with
      | next => exact False.elim h
      | brk => exact False.elim h
      | cont => exact False.elim h
      | ret u =>
        obtain ⟨v, H', os, bare, un, hok', r', q⟩ := h
        have q' : v = .bl true := q
        subst q'
        obtain rfl : u = Value.bool true := r'
        refine ⟨rfl, OldK.of_keep fun b o e => ?_, os, bare⟩
        cases q : H b with
        | none => exact un.keep b o e q (by intro z; exact absurd (show b ∈ ([] : List Addr) from z) (by simp)) (by simp)
        | some u =>
          rcases hO b with z | ⟨ob, xs, z⟩
          · rw [q] at z; cases z
          · have z2 := un.frzs b ob _ z
            obtain ⟨e1, _⟩ := hok b _ z
            obtain ⟨e2, _⟩ := hok' b _ z2
            rw [e] at e1; cases e1
            exact e2
  cases hk : K.lookup a with
  | some o =>
    have e := KX a o hk
    rw [ha] at e
    cases e
    refine core (fun _ => none) (fun _ => .inl rfl) (.inr ⟨_, vs.toArray, _, hk, rfl, rfl, rfl, by rw [List.size_toArray, lenV]; exact hl, by simpa using rv⟩) (fun b u z => by have z' : (none : Option HO) = some u := z; cases z') (fun b z => absurd rfl z) fun z => absurd rfl z
  | none =>
    refine core (fun b => if b = a then some (.frz { cls := .type "list", data := .seq vs.toArray } (.lst (ns.map V.int))) else none) (fun b => ?_) (.inl (.inr ⟨{ cls := .type "list", data := .seq vs.toArray }, if_pos rfl⟩)) (fun b u z => ?_) (fun b z => ?_) fun _ => hk
    · by_cases hb : b = a
      · exact .inr ⟨_, _, if_pos hb⟩
      · exact .inl (if_neg hb)
    · by_cases hb : b = a
      · have z' := (if_pos hb).symm.trans z
        cases z'
        subst hb
        exact ⟨ha, by rw [List.length_map]; exact hl, vs, _, rv, ha⟩
      · have z' := (if_neg hb).symm.trans z
        cases z'
    · by_cases hb : b = a
      · exact hb
      · exact absurd (if_neg hb) z
end L2
namespace L2
open PySem PySem.Spec PyProof.Rows
abbrev KOf {K : PySem.W.Frag} {h : Heap} (_ : K.In h) : PySem.W.Frag := K
theorem walk_of {l : PySem.W.OpenLaw} {n k : Nat} {q : Program} {loose : List Str} {XP : (Str → Option Value) → Heap → Prop} {YP : World → Heap → Prop} {d : DefRec} {K : Params → PySem.W.Frag} {CX : World → CXT} {sp : World → Sp} {x : Str}
    (hn : l.most = some n) (hn2 : n ≤ sizeLine) (hdf : d.params.defaults = []) (hr : Room k callerA)
    (hY : ∀ (w : World) (h : Heap), YP w h → (K w.params).In h)
    (F : ∀ (w : World) (mg : Str → Option Value) (fa : Addr) (h : Heap), (K w.params).In h → h.Ns mainGlobals mg → mg d.name = some (.ref fa) →
      ∃ fd : FuncData, (∀ (s : Shared) (u : Value), BindsTo s fd ⟨[u], []⟩ [(x, u)]) ∧
        ∀ base : Heap, (K w.params).In base → base.Ns mainGlobals mg → FnOk l.prog w (K w.params) mg base (CX w) k fa fd [x] (sp w))
    (hsp : ∀ (w : World) (H : Hp) (a : Addr) (ns : List Int), ns.length ≤ n → Only H → SqL (K w.params) H a (ns.map V.int) → sp w [.ref a] H (fun v _ => v = .bl true) fun _ _ _ => False)
    (hCX : ∀ (w : World) (H : Hp) (s : Shared) (e : Value) (s' : Shared), CX w [] H s (fun _ _ _ => False) e s' → False) :
    PySem.W.WalkO q loose XP YP l.row.toRowW d [] (fun f vs => PySem.call f vs) := by
  refine Att.attach_call hn hdf fun w s₀ s₁ mg mb fa o pm cd doc a vs ns G Y ho hd hcd hmg hobj hints hlen hg => ?_
  have KX := hY w _ Y
  obtain ⟨fd, hb, hF⟩ := F w mg fa _ KX G.T.g hmg
  exact law_call KX G.T.g G.T.b G.T.builtins G.T.nolimit hg hobj hints (Nat.le_trans hlen hn2) hr hF hb (fun H hO hS => hsp w H a ns hlen hO hS) fun H e s' => hCX w H s₁ e s'
theorem walk_ofK {l : PySem.W.OpenLaw} {n k : Nat} {q : Program} {loose : List Str} {XP : (Str → Option Value) → Heap → Prop} {YP : World → Heap → Prop} {d : DefRec} {K : Params → PySem.W.Frag} {CX : CXT} {sp : PySem.W.Frag → Sp} {x : Str}
    (hn : l.most = some n) (hn2 : n ≤ sizeLine) (hdf : d.params.defaults = []) (hr : Room k callerA)
    (hY : ∀ (w : World) (h : Heap), YP w h → (K w.params).In h)
    (F : ∀ (w : World) (mg : Str → Option Value) (fa : Addr) (h : Heap), (K w.params).In h → h.Ns mainGlobals mg → mg d.name = some (.ref fa) →
      ∃ fd : FuncData, (∀ (s : Shared) (u : Value), BindsTo s fd ⟨[u], []⟩ [(x, u)]) ∧
        ∀ base : Heap, (K w.params).In base → base.Ns mainGlobals mg → FnOk l.prog w (K w.params) mg base CX k fa fd [x] (sp (K w.params)))
    (hsp : ∀ (K : PySem.W.Frag) (H : Hp) (a : Addr) (ns : List Int), ns.length ≤ n → Only H → SqL K H a (ns.map V.int) → sp K [.ref a] H (fun v _ => v = .bl true) fun _ _ _ => False)
    (hCX : ∀ (H : Hp) (s : Shared) (e : Value) (s' : Shared), CX [] H s (fun _ _ _ => False) e s' → False) :
    PySem.W.WalkO q loose XP YP l.row.toRowW d [] (fun f vs => PySem.call f vs) :=
  walk_of (K := K) (CX := fun _ => CX) (sp := fun w => sp (K w.params)) hn hn2 hdf hr hY F (fun w H a ns h1 h2 h3 => hsp (K w.params) H a ns h1 h2 h3) fun _ H s e s' => hCX H s e s'
end L2
/- THE LAST THEOREM (shape; LID, My.* are yours):
   My.Adr: a structure of the addresses that your layer names (classes, functions); My.Txt K t: a structure (Prop) of the equations over K;
   My.txt_mk : {K} {implicit addresses ..} (e1 : nsIn K mainGlobals "law" = some (some (.ref f))) (e2 : K.lookup f = some ⟨oc, od, .func (fnOf "law" "law" params body scope dV kV doc pm an cdv ct), sl⟩) (e3 : codeIn K cdv "law" = true) .. : ∃ t, My.Txt K t
set_option maxRecDepth 100000 in
set_option maxHeartbeats 0 in
(the tactic k_is has no namespace: write k_is) -/
namespace L2
open PySem PySem.Spec PyProof.Rows
def defArgs (s : Stmt) : Arguments := match s with
  | .FunctionDef _ a _ _ _ _ _ _ _ _ => a
  | _ => { posonlyargs := [], args := [], vararg := none, kwonlyargs := [], kw_defaults := [], kwarg := none, defaults := [] }
def defBody (s : Stmt) : List Stmt := match s with
  | .FunctionDef _ _ b _ _ _ _ _ _ _ => b
  | _ => []
def defScope (s : Stmt) : Scope := match s with
  | .FunctionDef _ _ _ _ _ _ sc _ _ _ => sc
  | _ => { kind := .function, names := [], isGenerator := false, isCoroutine := false }
abbrev CX0 : CXT := fun _ _ _ _ _ _ => False
abbrev E0 : XK := fun _ _ _ => False
theorem pass0 {X : Cx} : Passes CX0 X E0 := fun _ _ _ _ _ _ _ h => h.elim
structure Fun (K : PySem.W.Frag) (x qual : Str) (st : Stmt) (f : Addr) (fd : FuncData) : Prop where
  ex : ∃ (oc : Value) (od : Option Addr) (kV doc pm : Value) (an : Option Addr) (cdv ct : Value) (osl : Array (Option Value)),
    fd = PySem.W.fnOf x qual (defArgs st) (defBody st) (defScope st) .none kV doc pm an cdv ct ∧ K.lookup f = some ⟨oc, od, .func fd, osl⟩ ∧ PySem.W.codeIn K cdv qual = true
  kp : PySem.W.keepIn K (.ref f) = true
section
variable {P : Program} {w : World} {K : PySem.W.Frag} {mg : Str → Option Value} {base : Heap}
theorem Fun.ok {x qual : Str} {st : Stmt} {f : Addr} {fd : FuncData} {N ps : List Str} {k : Nat} {sp : Sp} (F : Fun K x qual st f fd) (S : FnScope N ps (defScope st)) (len : ∀ vs H Q E, sp vs H Q E → vs.length = ps.length)
    (hbody : ∀ (cdv : Value) (A : Around) (outer : List Env) (s : Shared) (H : Hp) (vs : List V) (Q : VK) (E : XK), Room k (A.deeper (envOfC qual (defScope st) s.heap.objs.size f cdv)) → sp vs H Q E →
      ∃ t, PSs (cxOf CX0 P w K mg base N qual (defScope st) f cdv A outer s H E).nox (defBody st) t ∧ t { nx := fun _ H' => Q .non H', rt := Q } (start N vs) H) : FnOk P w K mg base CX0 (k + 1) f fd ps sp := by
  obtain ⟨oc, od, kV, doc, pm, an, cdv, ct, osl, rfl, lk, hcd⟩ := F.ex
  refine fn_of lk hcd S len fun A outer s H vs Q E hr hsp => ?_
  obtain ⟨t, h, q⟩ := hbody cdv A outer s H vs Q E hr hsp
  exact ⟨t, h.nox, q⟩
theorem Fun.binds {x qual : Str} {st : Stmt} {f : Addr} {fd : FuncData} {ps : List Str} (F : Fun K x qual st f fd)
    (h : ∀ (kV doc pm : Value) (an : Option Addr) (cdv ct : Value) (us : List Value), us.length = ps.length → bindArgs (PySem.W.fnOf x qual (defArgs st) (defBody st) (defScope st) .none kV doc pm an cdv ct) ⟨us, []⟩ = pure (ps.zip us)) : Binds K fd ps [] := by
  obtain ⟨oc, od, kV, doc, pm, an, cdv, ct, osl, rfl, lk, hcd⟩ := F.ex
  exact .all (h kV doc pm an cdv ct)
end
theorem small1000 {n : Nat} (h : n ≤ 1000) : n < sizeLine := Nat.lt_of_le_of_lt h (by decide)
section
variable {X : Cx}
theorem pv (i : Nat) {x : Str} {pos : Pos} (hN : X.N[i]? = some x := by rfl) (hv : Vis X.env.scope x := by first | exact Or.inl rfl | exact Or.inr (Or.inl rfl) | exact Or.inr (Or.inr rfl)) (hd : (x == ("__debug__" : Str)) = false := by decide)
    (hcd : (x == ("__classdict__" : Str)) = false := by decide) : PE X (.Name x pos) (tVar i) := pe_var hN hv hd hcd
end
theorem iteF {A B : Prop} (h : B) : if false = true then A else B := by
  rw [if_neg Bool.false_ne_true]
  exact h
theorem iteT {A B : Prop} (h : A) : if true = true then A else B := by
  rw [if_pos rfl]
  exact h
def Same (H H' : Hp) : Prop := ∀ b o, H b = some o → H' b = some o
theorem Same.refl (H : Hp) : Same H H := fun _ _ h => h
theorem Same.trans {H H1 H2 : Hp} (a : Same H H1) (b : Same H1 H2) : Same H H2 := fun c o h => b c o (a c o h)
theorem Same.free {H H' : Hp} (e : Same H H') {l : Addr} (h : H' l = Option.none) : H l = Option.none := by
  cases q : H l with
  | none => rfl
  | some o =>
    rw [e l o q] at h
    cases h
theorem Same.seq {K : PySem.W.Frag} {H H' : Hp} {a : Addr} {xs : List V} (e : Same H H') (h : SqL K H a xs) : SqL K H' a xs := by
  rcases h with (h | ⟨o, h⟩) | h
  · exact .inl (.inl (e _ _ h))
  · exact .inl (.inr ⟨o, e _ _ h⟩)
  · exact .inr h
end L2
namespace My
open PySem PySem.Spec PyProof.Rows L2
abbrev St := L2.St
theorem same_new {H : Hp} {p : Addr} (h : H p = none) (o : HO) : Same H (upd H p o) := fun b u q => by rw [upd_ne (ne_of_none q h)]; exact q
theorem same_tup {K : PySem.W.Frag} {H H' : Hp} {a : Addr} {xs : List V} (e : Same H H') (h : SqT K H a xs) : SqT K H' a xs := by
  rcases h with (h | ⟨o, h⟩) | h
  · exact .inl (.inl (e _ _ h))
  · exact .inl (.inr ⟨o, e _ _ h⟩)
  · exact .inr h
structure Df (K : PySem.W.Frag) (mg : Str → Option Value) (x : Str) (st : Stmt) (ps : List Str) : Prop where
  ex : ∃ (f : Addr) (fd : FuncData), Fun K x x st f fd ∧ Binds K fd ps [] ∧ mg x = some (.ref f)
structure Has (P : Program) (w : World) (K : PySem.W.Frag) (mg : Str → Option Value) (base : Heap) (n : Nat) (x : Str) (ps : List Str) (sp : Sp) : Prop where
  ex : ∃ (f : Addr) (fd : FuncData), FnOk P w K mg base CX0 n f fd ps sp ∧ Binds K fd ps [] ∧ PySem.W.keepIn K (.ref f) = true ∧ mg x = some (.ref f)
section
variable {P : Program} {w : World} {K : PySem.W.Frag} {mg : Str → Option Value} {base : Heap} {x : Str} {ps N : List Str} {sp : Sp} {st : Stmt} {k n : Nat}
theorem Has.mono (h : Has P w K mg base k x ps sp) (l : k ≤ n) : Has P w K mg base n x ps sp := by
  obtain ⟨f, fd, F, b, kp, m⟩ := h.ex
  exact ⟨f, fd, F.mono l, b, kp, m⟩
theorem Df.has (D : Df K mg x st ps) (S : FnScope N ps (defScope st)) (len : ∀ vs H Q E, sp vs H Q E → vs.length = ps.length)
    (hbody : ∀ (f : Addr) (cdv : Value) (A : Around) (outer : List Env) (s : Shared) (H : Hp) (vs : List V) (Q : VK) (E : XK), Room k (A.deeper (envOfC x (defScope st) s.heap.objs.size f cdv)) → sp vs H Q E →
      ∃ t, PSs (cxOf CX0 P w K mg base N x (defScope st) f cdv A outer s H E).nox (defBody st) t ∧ t { nx := fun _ H' => Q .non H', rt := Q } (start N vs) H) : Has P w K mg base (k + 1) x ps sp := by
  obtain ⟨f, fd, F, b, m⟩ := D.ex
  exact ⟨f, fd, F.ok S len (hbody f), b, F.kp, m⟩
end
section
variable {X : Cx} {x : Str} {ps : List Str} {sp : Sp} {n : Nat} {p pos : Pos} {e : Expr} {es : List Expr} {t : TA}
theorem pe_callH (h : Has X.prog X.w X.K X.mg X.base n x ps sp) (hr : Room n X.A) (ha : PA X (e :: es) t) (hg : Gl X x := by rfl) (hdb : (x == ("__debug__" : Str)) = false := by decide)
    (he : starEach (e :: es) X.env = (false, eval e X.env) :: starEach es X.env := by rfl) (hpl : (backTo pos (starEach es X.env)).any (·.1) = false := by rfl) :
    PE X (.Call (.Name x p) (e :: es) [] pos) (tCall sp [] E0 t) := by
  obtain ⟨f, fd, F, b, kp, m⟩ := h.ex
  exact pe_call F hr hg m kp b .nil pass0 ha hdb he hpl
end
mutual
inductive RdV (K : PySem.W.Frag) (H : Hp) : V → PyData → Prop
  | non : RdV K H .non .none
  | bl (b : Bool) : RdV K H (.bl b) (.bool b)
  | int (i : Int) : RdV K H (.int i) (.int i)
  | str (x : Str) : RdV K H (.str x) (.str x)
  | lst {a : Addr} {xs : List V} {ds : List PyData} : SqL K H a xs → RdVs K H xs ds → RdV K H (.ref a) (.list ds)
  | tup {a : Addr} {xs : List V} {ds : List PyData} : SqT K H a xs → RdVs K H xs ds → RdV K H (.ref a) (.tuple ds)
inductive RdVs (K : PySem.W.Frag) (H : Hp) : List V → List PyData → Prop
  | nil : RdVs K H [] []
  | cons {v : V} {d : PyData} {vs : List V} {ds : List PyData} : RdV K H v d → RdVs K H vs ds → RdVs K H (v :: vs) (d :: ds)
end
section
variable {X : Cx} {pins : List (Addr × Obj)} {σ : St} {H : Hp} {s : Shared}
mutual
theorem RdV.reads (I : Inv X pins σ H s) : ∀ {v : V} {d : PyData}, RdV X.K H v d → ∀ {u : Value}, RelV v u → ∃ as, Reads s.heap u d as
  | _, _, .non, _, r => by cases r; exact ⟨_, .none⟩
  | _, _, .bl b, _, r => by cases r; exact ⟨_, .bool b⟩
  | _, _, .int i, _, r => by obtain ⟨t, rfl⟩ := r; exact ⟨_, .int i t⟩
  | _, _, .str x, _, r => by obtain ⟨t, rfl⟩ := r; exact ⟨_, .str x t⟩
  | _, _, .lst h q, _, r => by
    cases r
    obtain ⟨its, rv, ⟨o, n, e, c, _, d⟩, _⟩ := I.list h
    obtain ⟨as, z⟩ := RdVs.reads I q rv
    exact ⟨_, .list e c d (by simpa using z)⟩
  | _, _, .tup h q, _, r => by
    cases r
    obtain ⟨its, rv, ⟨o, e, c, n, d⟩, _⟩ := I.tuple h
    obtain ⟨as, z⟩ := RdVs.reads I q rv
    exact ⟨_, .tuple e c d (by simpa using z)⟩
theorem RdVs.reads (I : Inv X pins σ H s) : ∀ {vs : List V} {ds : List PyData}, RdVs X.K H vs ds → ∀ {us : List Value}, Vals vs us → ∃ as, ReadsAll s.heap us ds as
  | _, _, .nil, _, r => by cases r; exact ⟨_, .nil⟩
  | _, _, .cons h q, _, r => by
    cases r with
    | cons r1 r2 =>
      obtain ⟨as, z⟩ := RdV.reads I h r1
      obtain ⟨bs, y⟩ := RdVs.reads I q r2
      exact ⟨_, .cons z y⟩
end
end
section
variable {X : Cx}
def rEqD (K : PySem.W.Frag) : R2 := fun x y H Q => ∃ da db, RdV K H x da ∧ RdV K H y db ∧ SeqAt.shaped da = true ∧ SeqAt.shaped db = true ∧ Q (.bl (PyData.eqv da db)) H
def rNeD (K : PySem.W.Frag) : R2 := fun x y H Q => ∃ da db, RdV K H x da ∧ RdV K H y db ∧ SeqAt.shaped da = true ∧ SeqAt.shaped db = true ∧ Q (.bl (!PyData.eqv da db)) H
theorem op_eqD (hu : X.A.units + 64 < cLine) : OpR X (compareOp .Eq) (rEqD X.K) := by
  intro pins s σ H x y v u Q I rx ry h
  obtain ⟨da, db, ha, hb, sa, sb, q⟩ := h
  obtain ⟨as, za⟩ := ha.reads I rx
  obtain ⟨bs, zb⟩ := hb.reads I ry
  exact SeqAt.compareEq_shaped za zb sa sb hu ⟨.bl _, H, I, rfl, q⟩
theorem op_neD (hu : X.A.units + 64 < cLine) : OpR X (compareOp .NotEq) (rNeD X.K) := by
  intro pins s σ H x y v u Q I rx ry h
  obtain ⟨da, db, ha, hb, sa, sb, q⟩ := h
  obtain ⟨as, za⟩ := ha.reads I rx
  obtain ⟨bs, zb⟩ := hb.reads I ry
  exact SeqAt.compareNe_shaped za zb sa sb hu ⟨.bl _, H, I, rfl, q⟩
end
def TyN (H : Hp) (x : V) (T : String) : Prop := match x with
  | .non => T = "NoneType"
  | .bl _ => T = "bool"
  | .int _ => T = "int"
  | .str _ => T = "str"
  | .ref a => (T = "list" ∧ ∃ xs, H a = some (.lst xs)) ∨ (T = "tuple" ∧ ∃ xs, H a = some (.tup xs)) ∨ (T = "dict" ∧ ∃ kvs, H a = some (.dK kvs))
  | _ => False
def isT (c T : String) : Bool := T == c || (T == "bool" && c == "int")
section
variable {K : PySem.W.Frag}
theorem kit_nn (h : c = "int" ∨ c = "bool" ∨ c = "tuple" ∨ c = "list" ∨ c = "str") (g : T = "NoneType" ∨ T = "bool" ∨ T = "int" ∨ T = "str" ∨ T = "list" ∨ T = "tuple" ∨ T = "dict") :
    PySem.W.kitOne K (.type T) (.type c) = some (isT c T) := by
  rcases h with rfl | rfl | rfl | rfl | rfl <;> rcases g with rfl | rfl | rfl | rfl | rfl | rfl | rfl <;> kernel_rfl
theorem TyN.cases {H : Hp} {x : V} {T : String} (h : TyN H x T) : T = "NoneType" ∨ T = "bool" ∨ T = "int" ∨ T = "str" ∨ T = "list" ∨ T = "tuple" ∨ T = "dict" := by
  cases x with
  | non => exact .inl h
  | bl _ => exact .inr (.inl h)
  | int _ => exact .inr (.inr (.inl h))
  | str _ => exact .inr (.inr (.inr (.inl h)))
  | ref a =>
    rcases h with ⟨h, _⟩ | ⟨h, _⟩ | ⟨h, _⟩
    · exact .inr (.inr (.inr (.inr (.inl h))))
    · exact .inr (.inr (.inr (.inr (.inr (.inl h)))))
    · exact .inr (.inr (.inr (.inr (.inr (.inr h)))))
  | byt _ => exact False.elim h
  | flt _ => exact False.elim h
  | ty _ => exact False.elim h
theorem TyN.of {H : Hp} {x : V} {T : String} (h : TyN H x T) : TyOf K H x (.type T) := by
  cases x with
  | non => cases h; exact .non
  | bl b => cases h; exact .bl b
  | int i => cases h; exact .int i
  | str i => cases h; exact .str i
  | ref a =>
    rcases h with ⟨rfl, xs, h⟩ | ⟨rfl, xs, h⟩ | ⟨rfl, xs, h⟩
    · exact .lst h
    · exact .tup h
    · exact .dK h
  | byt _ => exact False.elim h
  | flt _ => exact False.elim h
  | ty _ => exact False.elim h
end
section
variable {X : Cx}
end
theorem big {X : Cx} {pins : List (Addr × Obj)} {σ : St} {H : Hp} {s : Shared} (I : Inv X pins σ H s) : sysModules < s.heap.objs.size := by
  have h : mainGlobals < s.heap.objs.size := (I.mod.glob.keeps I.bk).lt
  exact Nat.lt_trans (by decide) h
theorem sz {n : Nat} (h : n ≤ 1000 := by decide) : n ≤ sizeLine := Nat.le_of_lt (small1000 h)
end My
namespace My
open PySem PySem.Spec PyProof.Rows L2
section
variable {X : Cx} {a b c d : Expr} {ta tb tc td : TE} {pos : Pos}
end
structure Blt (mg : Str → Option Value) : Prop where
  len_ : mg "len" = none
  range_ : mg "range" = none
  abs_ : mg "abs" = none
  isinstance_ : mg "isinstance" = none
  int_ : mg "int" = none
  bool_ : mg "bool" = none
  tuple_ : mg "tuple" = none
  max_ : mg "max" = none
  min_ : mg "min" = none
end My
namespace My
open PySem PySem.Spec PyProof.Rows L2
abbrev cx (P : Program) (w : World) (K : PySem.W.Frag) (mg : Str → Option Value) (base : Heap) (N : List Str) (x : Str) (st : Stmt) (f : Addr) (cdv : Value) (A : Around) (outer : List Env) (s : Shared) (H : Hp) (E : XK) : Cx :=
  (cxOf CX0 P w K mg base N x (defScope st) f cdv A outer s H E).nox
end My
namespace My
open PySem PySem.Spec PyProof.Rows L2
def clGo (env : Env) : List (Str × NameKind) → List (Str × Addr) → List (Str × Addr)
  | [], cs => cs
  | (n, k) :: r, cs => if (k == NameKind.free) = true then clGo env r ((n, (env.cells.lookup n).getD 0) :: cs) else clGo env r cs
theorem closure_go {env : Env} : ∀ (l : List (Str × NameKind)) (cs : List (Str × Addr)), (∀ x ∈ l, x.2 = .free → ∃ c, env.cells.lookup x.1 = some c) →
    (forIn l cs fun (x : Str × NameKind) (r : List (Str × Addr)) => (if (x.2 == NameKind.free) = true then (do let c ← cellOf env x.1; pure (ForInStep.yield ((x.1, c) :: r))) else pure (ForInStep.yield r) : Sem (ForInStep (List (Str × Addr))))) = pure (clGo env l cs)
  | [], _, _ => rfl
  | (n, k) :: r, cs, h => by
    rw [List.forIn_cons]
    by_cases hk : (k == NameKind.free) = true
    · obtain ⟨c, hc⟩ := h (n, k) List.mem_cons_self (beq_iff_eq.mp hk)
      have hc' : cellOf env n = pure c := by
        unfold cellOf
        rw [show env.cells.lookup n = some c from hc]
      show (do let x ← (if (k == NameKind.free) = true then (do let c ← cellOf env n; pure (ForInStep.yield ((n, c) :: cs))) else pure (ForInStep.yield cs) : Sem (ForInStep (List (Str × Addr)))); _) = _
      rw [if_pos hk, hc']
      have ih := closure_go r ((n, c) :: cs) fun x hx => h x (List.mem_cons_of_mem _ hx)
      rw [clGo, if_pos hk, show env.cells.lookup n = some c from hc]
      exact ih
    · show (do let x ← (if (k == NameKind.free) = true then (do let c ← cellOf env n; pure (ForInStep.yield ((n, c) :: cs))) else pure (ForInStep.yield cs) : Sem (ForInStep (List (Str × Addr)))); _) = _
      rw [if_neg hk]
      have ih := closure_go r cs fun x hx => h x (List.mem_cons_of_mem _ hx)
      rw [clGo, if_neg hk]
      exact ih
theorem closure_eq {env : Env} {scope : Scope} (h : ∀ x ∈ scope.names, x.2 = .free → ∃ c, env.cells.lookup x.1 = some c) : closureFor scope env = pure (clGo env scope.names []) := by
  have z := closure_go (env := env) scope.names [] h
  show (forIn scope.names [] fun (x : Str × NameKind) (r : List (Str × Addr)) => (if (x.2 == NameKind.free) = true then (do let c ← cellOf env x.1; pure (ForInStep.yield ((x.1, c) :: r))) else pure (ForInStep.yield r) : Sem (ForInStep (List (Str × Addr))))) >>= (fun cs => pure cs) = _
  rw [z]
  rfl
theorem clGo_sub {env : Env} : ∀ (l : List (Str × NameKind)) (cs : List (Str × Addr)), (∀ x ∈ l, x.2 = .free → ∃ c, env.cells.lookup x.1 = some c) → (∀ x c, cs.lookup x = some c → env.cells.lookup x = some c) →
    ∀ x c, (clGo env l cs).lookup x = some c → env.cells.lookup x = some c
  | [], _, _, hc, x, c, e => hc x c e
  | (n, k) :: r, cs, h, hc, x, c, e => by
    rw [clGo] at e
    by_cases hk : (k == NameKind.free) = true
    · rw [if_pos hk] at e
      obtain ⟨d, hd⟩ := h (n, k) List.mem_cons_self (beq_iff_eq.mp hk)
      refine clGo_sub r _ (fun x hx => h x (List.mem_cons_of_mem _ hx)) (fun y c' e' => ?_) x c e
      rw [List.lookup_cons] at e'
      cases hy : y == n with
      | true =>
        rw [hy] at e'
        have : y = n := beq_iff_eq.mp hy
        subst this
        rw [show env.cells.lookup y = some d from hd] at e' ⊢
        exact e'
      | false =>
        rw [hy] at e'
        exact hc y c' e'
    · rw [if_neg hk] at e
      exact clGo_sub r cs (fun x hx => h x (List.mem_cons_of_mem _ hx)) hc x c e
theorem clGo_has {env : Env} : ∀ (l : List (Str × NameKind)) (cs : List (Str × Addr)) (x : Str), ((x, NameKind.free) ∈ l ∨ ∃ c, cs.lookup x = some c) → ∃ c, (clGo env l cs).lookup x = some c
  | [], _, x, h => by
    rcases h with h | h
    · exact absurd h (by simp)
    · exact h
  | (n, k) :: r, cs, x, h => by
    rw [clGo]
    by_cases hk : (k == NameKind.free) = true
    · rw [if_pos hk]
      refine clGo_has r _ x ?_
      by_cases e : x = n
      · subst e
        exact .inr ⟨_, by rw [List.lookup_cons, beq_self_eq_true]⟩
      · rcases h with h | ⟨c, h⟩
        · rcases List.mem_cons.mp h with h | h
          · exact absurd (congrArg Prod.fst h) e
          · exact .inl h
        · exact .inr ⟨c, by rw [List.lookup_cons, beq_eq_false_iff_ne.mpr e]; exact h⟩
    · rw [if_neg hk]
      refine clGo_has r cs x ?_
      rcases h with h | h
      · rcases List.mem_cons.mp h with h | h
        · have : k = .free := (congrArg Prod.snd h).symm
          subst this
          exact absurd rfl hk
        · exact .inl h
      · exact .inr h
abbrev blk (X : Cx) (N' : List Str) (scope : Scope) (cl : List (Str × Addr)) (C : Addr) (s3 : Shared) (H3 : Hp) (fp : List Addr) : Cx :=
  { X with N := N', s₀ := s3, H₀ := H3, env := compEnvC scope cl C X.env, outer := X.stack, ex := fp, fn := fun _ => false, xe := fun _ _ => False }
def capB (N : List Str) (kinds sn : List (Str × NameKind)) : List Str → List Nat → Bool
  | [], [] => true
  | x :: V, j :: ix => (N[j]? == some x) && ((kinds.lookup x == some NameKind.cell) && ((sn.lookup x == some NameKind.free) && capB N kinds sn V ix))
  | _, _ => false
def capσ (t : Nat) (ix : List Nat) (σ : St) : St := List.replicate t none ++ ix.map fun j => (σ[j]?).getD none
theorem capB_get {N : List Str} {kinds sn : List (Str × NameKind)} : ∀ {V : List Str} {ix : List Nat}, capB N kinds sn V ix = true → ix.length = V.length ∧ ∀ (k : Nat) (x : Str), V[k]? = some x → ∃ j, ix[k]? = some j ∧ N[j]? = some x ∧ kinds.lookup x = some .cell ∧ sn.lookup x = some .free
  | [], [], _ => ⟨rfl, fun k x h => by simp at h⟩
  | x :: V, j :: ix, h => by
    rw [capB, Bool.and_eq_true, Bool.and_eq_true, Bool.and_eq_true] at h
    obtain ⟨h1, h2, h3, h4⟩ := h
    obtain ⟨l, r⟩ := capB_get h4
    refine ⟨by simp [l], fun k y hy => ?_⟩
    cases k with
    | zero =>
      simp at hy
      subst hy
      exact ⟨j, rfl, beq_iff_eq.mp h1, beq_iff_eq.mp h2, beq_iff_eq.mp h3⟩
    | succ k => exact r k y (by simpa using hy)
  | [], _ :: _, h => by simp [capB] at h
  | _ :: _, [], h => by simp [capB] at h
theorem relabel_cell {env : Env} (hf : env.scope.kind = .function) : ∀ {names : List (Str × NameKind)} {x : Str}, names.lookup x = some .free → env.kindOf x = some .cell →
    (names.map fun (n, k) => if (k == NameKind.free && env.scope.kind == .function && env.kindOf n == some .cell) then (n, NameKind.cell) else (n, k)).lookup x = some .cell
  | [], _, h, _ => by simp at h
  | (n, k) :: r, x, h, hc => by
    have ih := @relabel_cell env hf r x
    show List.lookup x ((if (k == NameKind.free && env.scope.kind == .function && env.kindOf n == some .cell) = true then (n, NameKind.cell) else (n, k)) :: _) = _
    cases hx : x == n with
    | true =>
      have e : x = n := beq_iff_eq.mp hx
      subst e
      simp only [List.lookup_cons, hx] at h
      cases h
      rw [if_pos (by rw [hf, hc]; rfl)]
      simp [List.lookup_cons]
    | false =>
      simp only [List.lookup_cons, hx] at h
      by_cases hq : (k == NameKind.free && env.scope.kind == .function && env.kindOf n == some .cell) = true
      · rw [if_pos hq]; simp only [List.lookup_cons, hx]; exact ih h hc
      · rw [if_neg hq]; simp only [List.lookup_cons, hx]; exact ih h hc
theorem relabel_back {env : Env} : ∀ {names : List (Str × NameKind)} {x : Str} {k : NameKind}, (∀ y ∈ names, y.2 ≠ .cell) → (k = .cell ∨ k = .free) →
    (names.map fun (n, k) => if (k == NameKind.free && env.scope.kind == .function && env.kindOf n == some .cell) then (n, NameKind.cell) else (n, k)).lookup x = some k → (x, NameKind.free) ∈ names
  | [], _, _, _, _, h => by simp at h
  | (n, k') :: r, x, k, hc, hk, h => by
    have ih := @relabel_back env r x k (fun y hy => hc y (List.mem_cons_of_mem _ hy)) hk
    have h' : List.lookup x ((if (k' == NameKind.free && env.scope.kind == .function && env.kindOf n == some .cell) = true then (n, NameKind.cell) else (n, k')) :: (r.map fun (n, k) => if (k == NameKind.free && env.scope.kind == .function && env.kindOf n == some .cell) then (n, NameKind.cell) else (n, k))) = some k := h
    by_cases hq : (k' == NameKind.free && env.scope.kind == .function && env.kindOf n == some .cell) = true
    · rw [if_pos hq] at h'
      have kf : k' = .free := by
        rw [Bool.and_eq_true, Bool.and_eq_true] at hq
        exact beq_iff_eq.mp hq.1.1
      cases hx : x == n with
      | true =>
        have e : x = n := beq_iff_eq.mp hx
        subst e
        subst kf
        exact List.mem_cons_self
      | false =>
        simp only [List.lookup_cons, hx] at h'
        exact List.mem_cons_of_mem _ (ih h')
    · rw [if_neg hq] at h'
      cases hx : x == n with
      | true =>
        have e : x = n := beq_iff_eq.mp hx
        subst e
        simp only [List.lookup_cons, hx] at h'
        cases h'
        rcases hk with hk | hk
        · exact absurd hk (hc _ List.mem_cons_self)
        · subst hk
          exact List.mem_cons_self
      | false =>
        simp only [List.lookup_cons, hx] at h'
        exact List.mem_cons_of_mem _ (ih h')
section
variable {X : Cx} {pins : List (Addr × Obj)} {σ : St} {H : Hp} {s : Shared}
theorem Inv.forget {σ' : St} (I : Inv X pins σ H s) (hl : σ'.length = X.N.length) (h : ∀ (i : Nat) (v : V), σ'[i]? = some (some v) → σ[i]? = some (some v)) : Inv X pins σ' H s := by
  obtain ⟨m, hn, hx⟩ := I.loc
  exact ⟨I.ok, I.os, I.bare, I.base, ⟨m, hn, fun i x v e1 e2 e3 => hx i x v e1 (h i v e2) e3⟩, I.cell, I.free, I.freeC, I.pin, I.hok, hl⟩
end
end My
namespace My
open PySem PySem.Spec PyProof.Rows L2
theorem compLoop_go {prog : Program} {w : World} {A : Around} {R : Result → Shared → Prop} {elt target iter : Expr} {ifs : List Expr} {scope : Scope} {pos : Pos} {it acc : Value} {env : Env} {s : Shared} (I : Nat → Shared → Prop)
    (turn : ∀ n s, I n s → wpAny (model prog w) A (pyNext it) (fun r s₁ => match r with
      | none => R (.ok .next) s₁
      | some v => wpAny (model prog w) A (letOwnedTupleGo target it v) (fun _ s₁' => wpAny (model prog w) A (assign target env v) (fun _ s₂ =>
          wpAny (model prog w) A (forIn ifs true fun c r => if r = true then do let ok ← isTrue c env (eval c env); pure (ForInStep.yield ok) else pure (ForInStep.yield r)) (fun ok s₃ =>
            if ok = true then wpAny (model prog w) A (eval elt env) (fun x s₄ =>
              wpAny (model prog w) A (call (.builtin "list.append") [acc, x]) (fun _ s₅ => ∃ m, m < n ∧ I m s₅) (fun _ _ => False) s₄) (fun _ _ => False) s₃
            else ∃ m, m < n ∧ I m s₃) (fun _ _ => False) s₂) (fun _ _ => False) s₁') (fun _ _ => False) s₁) (fun _ _ => False) s)
    (n : Nat) (h : I n s) :
    codeAny (model prog w) A (.compLoop (.ListComp elt [⟨target, iter, ifs, 0⟩] scope pos) 0 it acc env) R s := by
  refine codeAny_loop rfl I (fun n s hI => ?_) n h
  show wpAny _ A ((compTurn (.ListComp elt [⟨target, iter, ifs, 0⟩] scope pos) 0 it acc env).onRaise (fun x => do noteFrame x env; theTreesLotGoes x)) _ _ s
  refine wpAny_noted ?_
  rw [compTurn_list]
  refine wpAny_bind (wpAny_standAt (wpAny_bind (wpAny_mono (turn n s hI) (fun r s₁ h₁ => ?_) fun _ _ h' => h'.elim)))
  cases r with
  | none => exact wpAny_pure h₁
  | some v =>
    refine wpAny_bind (wpAny_mono h₁ (fun _ s₁' h₁' => ?_) fun _ _ h' => h'.elim)
    refine wpAny_bind (wpAny_mono h₁' (fun _ s₂ h₂ => wpAny_bind (wpAny_mono h₂ (fun ok s₃ h₃ => ?_) fun _ _ h' => h'.elim)) fun _ _ h' => h'.elim)
    cases ok with
    | false => exact wpAny_pure ⟨rfl, h₃⟩
    | true =>
      exact wpAny_bind (wpAny_bind (wpAny_mono h₃ (fun x s₄ h₄ => wpAny_bind (wpAny_mono h₄ (fun _ s₅ h₅ => wpAny_pure (wpAny_pure ⟨rfl, h₅⟩)) fun _ _ h' => h'.elim)) fun _ _ h' => h'.elim))
section
variable {X : Cx} {pins : List (Addr × Obj)} {σ : St} {H : Hp}
theorem inv_block {T V : List Str} {ix : List Nat} {scope : Scope} {s3 : Shared} {fp : List Addr} {h₁ : Heap} {tk : Nat} {m : Str → Option Value}
    (I : Inv X pins σ H s3) (hf : ∀ b ∈ fp, FpOk X pins H b) (ho : ∀ b ∈ fp, ∃ o, s3.heap.get? b = some o)
    (hk : scope.kind = .function) (hcell : ∀ y ∈ scope.names, y.2 ≠ .cell) (hfr : ∀ x ∈ scope.names, x.2 = .free → x.1 ∈ V) (hB : capB X.N X.env.scope.names scope.names V ix = true)
    (hns : h₁.Ns s3.heap.objs.size m) (keep : ∀ b o, s3.heap.get? b = some o → h₁.get? b = some o) :
    Inv (blk X (T ++ V) scope (clGo X.env scope.names []) s3.heap.objs.size s3 H fp) pins (capσ T.length ix σ) H { s3 with heap := h₁, toks := tk } := by
  obtain ⟨lV, capV⟩ := capB_get hB
  have hcl : ∀ x ∈ scope.names, x.2 = .free → ∃ c, X.env.cells.lookup x.1 = some c := fun x hx e => by
    obtain ⟨k, ek⟩ := List.getElem?_of_mem (hfr x hx e)
    obtain ⟨j, _, _, hc, _⟩ := capV k _ ek
    exact I.ok.has _ (.inl hc)
  have sub := clGo_sub (env := X.env) scope.names [] hcl (fun x c e => by simp at e)
  have stkSub : ∀ b, b ∈ frs X.stack → b = X.env.locals ∨ b ∈ X.fs := fun b z => List.mem_cons.mp (I.stkSub b z)
  have lt : ∀ b o, s3.heap.get? b = some o → b ≠ s3.heap.objs.size := fun b o e => Nat.ne_of_lt (Heap.lt_size e)
  have cellK : ∀ c v, s3.heap.IsCell c v → h₁.IsCell c v := fun c v ⟨o, e, d⟩ => ⟨o, keep c o e, d⟩
  refine ⟨⟨I.ok.mod, hk, I.ok.glob, I.ok.blt, Nat.le_refl _, fun x y c e1 e2 => I.ok.inj x y c (sub x c e1) (sub y c e2), fun x hx => ?_, fun x c hx => ?_, I.ok.hd, I.ok.frames, .inl rfl, fun b hb => ⟨?_, fun x c e => ?_⟩, I.bs, Nat.le_trans I.ok.bsz I.sz, fun b o e hb => ?_, fun b hb z => ?_, I.stack, I.stkFree⟩,
    rfl, I.bare, Un.kept keep, ⟨m, hns, fun i x v e1 e2 e3 => ?_⟩, fun x c e => ?_, I.hok.fresh (Nat.le_refl _), fun x c e => I.freeC x c (sub x c e), fun p hp => ?_, I.hok.kept keep, ?_⟩
  · rcases hx with hx | hx
    · exact clGo_has _ _ x (.inl (relabel_back hcell (.inl rfl) hx))
    · exact clGo_has _ _ x (.inl (relabel_back hcell (.inr rfl) hx))
  · exact absurd hx (by simp)
  · obtain ⟨o, e⟩ := ho b hb
    exact lt b o e
  · exact (hf b hb).2.2.2.2.1 x c (sub x c e)
  · rcases (hf b hb).2.2.2.1 with z | z
    · exact I.ok.noex b o e z
    · exact absurd (Nat.lt_of_lt_of_le (Heap.lt_size e) (Nat.le_trans I.ok.bsz z)) (Nat.lt_irrefl _)
  · rcases stkSub b z with z | z
    · exact (hf b hb).2.1 z
    · exact (hf b hb).2.2.1 z
  · by_cases hi : i < T.length
    · have e2' : (List.replicate T.length none ++ ix.map fun j => (σ[j]?).getD none)[i]? = some (some v) := e2
      rw [List.getElem?_append_left (by rw [List.length_replicate]; exact hi), List.getElem?_replicate, if_pos hi] at e2'
      exact absurd e2' (by simp)
    · have e1' : (T ++ V)[i]? = some x := e1
      rw [List.getElem?_append_right (by omega)] at e1'
      obtain ⟨j, hj, hN, hc, hfree⟩ := capV _ x e1'
      have e2' : (List.replicate T.length none ++ ix.map fun j => (σ[j]?).getD none)[i]? = some (some v) := e2
      rw [List.getElem?_append_right (by rw [List.length_replicate]; omega), List.length_replicate, List.getElem?_map, hj] at e2'
      have e2'' : (σ[j]?).getD none = some v := by simpa using e2'
      have e3' : σ[j]? = some (some v) := by
        cases q : σ[j]? with
        | none => rw [q] at e2''; exact absurd e2'' (by simp)
        | some o => rw [q] at e2''; simp at e2''; rw [e2'']
      obtain ⟨m0, hn0, hl⟩ := I.loc
      obtain ⟨u, r, l⟩ := hl j x v hN e3' (.inr (.inl hc))
      rcases l with ⟨z, _⟩ | ⟨_, c, ec, hcell'⟩
      · have z' : X.env.scope.names.lookup x = some .local := z
        rw [hc] at z'
        exact absurd z' (by simp)
      · obtain ⟨c', ec'⟩ := clGo_has (env := X.env) scope.names [] x (.inl (PySem.mem_of_lookup hfree))
        have : c' = c := by
          have q := sub x c' ec'
          rw [ec] at q
          exact (Option.some.inj q).symm
        subst this
        exact ⟨u, r, .inr ⟨.inl (relabel_cell I.ok.kind hfree hc), c', ec', cellK _ _ hcell'⟩⟩
  · obtain ⟨v, z⟩ := I.cell x c (sub x c e)
    exact ⟨v, cellK c v z⟩
  · obtain ⟨e, n, ne, nf, d⟩ := I.pin p hp
    refine ⟨keep _ _ e, n, lt _ _ e, fun z => ?_, d⟩
    rcases stkSub p.1 z with z | z
    · exact ne z
    · exact nf z
  · show (List.replicate T.length none ++ ix.map fun j => (σ[j]?).getD none).length = (T ++ V).length
    rw [List.length_append, List.length_replicate, List.length_map, List.length_append, lV]
theorem inv_back {N' : List Str} {scope : Scope} {cl : List (Str × Addr)} {pins' : List (Addr × Obj)} {σ' : St} {H3 H' : Hp} {s3 s' : Shared} {fp : List Addr} (I3 : Inv X pins σ H3 s3) (hf : ∀ b ∈ fp, FpOk X pins H3 b)
    (I' : Inv (blk X N' scope cl s3.heap.objs.size s3 H3 fp) pins' σ' H' s') : Inv X pins σ H' s' ∧ FpOk X pins H' s3.heap.objs.size := by
  have fr : H' s3.heap.objs.size = none := I'.free
  refine ⟨?_, I3.fpOk (Nat.le_refl _) fr⟩
  have os : s'.os = s3.os := I'.os
  have u : Un (frs X.stack) fp H3 H' s3.heap s'.heap := I'.base
  have ho := I'.hok
  have hb := I'.bare
  obtain ⟨hh, g, d, t, os'⟩ := s'
  obtain rfl : os' = s3.os := os
  exact I3.call (h' := hh) (g' := g) (d' := d) (t' := t) (ch := fp) u ho hb fun b hb' => ⟨(hf b hb').2.2.2.1, (hf b hb').2.1, (hf b hb').2.2.2.2.1, (hf b hb').2.2.2.2.2⟩
end
def PTs (X : Cx) (ifs : List Expr) (t : TT) : Prop :=
  ∀ (pins : List (Addr × Obj)) (s : Shared) (σ : St) (H : Hp) (Q : Bool → Hp → Prop), Inv X pins σ H s → t σ H Q →
    wpAny (model X.prog X.w) X.A (forIn ifs true fun c r => if r = true then do let ok ← isTrue c X.env (eval c X.env); pure (ForInStep.yield ok) else pure (ForInStep.yield r)) (TP X pins σ Q) X.xe s
def tYes : TT := fun _ H Q => Q true H
theorem pts_nil {X : Cx} : PTs X [] tYes := fun _ _ _ H _ I h => wpAny_tests_nil ⟨H, I, h⟩
theorem pts_one {X : Cx} {c : Expr} {t : TT} (h : PT X c t) : PTs X [c] t := fun pins s σ H Q I q => wpAny_tests_one (h pins s σ H Q I q)
def tComp (wi : TI) (g : TG) (tt : TT) (te : TE) (t : Nat) (cap : St → St) : TE := fun σ H Q => wi σ H fun J H1 => ∀ D, H1 D = none → ∃ W : Nat → Nat → List V → Hp → Prop, (∃ m, W 0 m [] (upd H1 D (.lst []))) ∧
  ∀ i m xs H2, W i m xs H2 → H2 D = some (.lst xs) ∧ ((J.stop i H2 ∧ Q (.ref D) H2) ∨ (J.go i H2 ∧ xs.length < sizeLine ∧ ∀ x H3, J.yld i H2 x H3 → g x (cap σ) H3 fun σ4 H4 => σ4.drop t = (cap σ).drop t ∧
    tt σ4 H4 fun b H5 => if b = true then te σ4 H5 fun v H6 => H6 D = some (.lst xs) ∧ ∃ m', m' < m ∧ W (i + 1) m' (xs ++ [v]) (upd H6 D (.lst (xs ++ [v]))) else ∃ m', m' < m ∧ W (i + 1) m' xs H5))
section
variable {X : Cx} {elt tg iter : Expr} {ifs : List Expr} {scope : Scope} {pos : Pos} {T V : List Str} {ix : List Nat} {wi : TI} {g : TG} {tt : TT} {te : TE}
theorem comp_core (hc : X.calm = true) (hi : PI X tg iter wi)
    (hg : ∀ cl C s3 H3 fp, PG (blk X (T ++ V) scope cl C s3 H3 fp) tg g) (ht : ∀ cl C s3 H3 fp, PTs (blk X (T ++ V) scope cl C s3 H3 fp) ifs tt) (he : ∀ cl C s3 H3 fp, PE (blk X (T ++ V) scope cl C s3 H3 fp) elt te)
    (hB : capB X.N X.env.scope.names scope.names V ix = true) (hk : scope.kind = .function) (hcell : ∀ y ∈ scope.names, y.2 ≠ .cell) (hnames : ∀ x ∈ scope.names, x.2 = .local → scope.names.lookup x.1 = some .local)
    (hfr : ∀ x ∈ scope.names, x.2 = .free → x.1 ∈ V) (hs : ∀ x, foldedSetIterable iter X.env x = pure x) {p : Pos}
    {pins : List (Addr × Obj)} {s : Shared} {σ : St} {H : Hp} (I : Inv X pins σ H s) {use : Option (Value → Sem Unit)} {Qp : Value → Shared → Prop} {Qv : VK} (h : tComp wi g tt te T.length (capσ T.length ix) σ H Qv)
    (fin : ∀ (D C : Addr) (H' : Hp) (s' : Shared) (m : Str → Option Value), Inv X pins σ H' s' → FpOk X pins H' C → s'.heap.Ns C m → Qv (.ref D) H' → compPost (model X.prog X.w) X.A X.xe use Qp (.ref D) C (.ok .next) s') :
    wpAny (model X.prog X.w) X.A (comprehension (.ListComp elt [⟨tg, iter, ifs, 0⟩] scope pos) scope X.env p (newList []) false (eval iter X.env) use) Qp X.xe s := by
  obtain ⟨lV, capV⟩ := capB_get hB
  have hcl : ∀ x ∈ scope.names, x.2 = .free → ∃ c, X.env.cells.lookup x.1 = some c := fun x hx e => by
    obtain ⟨k, ek⟩ := List.getElem?_of_mem (hfr x hx e)
    obtain ⟨j, _, _, hc', _⟩ := capV k _ ek
    exact I.ok.has _ (.inl hc')
  refine wpAny_comprehension_free rfl hs (closure_eq hcl) hk hnames ?_
  refine thn (hi pins s σ H _ I h) fun v s1 h1 => thn h1 fun itv s2 h2 => ?_
  obtain ⟨it, fp, tn, J, H2, e, I2, Tn, st2, f2, R⟩ := h2
  subst e
  refine wpAny_newObj_type (hd := by size_fits) ?_
  have hD : H2 s2.heap.objs.size = none := I2.hok.fresh (Nat.le_refl _)
  have I3 : Inv X pins σ (upd H2 s2.heap.objs.size (.lst [])) { s2 with heap := s2.heap.push { cls := .type "list", dict := none, data := .seq ([] : List Value).toArray } } :=
    I2.laid (t' := s2.toks) (fun b o e => Heap.get?_push_of_some _ e) (Nat.le_refl _) ⟨Nat.zero_le _, [], 0, .nil, Heap.get?_push_size _ rfl⟩
  obtain ⟨W, ⟨m0, w0⟩, turn⟩ := R s2.heap.objs.size hD
  generalize hs3 : ({ s2 with heap := s2.heap.push { cls := .type "list", dict := none, data := .seq ([] : List Value).toArray } } : Shared) = s3 at I3 ⊢
  have st3 : tn 0 s3.heap := by
    rw [← hs3]
    exact Tn.keep 0 s2.heap _ st2 fun b hb o e => Heap.get?_push_of_some _ e
  have f3 : ∀ b ∈ fp, FpOk X pins (upd H2 s2.heap.objs.size (.lst [])) b := fun b hb => by
    obtain ⟨z0, z1⟩ := f2 b hb
    refine ⟨?_, z1⟩
    obtain ⟨o, eo, _⟩ := Tn.obj 0 _ st2 b hb
    rw [upd_ne (Nat.ne_of_lt (Heap.lt_size eo))]
    exact z0
  generalize hH3 : upd H2 s2.heap.objs.size (.lst []) = H3 at I3 f3 w0
  generalize hDn : s2.heap.objs.size = D at turn
  refine wpAny_newFunctionEnv hcell (by intro y hy; simp at hy) (fun h₁ hns₁ hsb₁ => ?_) hk
  have keep : ∀ b o, s3.heap.get? b = some o → h₁.get? b = some o := fun b o e => hsb₁.extBut b o (Nat.ne_of_lt (Heap.lt_size e)) (Heap.get?_push_of_some _ e)
  have I4 := inv_block (T := T) (tk := s3.toks + ([] : List (Str × Value)).length) I3 f3 (fun b hb => let ⟨o, eo, _⟩ := Tn.obj 0 _ st3 b hb; ⟨o, eo⟩) hk hcell hfr hB hns₁ keep
  have st4 : tn 0 h₁ := Tn.keep 0 _ _ st3 fun b hb o e => keep b o e
  have loop : codeAny (model X.prog X.w) X.A (.compLoop (.ListComp elt [⟨tg, iter, ifs, 0⟩] scope pos) 0 (.ref it) (.ref D) (compEnvC scope (clGo X.env scope.names []) s3.heap.objs.size X.env))
      (compPost (model X.prog X.w) X.A X.xe use Qp (.ref D) s3.heap.objs.size) { s3 with heap := h₁, toks := s3.toks + ([] : List (Str × Value)).length } := by
    refine compLoop_go (fun n s' => ∃ i xs H', Inv (blk X (T ++ V) scope (clGo X.env scope.names []) s3.heap.objs.size s3 H3 fp) pins (capσ T.length ix σ) H' s' ∧ tn i s'.heap ∧ (∀ b ∈ fp, H' b = none) ∧ W i n xs H') ?_ m0
      ⟨0, [], H3, I4, st4, fun b hb => (f3 b hb).1, w0⟩
    rintro n s5 ⟨i, xs, H5, I5, st5, fr5, w5⟩
    have stat : ∀ {H' : Hp} {pins' : List (Addr × Obj)} {σ' : St} {s' : Shared}, Inv (blk X (T ++ V) scope (clGo X.env scope.names []) s3.heap.objs.size s3 H3 fp) pins σ' H' s' → (∀ b ∈ fp, H' b = none) → ∀ b ∈ fp, FpOk (blk X (T ++ V) scope (clGo X.env scope.names []) s3.heap.objs.size s3 H3 fp) pins H' b := fun I' hn b hb => by
      obtain ⟨x1, x2⟩ := I'.ok.exf b hb
      refine ⟨hn b hb, x1, I'.ok.exfs b hb, .inl hb, x2, fun q hq => ?_⟩
      exact (f3 b hb).2.2.2.2.2 q hq
    obtain ⟨hD5, r5⟩ := turn i n xs H5 w5
    rcases r5 with ⟨stop, q⟩ | ⟨go, hz, step⟩
    · refine thn (Tn.done (blk X (T ++ V) scope (clGo X.env scope.names []) s3.heap.objs.size s3 H3 fp) rfl rfl rfl hc i pins s5 _ H5 _ I5 (stat (pins' := pins) I5 fr5) st5 stop) fun r s6 ⟨hr, I6⟩ => ?_
      subst hr
      obtain ⟨Ib, fC⟩ := inv_back I3 f3 I6
      obtain ⟨m, hn, _⟩ := I6.loc
      exact fin D _ H5 s6 m Ib fC hn q
    · refine thn (Tn.item (blk X (T ++ V) scope (clGo X.env scope.names []) s3.heap.objs.size s3 H3 fp) rfl rfl rfl hc i pins s5 _ H5 _ I5 (stat (pins' := pins) I5 fr5) st5 go) fun r s6 ⟨u, hr, h6⟩ => ?_
      subst hr
      refine thn h6 fun _ s7 ⟨x, H7, I7, rx, y7, st7, fr7⟩ => ?_
      have I7' := I7.pinned (stat (pins' := pins) I7 fr7) (Tn.obj _ _ st7)
      refine thn (hg _ _ _ _ _ _ s7 _ H7 x u _ I7' rx (step x H7 y7)) fun _ s8 ⟨σ8, H8, I8, k8, q8⟩ => ?_
      have again : ∀ {H9 : Hp} {s9 : Shared}, Inv (blk X (T ++ V) scope (clGo X.env scope.names []) s3.heap.objs.size s3 H3 fp) (pins ++ pinsAt fp s7.heap) σ8 H9 s9 →
          Inv (blk X (T ++ V) scope (clGo X.env scope.names []) s3.heap.objs.size s3 H3 fp) pins (capσ T.length ix σ) H9 s9 ∧ tn (i + 1) s9.heap ∧ ∀ b ∈ fp, H9 b = none := fun {H9 s9} I9 => by
        refine ⟨Inv.forget I9.unpinned I4.len fun j v e => ?_, Tn.keep _ _ _ st7 fun b hb o e => (I9.pin (b, o) (List.mem_append_right _ (List.mem_append_right _ (mem_pinsAt hb e)))).1, fun b hb => ?_⟩
        · by_cases hj : j < T.length
          · have e' : (List.replicate T.length none ++ ix.map fun j => (σ[j]?).getD none)[j]? = some (some v) := e
            rw [List.getElem?_append_left (by rw [List.length_replicate]; exact hj), List.getElem?_replicate, if_pos hj] at e'
            exact absurd e' (by simp)
          · have ej : j = T.length + (j - T.length) := by omega
            rw [ej, ← List.getElem?_drop] at e ⊢
            rw [k8]
            exact e
        · obtain ⟨o, e, d⟩ := Tn.obj _ _ st7 b hb
          exact (I9.pin (b, o) (List.mem_append_right _ (List.mem_append_right _ (mem_pinsAt hb e)))).2.1
      refine thn (ht _ _ _ _ _ _ s8 σ8 H8 _ I8 q8) fun ok s9 ⟨H9, I9, q9⟩ => ?_
      cases ok with
      | false =>
        obtain ⟨m', lm, w9⟩ := q9
        obtain ⟨a1, a2, a3⟩ := again I9
        exact ⟨m', lm, i + 1, xs, H9, a1, a2, a3, w9⟩
      | true =>
        refine thn (he _ _ _ _ _ _ s9 σ8 H9 _ I9 q9) fun y s10 ⟨v, H10, I10, ry, hD10, m', lm, w10⟩ => ?_
        refine thn (mt_append _ s10 σ8 H10 (.ref D) [v] (.ref D) [y] (fun _ Hn => Hn = upd H10 D (.lst (xs ++ [v]))) I10 rfl (.cons ry .nil) ⟨D, xs, v, rfl, rfl, hD10, hz, rfl⟩) fun _ s11 ⟨_, H11, I11, _, e11⟩ => ?_
        subst e11
        obtain ⟨a1, a2, a3⟩ := again I11
        exact ⟨m', lm, i + 1, _, _, a1, a2, a3, w10⟩
  exact codeAny_compStart_list loop (Tn.self _ 0 _ _ _ st4 loop)
theorem pe_comp (hc : X.calm = true) (T V : List Str) (ix : List Nat) (hi : PI X tg iter wi)
    (hg : ∀ cl C s3 H3 fp, PG (blk X (T ++ V) scope cl C s3 H3 fp) tg g) (ht : ∀ cl C s3 H3 fp, PTs (blk X (T ++ V) scope cl C s3 H3 fp) ifs tt) (he : ∀ cl C s3 H3 fp, PE (blk X (T ++ V) scope cl C s3 H3 fp) elt te)
    (hB : capB X.N X.env.scope.names scope.names V ix = true := by rfl) (hk : scope.kind = .function := by rfl) (hcell : ∀ y ∈ scope.names, y.2 ≠ .cell := by decide +kernel)
    (hnames : ∀ x ∈ scope.names, x.2 = .local → scope.names.lookup x.1 = some .local := by decide +kernel)
    (hfr : ∀ x ∈ scope.names, x.2 = .free → x.1 ∈ V := by decide +kernel) (hs : ∀ x, foldedSetIterable iter X.env x = pure x := by intro _; rfl) :
    PE X (.ListComp elt [⟨tg, iter, ifs, 0⟩] scope pos) (tComp wi g tt te T.length (capσ T.length ix)) := by
  intro pins s σ H Q I h
  rw [eval_ListComp]
  refine comp_core (use := none) hc hi hg ht he hB hk hcell hnames hfr hs I h fun D C H' s' m I' fC hn q => ⟨m, hn, fun h' sb => ⟨.ref D, H', ?_, rfl, q⟩⟩
  obtain ⟨z0, z1, z2, z3, z4, z5⟩ := fC
  exact I'.turned (t' := s'.toks) (fun b o hb e => sb.extBut b o hb e) z0 z1 z3 z4 z5
theorem ps_setC {i : Nat} {x : Str} {pos' spos : Pos} (hN : X.N.Nodup) (hi' : X.N[i]? = some x) (hx : X.env.scope.names.lookup x = some .local) (hc : X.calm = true) (T V : List Str) (ix : List Nat) (hi : PI X tg iter wi)
    (hg : ∀ cl C s3 H3 fp, PG (blk X (T ++ V) scope cl C s3 H3 fp) tg g) (ht : ∀ cl C s3 H3 fp, PTs (blk X (T ++ V) scope cl C s3 H3 fp) ifs tt) (he : ∀ cl C s3 H3 fp, PE (blk X (T ++ V) scope cl C s3 H3 fp) elt te)
    (hsw : swapsWith (.ListComp elt [⟨tg, iter, ifs, 0⟩] scope pos) (some (.Name x pos')) spos.line X.env = pure true := by rfl)
    (hB : capB X.N X.env.scope.names scope.names V ix = true := by rfl) (hk : scope.kind = .function := by rfl) (hcell : ∀ y ∈ scope.names, y.2 ≠ .cell := by decide +kernel)
    (hnames : ∀ x ∈ scope.names, x.2 = .local → scope.names.lookup x.1 = some .local := by decide +kernel)
    (hfr : ∀ x ∈ scope.names, x.2 = .free → x.1 ∈ V := by decide +kernel) (hs : ∀ x, foldedSetIterable iter X.env x = pure x := by intro _; rfl) :
    PS X (.Assign [.Name x pos'] (.ListComp elt [⟨tg, iter, ifs, 0⟩] scope pos) spos) (tAsg (tComp wi g tt te T.length (capσ T.length ix)) (gName i)) := by
  intro pins s σ H D I h
  rw [exec_Assign_Name_used _ _ _ _ hsw]
  refine wpAny_bind (wpAny_standAt (wpAny_bind ?_))
  show wpAny _ X.A (do let _ ← comprehension (.ListComp elt [⟨tg, iter, ifs, 0⟩] scope pos) scope X.env _ (newList []) false (eval iter X.env) (some (assign (.Name x pos') X.env))) _ _ s
  refine wpAny_bind (wpAny_mono (comp_core (use := some (assign (.Name x pos') X.env)) (Qp := fun _ s' => SP X pins D .next s') hc hi hg ht he hB hk hcell hnames hfr hs I h fun A' C H' s' m I' fC hn q => ?_) (fun _ s' hq => wpAny_pure (wpAny_pure hq)) fun _ _ e => e)
  obtain ⟨z0, z1, z2, z3, z4, z5⟩ := fC
  refine wpAny_assign_Name (store_ok2 I' hN hi' (.inl hx) (v := .ref A') rfl (fun s'' I'' ⟨a, sb, ha⟩ => ⟨m, hn.sameBut sb ?_, fun h' sb' => ⟨_, H', ?_, q⟩⟩) (.inr hx))
  · rcases ha with ha | ha
    · rw [ha]; exact z1
    · exact Ne.symm (z4 x a ha)
  · exact I''.turned (t' := s''.toks) (fun b o hb e => sb'.extBut b o hb e) z0 z1 z3 z4 z5
end
section
variable {X : Cx} {K : PySem.W.Frag}
end
end My
namespace D3
open PySem
abbrev D := PyData
inductive U where
  | d (x : D)
  | x (c f : Str) (v : D)
abbrev DS := List (Option U)
inductive Oc where
  | nx (δ : DS)
  | rt (d : D)
  | bk (δ : DS)
  | ct (δ : DS)
  | ex (c f : Str) (v : D)
abbrev FE := DS → Option D
abbrev FA := DS → Option (List D)
abbrev FT := DS → Option Bool
abbrev FS := DS → Option Oc
abbrev FG := D → DS → Option DS
mutual
def flat : D → Bool
  | .none => true
  | .bool _ => true
  | .int _ => true
  | .str _ => true
  | .list _ => false
  | .tuple xs => flats xs
  | .dict _ => false
def flats : List D → Bool
  | [] => true
  | x :: r => flat x && flats r
end
mutual
def nl : D → Nat
  | .none => 0
  | .bool _ => 0
  | .int _ => 0
  | .str _ => 0
  | .list xs => nls xs + 1
  | .tuple xs => nls xs
  | .dict _ => 1
def nls : List D → Nat
  | [] => 0
  | x :: r => nl x + nls r
end
def fl1 : D → Bool
  | .list xs => flats xs
  | d => flat d
def dVar (i : Nat) : FE := fun δ => match δ[i]? with
  | some (some (.d x)) => some x
  | _ => none
def dC (d : D) : FE := fun _ => some d
def dOp (g : D → D → Option D) (fa fb : FE) : FE := fun δ => (fa δ).bind fun x => (fb δ).bind fun y => g x y
def dUn (g : D → Option D) (fa : FE) : FE := fun δ => (fa δ).bind g
def dNil : FA := fun _ => some []
def dCons (fa : FE) (fr : FA) : FA := fun δ => (fa δ).bind fun x => (fr δ).bind fun r => some (x :: r)
def dTup (fa : FA) : FE := fun δ => (fa δ).bind fun l => if l.length ≤ sizeLine then some (.tuple l) else none
def dLst (fa : FA) : FE := fun δ => (fa δ).bind fun l => if l.length ≤ sizeLine then some (.list l) else none
def dCall (F : List D → Option D) (fa : FA) : FE := fun δ => (fa δ).bind F
def dFlat (fa : FE) : FE := fun δ => (fa δ).bind fun d => if flat d = true then some d else none
def dN1 (fa : FE) : FE := fun δ => (fa δ).bind fun d => if decide (nl d ≤ 1) = true then some d else none
def dFl1 (fa : FE) : FE := fun δ => (fa δ).bind fun d => if fl1 d = true then some d else none
def dAnd (fa fb : FE) : FE := fun δ => (fa δ).bind fun x => match x with
  | .bool true => fb δ
  | .bool false => some (.bool false)
  | _ => none
def dOr (fa fb : FE) : FE := fun δ => (fa δ).bind fun x => match x with
  | .bool true => some (.bool true)
  | .bool false => fb δ
  | _ => none
def dNot (fa : FE) : FE := fun δ => (fa δ).bind fun x => match x with
  | .bool b => some (.bool (!b))
  | _ => none
def dIf (c : FT) (fa fb : FE) : FE := fun δ => (c δ).bind fun b => if b = true then fa δ else fb δ
def tBool (fa : FE) : FT := fun δ => (fa δ).bind fun x => match x with
  | .bool b => some b
  | _ => none
def tAnd (a b : FT) : FT := fun δ => (a δ).bind fun x => if x = true then b δ else some false
def tOr (a b : FT) : FT := fun δ => (a δ).bind fun x => if x = true then some true else b δ
def tNot (a : FT) : FT := fun δ => (a δ).map fun x => !x
def sNil : FS := fun δ => some (.nx δ)
def sSeq (a b : FS) : FS := fun δ => (a δ).bind fun o => match o with
  | .nx δ' => b δ'
  | o => some o
def sSet (i : Nat) (fe : FE) : FS := fun δ => (fe δ).bind fun d => some (.nx (δ.set i (some (.d d))))
def sIf (c : FT) (a b : FS) : FS := fun δ => (c δ).bind fun t => if t = true then a δ else b δ
def sRet (fe : FE) : FS := fun δ => (fe δ).bind fun d => some (.rt d)
def sRetN : FS := fun _ => some (.rt .none)
def sExpr (fe : FE) : FS := fun δ => (fe δ).bind fun _ => some (.nx δ)
def sBk : FS := fun δ => some (.bk δ)
def sCt : FS := fun δ => some (.ct δ)
def gN (i : Nat) : FG := fun d δ => some (δ.set i (some (.d d)))
def gsNil : List D → DS → Option DS := fun l δ => match l with
  | [] => some δ
  | _ => none
def gsCons (g : FG) (r : List D → DS → Option DS) : List D → DS → Option DS := fun l δ => match l with
  | d :: l' => (g d δ).bind fun δ' => r l' δ'
  | [] => none
def sAsg (fe : FE) (g : FG) : FS := fun δ => (fe δ).bind fun d => (g d δ).bind fun δ' => some (.nx δ')
def forD (g : FG) (b : FS) : List D → DS → Option Oc
  | [], δ => some (.nx δ)
  | d :: r, δ => (g d δ).bind fun δ1 => (b δ1).bind fun o => match o with
    | .nx δ' => forD g b r δ'
    | .ct δ' => forD g b r δ'
    | .bk δ' => some (.nx δ')
    | .rt v => some (.rt v)
    | .ex c f v => some (.ex c f v)
def sFor (fi : FA) (g : FG) (b : FS) : FS := fun δ => (fi δ).bind fun l => forD g b l δ
def whileD (c : FT) (b : FS) : Nat → DS → Option Oc
  | 0, _ => none
  | n + 1, δ => (c δ).bind fun t => if t = true then (b δ).bind fun o => match o with
      | .nx δ' => whileD c b n δ'
      | .ct δ' => whileD c b n δ'
      | .bk δ' => some (.nx δ')
      | .rt v => some (.rt v)
      | .ex c f v => some (.ex c f v)
    else some (.nx δ)
theorem whileD_mono {c : FT} {b : FS} : ∀ {n : Nat} {δ : DS} {o : Oc}, whileD c b n δ = some o → ∀ {m : Nat}, n ≤ m → whileD c b m δ = some o
  | 0, _, _, h, _, _ => by simp [whileD] at h
  | n + 1, δ, o, h, 0, l => by omega
  | n + 1, δ, o, h, m + 1, l => by
    rw [whileD] at h ⊢
    cases hc : c δ with
    | none => rw [hc] at h; simp at h
    | some t =>
      rw [hc] at h
      simp only [Option.bind_some] at h ⊢
      cases t with
      | false => exact h
      | true =>
        simp only [if_pos] at h ⊢
        cases hb : b δ with
        | none => rw [hb] at h; simp at h
        | some q =>
          rw [hb] at h
          simp only [Option.bind_some] at h ⊢
          cases q with
          | nx δ' => exact whileD_mono h (by omega)
          | ct δ' => exact whileD_mono h (by omega)
          | bk δ' => exact h
          | rt v => exact h
          | ex c f v => exact h
theorem whileD_det {c : FT} {b : FS} {n m : Nat} {δ : DS} {o o' : Oc} (h : whileD c b n δ = some o) (h' : whileD c b m δ = some o') : o = o' := by
  have a := whileD_mono h (Nat.le_max_left n m)
  have a' := whileD_mono h' (Nat.le_max_right n m)
  rw [a] at a'
  exact Option.some.inj a'
open Classical in
noncomputable def sWhile (c : FT) (b : FS) : FS := fun δ => if h : ∃ o n, whileD c b n δ = some o then some (Classical.choose h) else none
theorem sWhile_of {c : FT} {b : FS} {n : Nat} {δ : DS} {o : Oc} (h : whileD c b n δ = some o) : sWhile c b δ = some o := by
  have e : ∃ o n, whileD c b n δ = some o := ⟨o, n, h⟩
  unfold sWhile
  rw [dif_pos e]
  obtain ⟨m, hm⟩ := Classical.choose_spec e
  rw [whileD_det hm h]
theorem sWhile_inv {c : FT} {b : FS} {δ : DS} {o : Oc} (h : sWhile c b δ = some o) : ∃ n, whileD c b n δ = some o := by
  unfold sWhile at h
  by_cases e : ∃ o n, whileD c b n δ = some o
  · rw [dif_pos e] at h
    have := Classical.choose_spec e
    rw [Option.some.inj h] at this
    exact this
  · rw [dif_neg e] at h
    cases h
def fnD (p q : Nat) (b : FS) : List D → Option D := fun ds => if ds.length = p then match b (ds.map (fun d => some (.d d)) ++ List.replicate q none) with
    | some (.rt d) => some d
    | some (.nx _) => some .none
    | _ => none
  else none
def capD (t : Nat) (ix : List Nat) (δ : DS) : DS := List.replicate t none ++ ix.map fun j => (δ[j]?).getD none
def compD (g : FG) (c : FT) (e : FE) (δ : DS) : List D → Option (List D)
  | [] => some []
  | d :: r => (g d δ).bind fun δ1 => (c δ1).bind fun b => if b = true then (e δ1).bind fun x => (compD g c e δ r).bind fun l => some (x :: l) else compD g c e δ r
def dComp (fi : FA) (g : FG) (c : FT) (e : FE) (t : Nat) (ix : List Nat) : FE := fun δ => (fi δ).bind fun l => if l.length ≤ 100000 then (compD g c e (capD t ix δ) l).bind fun r => some (.list r) else none
def tYes : FT := fun _ => some true
def gI (g : Int → Int → Option D) : D → D → Option D := fun x y => match x, y with
  | .int i, .int j => g i j
  | _, _ => none
def pIx (n : Nat) (i : Int) : Option Nat := if 0 ≤ i then (if i < n then some i.toNat else none) else if -(n : Int) ≤ i then some (i + n).toNat else none
def pAt (xs : List D) (i : Int) : Option D := (pIx xs.length i).bind fun j => xs[j]?
def isT (c T : String) : Bool := T == c || (T == "bool" && c == "int")
def sSetl (i : Nat) (fe : FE) : FS := fun δ => if i < δ.length then sSet i fe δ else none
def gAdd : D → D → Option D := gI fun i j => some (.int (i + j))
def gSub : D → D → Option D := gI fun i j => some (.int (i - j))
def mulG (i j : Int) : Bool := decide (i.natAbs < 2 ^ 64) || decide (j.natAbs < 2 ^ 64) || (decide (i.natAbs < 2 ^ 30000) && decide (j.natAbs < 2 ^ 30000))
def gMul : D → D → Option D := gI fun i j => if mulG i j = true then some (.int (i * j)) else none
def divG (_ j : Int) : Bool := decide (j ≠ 0) && decide (j.natAbs < 2 ^ 9000)
def gDiv : D → D → Option D := gI fun i j => if divG i j = true then some (.int (i.fdiv j)) else none
def gMod : D → D → Option D := gI fun i j => if decide (j ≠ 0) = true then some (.int (i.fmod j)) else none
def powG (i j : Int) : Bool := decide (0 ≤ j) && decide (j ≤ 1000) && decide (i.natAbs < 2 ^ 64)
def gPow : D → D → Option D := gI fun i j => if powG i j = true then some (.int (i ^ j.toNat)) else none
def gLt : D → D → Option D := gI fun i j => some (.bool (decide (i < j)))
def gLe : D → D → Option D := gI fun i j => some (.bool (decide (i ≤ j)))
def gGt : D → D → Option D := gI fun i j => some (.bool (decide (j < i)))
def gGe : D → D → Option D := gI fun i j => some (.bool (decide (j ≤ i)))
def gEq : D → D → Option D := fun x y => if (SeqAt.shaped x && SeqAt.shaped y) = true then some (.bool (PyData.eqv x y)) else none
def gNe : D → D → Option D := fun x y => if (SeqAt.shaped x && SeqAt.shaped y) = true then some (.bool (!PyData.eqv x y)) else none
def gNl (i : Nat) : FG := fun d δ => if i < δ.length then gN i d δ else none
def gTn (n : Nat) (g : List D → DS → Option DS) : FG := fun d δ => match d with
  | .tuple l => if l.length = n then g l δ else none
  | _ => none
def sApp (i : Nat) (f : FE) : FS := fun δ => (dVar i δ).bind fun x => (f δ).bind fun d => match x with
  | .list l => if l.length < 1000000 then some (.nx (δ.set i (some (.d (.list (l ++ [d])))))) else none
  | _ => none
def sPut (i : Nat) (fk f : FE) : FS := fun δ => (f δ).bind fun d => (dVar i δ).bind fun x => (fk δ).bind fun k => match x, k with
  | .list l, .int j => (pIx l.length j).bind fun n => some (.nx (δ.set i (some (.d (.list (l.set n d))))))
  | _, _ => none
def partOf : D → Option (List D)
  | .list l => some l
  | .tuple l => some l
  | _ => none
def putAt (x : D) (n : Nat) (d : D) : D := match x with
  | .list l => .list (l.set n d)
  | .tuple l => .tuple (l.set n d)
  | x => x
def nMut (g : List D → D → Option (List D)) (i : Nat) (fk f : FE) : FS := fun δ => (dVar i δ).bind fun x => (fk δ).bind fun k => (f δ).bind fun d => (partOf x).bind fun l => match k with
  | .int j => (pIx l.length j).bind fun n => match l[n]? with
    | some (.list m) => (g m d).bind fun m' => some (.nx (δ.set i (some (.d (putAt x n (.list m'))))))
    | _ => none
  | _ => none
def sNApp : Nat → FE → FE → FS := nMut fun m d => if flat d = true ∧ m.length < 1000000 then some (m ++ [d]) else none
def asList : D → Option (List D)
  | .list l => some l
  | _ => none
def fLst (f : FE) : FA := fun δ => (f δ).bind asList
def rngD (lo hi : Int) : List D := (List.range (hi - lo).toNat).map fun (k : Nat) => .int (lo + (k : Int))
def rngG (i : Int) : Bool := decide (-(2 ^ 62) ≤ i) && decide (i < 2 ^ 62)
def fRng1 (fa : FA) : FA := fun δ => (fa δ).bind fun l => match l with
  | [.int j] => if rngG j = true then some (rngD 0 j) else none
  | _ => none
def fRng2 (fa : FA) : FA := fun δ => (fa δ).bind fun l => match l with
  | [.int i, .int j] => if (rngG i && rngG j) = true then some (rngD i j) else none
  | _ => none
def gIx : D → D → Option D := fun x y => match x, y with
  | .list l, .int i => pAt l i
  | .tuple l, .int i => pAt l i
  | _, _ => none
def dChain (g g' : D → D → Option D) (fa fb fc : FE) : FE := fun δ => (fa δ).bind fun x => (fb δ).bind fun y => (g x y).bind fun z => match z with
  | .bool true => (fc δ).bind fun w => g' y w
  | .bool false => some (.bool false)
  | _ => none
def dChain3 (g g' g'' : D → D → Option D) (fa fb fc fd : FE) : FE := fun δ => (fa δ).bind fun x => (fb δ).bind fun y => (g x y).bind fun z => match z with
  | .bool true => (fc δ).bind fun w => (g' y w).bind fun z' => match z' with
    | .bool true => (fd δ).bind fun u => g'' w u
    | .bool false => some (.bool false)
    | _ => none
  | .bool false => some (.bool false)
  | _ => none
def isNone : D → Bool
  | .none => true
  | _ => false
def gIsN : D → Option D := fun x => some (.bool (isNone x))
def gNotN : D → Option D := fun x => some (.bool (!isNone x))
def gLen : List D → Option D
  | [.list l] => some (.int l.length)
  | [.tuple l] => some (.int l.length)
  | _ => none
def intsD : List D → Option (List Int)
  | [] => some []
  | .int i :: r => (intsD r).map (i :: ·)
  | _ => none
def gSum : List D → Option D
  | [.list l] => (intsD l).map fun ns => .int ns.sum
  | _ => none
def gInt : List D → Option D
  | [.int i] => some (.int i)
  | [.bool b] => some (.int (if b then 1 else 0))
  | _ => none
def gAbs : List D → Option D
  | [.int i] => some (.int (if i < 0 then -i else i))
  | _ => none
def gMax2 : List D → Option D
  | [.int i, .int j] => some (.int (if j > i then j else i))
  | _ => none
def gMin2 : List D → Option D
  | [.int i, .int j] => some (.int (if j < i then j else i))
  | _ => none
def tyD : D → String
  | .none => "NoneType"
  | .bool _ => "bool"
  | .int _ => "int"
  | .str _ => "str"
  | .list _ => "list"
  | .tuple _ => "tuple"
  | .dict _ => "dict"
def gIs (c : String) : D → Option D := fun d => some (.bool (isT c (tyD d)))
def gNeg : D → Option D
  | .int i => some (.int (-i))
  | _ => none
def gCat : D → D → Option D := fun x y => match x, y with
  | .list l, .list m => if l.length + m.length ≤ 1000000 then some (.list (l ++ m)) else none
  | _, _ => none
def gRep : D → D → Option D := fun x y => match x, y with
  | .list l, .int k => if l.length * k.toNat ≤ 1000000 ∧ -(2 ^ 63) ≤ k ∧ k < 2 ^ 63 then some (.list (List.replicate k.toNat l).flatten) else none
  | _, _ => none
def gList : D → Option D
  | .list l => some (.list l)
  | .tuple l => some (.list l)
  | _ => none
abbrev FO := DS → Option (Option Int)
def oNone : FO := fun _ => some none
def oPart (f : FE) : FO := fun δ => (f δ).bind fun x => match x with
  | .int i => some (some i)
  | _ => none
def pSx (n d : Nat) : Option Int → Nat
  | none => d
  | some i => if i < 0 then (i + n).toNat else min i.toNat n
def cutD (xs : List D) (lo hi : Option Int) : List D := (xs.drop (pSx xs.length 0 lo)).take (pSx xs.length xs.length hi - pSx xs.length 0 lo)
def dSl (f : FE) (lo hi : FO) : FE := fun δ => (f δ).bind fun x => (lo δ).bind fun a => (hi δ).bind fun b => match x with
  | .list l => some (.list (cutD l a b))
  | _ => none
def sPar (i j : Nat) (fa : FA) : FS := fun δ => (fa δ).bind fun l => match l with
  | [x, y] => if i < δ.length ∧ j < δ.length then some (.nx ((δ.set i (some (.d x))).set j (some (.d y)))) else none
  | _ => none
def enumD (l : List D) : List D := l.mapIdx fun i x => .tuple [.int (i : Int), x]
def fEnum (f : FE) : FA := fun δ => (f δ).bind fun d => match d with
  | .list l => some (enumD l)
  | _ => none
def mnI (i : Int) (r : List Int) : Int := r.foldl (fun a b => if b < a then b else a) i
def gMinL : List D → Option D
  | [.list l] => match intsD l with
    | some (i :: r) => some (.int (mnI i r))
    | _ => none
  | _ => none
def boolsD : List D → Option (List Bool)
  | [] => some []
  | .bool b :: r => (boolsD r).map (b :: ·)
  | _ => none
def gAll : List D → Option D
  | [.list l] => (boolsD l).map fun bs => .bool (bs.all id)
  | _ => none
def gAny : List D → Option D
  | [.list l] => (boolsD l).map fun bs => .bool (bs.any id)
  | _ => none
def zipD : List D → List D → List D
  | x :: r, y :: s => .tuple [x, y] :: zipD r s
  | _, _ => []
def fZip (f g : FE) : FA := fun δ => (f δ).bind fun d => (g δ).bind fun e => match d, e with
  | .list l, .list m => some (zipD l m)
  | _, _ => none
theorem mnI_spec : ∀ (r : List Int) (i : Int), mnI i r ∈ i :: r ∧ ∀ a ∈ i :: r, mnI i r ≤ a
  | [], i => ⟨List.mem_cons_self, fun a h => by rw [List.mem_singleton.mp h]; exact Int.le_refl _⟩
  | b :: r, i => by
    have ih := mnI_spec r (if b < i then b else i)
    have e : mnI i (b :: r) = mnI (if b < i then b else i) r := rfl
    rw [e]
    constructor
    · rcases List.mem_cons.mp ih.1 with z | z
      · rw [z]
        split <;> simp
      · exact List.mem_cons_of_mem _ (List.mem_cons_of_mem _ z)
    · intro a h
      have h0 := ih.2 _ List.mem_cons_self
      have hb : (if b < i then b else i) ≤ i ∧ (if b < i then b else i) ≤ b := by split <;> omega
      rcases List.mem_cons.mp h with rfl | h
      · exact Int.le_trans h0 hb.1
      · rcases List.mem_cons.mp h with rfl | h
        · exact Int.le_trans h0 hb.2
        · exact ih.2 a (List.mem_cons_of_mem _ h)
end D3
namespace D3
open PySem PySem.Spec PyProof.Rows L2 My
abbrev Ok := Addr → Prop
abbrev St := L2.St
def SqK (K : PySem.W.Frag) (H : Hp) (a : Addr) (xs : List V) : Prop := (∃ o, H a = some (.frz o (.lst xs))) ∨
  ∃ (o : Obj) (its : Array Value) (n : Nat), K.lookup a = some o ∧ o.cls = .type "list" ∧ o.dict = none ∧ o.data = .seq its n ∧ its.size ≤ sizeLine ∧ Vals xs its.toList
theorem SqK.sq {K : PySem.W.Frag} {H : Hp} {a : Addr} {xs : List V} (h : SqK K H a xs) : SqL K H a xs := by
  rcases h with ⟨o, h⟩ | h
  · exact .inl (.inr ⟨o, h⟩)
  · exact .inr h
def dk0 : List (D × D) → List (Key × V)
  | [] => []
  | (.int i, .int j) :: r => (.inl i, .int j) :: dk0 r
  | _ :: r => (.inl 0, .non) :: dk0 r
mutual
inductive RA (K : PySem.W.Frag) (ok : Ok) (pl : Bool) (H : Hp) : V → D → Prop
  | non : RA K ok pl H .non .none
  | bl (b : Bool) : RA K ok pl H (.bl b) (.bool b)
  | int (i : Int) : RA K ok pl H (.int i) (.int i)
  | str (x : Str) : RA K ok pl H (.str x) (.str x)
  | lst {a : Addr} {xs : List V} {ds : List D} : H a = some (.lst xs) → ok a → RAs K ok pl H xs ds → RA K ok pl H (.ref a) (.list ds)
  | lsk {a : Addr} {xs : List V} {ds : List D} : SqK K H a xs → pl = true → RAs K ok pl H xs ds → RA K ok pl H (.ref a) (.list ds)
  | tup {a : Addr} {xs : List V} {ds : List D} : SqT K H a xs → RAs K ok pl H xs ds → RA K ok pl H (.ref a) (.tuple ds)
  | dic {a : Addr} {kvs : List (D × D)} : H a = some (.dK (dk0 kvs)) → ok a → RA K ok pl H (.ref a) (.dict kvs)
inductive RAs (K : PySem.W.Frag) (ok : Ok) (pl : Bool) (H : Hp) : List V → List D → Prop
  | nil : RAs K ok pl H [] []
  | cons {v : V} {d : D} {vs : List V} {ds : List D} : RA K ok pl H v d → RAs K ok pl H vs ds → RAs K ok pl H (v :: vs) (d :: ds)
end
section
variable {K : PySem.W.Frag} {ok ok' : Ok} {pl pl' : Bool} {H H' : Hp}
mutual
theorem RA.imp (ho : ∀ a, ok a → ok' a) (hp : pl = true → pl' = true) : ∀ {v : V} {d : D}, RA K ok pl H v d → RA K ok' pl' H v d
  | _, _, .non => .non
  | _, _, .bl b => .bl b
  | _, _, .int i => .int i
  | _, _, .str x => .str x
  | _, _, .lst h o q => .lst h (ho _ o) (RAs.imp ho hp q)
  | _, _, .lsk h o q => .lsk h (hp o) (RAs.imp ho hp q)
  | _, _, .tup h q => .tup h (RAs.imp ho hp q)
  | _, _, .dic h o => .dic h (ho _ o)
theorem RAs.imp (ho : ∀ a, ok a → ok' a) (hp : pl = true → pl' = true) : ∀ {v : List V} {d : List D}, RAs K ok pl H v d → RAs K ok' pl' H v d
  | _, _, .nil => .nil
  | _, _, .cons h q => .cons (RA.imp ho hp h) (RAs.imp ho hp q)
end
theorem SqK.same {a : Addr} {xs : List V} (e : Same H H') (h : SqK K H a xs) : SqK K H' a xs := by
  rcases h with ⟨o, h⟩ | h
  · exact .inl ⟨o, e _ _ h⟩
  · exact .inr h
mutual
theorem RA.same (e : Same H H') : ∀ {v : V} {d : D}, RA K ok pl H v d → RA K ok pl H' v d
  | _, _, .non => .non
  | _, _, .bl b => .bl b
  | _, _, .int i => .int i
  | _, _, .str x => .str x
  | _, _, .lst h o q => .lst (e _ _ h) o (RAs.same e q)
  | _, _, .lsk h o q => .lsk (h.same e) o (RAs.same e q)
  | _, _, .tup h q => .tup (same_tup e h) (RAs.same e q)
  | _, _, .dic h o => .dic (e _ _ h) o
theorem RAs.same (e : Same H H') : ∀ {v : List V} {d : List D}, RAs K ok pl H v d → RAs K ok pl H' v d
  | _, _, .nil => .nil
  | _, _, .cons h q => .cons (RA.same e h) (RAs.same e q)
end
mutual
theorem RA.flat : ∀ {v : V} {d : D}, flat d = true → RA K ok pl H v d → RA K ok' pl' H v d
  | _, _, _, .non => .non
  | _, _, _, .bl b => .bl b
  | _, _, _, .int i => .int i
  | _, _, _, .str x => .str x
  | _, _, h, .lst _ _ _ => by simp [D3.flat] at h
  | _, _, h, .lsk _ _ _ => by simp [D3.flat] at h
  | _, _, h, .tup t q => .tup t (RAs.flat (by simpa [D3.flat] using h) q)
  | _, _, h, .dic _ _ => by simp [D3.flat] at h
theorem RAs.flat : ∀ {v : List V} {d : List D}, flats d = true → RAs K ok pl H v d → RAs K ok' pl' H v d
  | _, _, _, .nil => .nil
  | _, _, h, .cons a q => by
    rw [flats, Bool.and_eq_true] at h
    exact .cons (RA.flat h.1 a) (RAs.flat h.2 q)
end
theorem SqK.upd {a b : Addr} {xs ys : List V} {o : HO} (h : H a = some (.lst ys)) (q : SqK K H b xs) : SqK K (upd H a o) b xs := by
  rcases q with ⟨o', q⟩ | q
  · refine .inl ⟨o', ?_⟩
    rw [upd_ne (ne_of q h (by intro z; cases z))]
    exact q
  · exact .inr q
theorem SqT.upd {a b : Addr} {xs ys : List V} {o : HO} (h : H a = some (.lst ys)) (q : SqT K H b xs) : SqT K (upd H a o) b xs := by
  rcases q with (q | ⟨o', q⟩) | q
  · refine .inl (.inl ?_)
    rw [upd_ne (ne_of q h (by intro z; cases z))]
    exact q
  · refine .inl (.inr ⟨o', ?_⟩)
    rw [upd_ne (ne_of q h (by intro z; cases z))]
    exact q
  · exact .inr q
mutual
theorem RA.upd {a : Addr} {ys : List V} {o : HO} (h : H a = some (.lst ys)) (na : ¬ ok a) : ∀ {v : V} {d : D}, RA K ok pl H v d → RA K ok pl (upd H a o) v d
  | _, _, .non => .non
  | _, _, .bl b => .bl b
  | _, _, .int i => .int i
  | _, _, .str x => .str x
  | _, _, .lst (a := b) e k q => .lst (by rw [upd_ne (by intro z; subst z; exact na k)]; exact e) k (RAs.upd h na q)
  | _, _, .lsk e k q => .lsk (e.upd h) k (RAs.upd h na q)
  | _, _, .tup e q => .tup (SqT.upd h e) (RAs.upd h na q)
  | _, _, .dic (a := b) e k => .dic (by rw [upd_ne (by intro z; subst z; exact na k)]; exact e) k
theorem RAs.upd {a : Addr} {ys : List V} {o : HO} (h : H a = some (.lst ys)) (na : ¬ ok a) : ∀ {v : List V} {d : List D}, RAs K ok pl H v d → RAs K ok pl (upd H a o) v d
  | _, _, .nil => .nil
  | _, _, .cons e q => .cons (RA.upd h na e) (RAs.upd h na q)
end
mutual
theorem RA.track : ∀ {v : V} {d : D}, RA K ok pl H v d → RA K (fun b => ok b ∧ H b ≠ none) pl H v d
  | _, _, .non => .non
  | _, _, .bl b => .bl b
  | _, _, .int i => .int i
  | _, _, .str x => .str x
  | _, _, .lst e k q => .lst e ⟨k, by rw [e]; simp⟩ (RAs.track q)
  | _, _, .lsk e k q => .lsk e k (RAs.track q)
  | _, _, .tup e q => .tup e (RAs.track q)
  | _, _, .dic e k => .dic e ⟨k, by rw [e]; simp⟩
theorem RAs.track : ∀ {v : List V} {d : List D}, RAs K ok pl H v d → RAs K (fun b => ok b ∧ H b ≠ none) pl H v d
  | _, _, .nil => .nil
  | _, _, .cons e q => .cons (RA.track e) (RAs.track q)
end
theorem RAs.length : ∀ {v : List V} {d : List D}, RAs K ok pl H v d → v.length = d.length
  | _, _, .nil => rfl
  | _, _, .cons _ q => by simp [RAs.length q]
theorem RAs.get : ∀ {v : List V} {d : List D} {i : Nat} {x : D}, RAs K ok pl H v d → d[i]? = some x → ∃ y, v[i]? = some y ∧ RA K ok pl H y x
  | _, _, _, _, .nil, h => by simp at h
  | _, _, 0, _, .cons a _, h => by simp at h; subst h; exact ⟨_, rfl, a⟩
  | _, _, i + 1, _, .cons _ q, h => by
    obtain ⟨y, e, r⟩ := RAs.get (i := i) q (by simpa using h)
    exact ⟨y, by simpa using e, r⟩
theorem RAs.append : ∀ {v v' : List V} {d d' : List D}, RAs K ok pl H v d → RAs K ok pl H v' d' → RAs K ok pl H (v ++ v') (d ++ d')
  | _, _, _, _, .nil, q => q
  | _, _, _, _, .cons a r, q => .cons a (RAs.append r q)
theorem RAs.set {x : V} {y : D} (r : RA K ok pl H x y) : ∀ {v : List V} {d : List D} (i : Nat), RAs K ok pl H v d → RAs K ok pl H (v.set i x) (d.set i y)
  | _, _, _, .nil => .nil
  | _, _, 0, .cons _ q => .cons r q
  | _, _, i + 1, .cons a q => .cons a (RAs.set r i q)
theorem RAs.take : ∀ {v : List V} {d : List D} (n : Nat), RAs K ok pl H v d → RAs K ok pl H (v.take n) (d.take n)
  | _, _, 0, _ => by simp; exact .nil
  | _, _, _ + 1, .nil => .nil
  | _, _, n + 1, .cons a q => .cons a (RAs.take n q)
theorem RAs.drop : ∀ {v : List V} {d : List D} (n : Nat), RAs K ok pl H v d → RAs K ok pl H (v.drop n) (d.drop n)
  | _, _, 0, q => q
  | _, _, _ + 1, .nil => .nil
  | _, _, n + 1, .cons _ q => RAs.drop n q
theorem RAs.reverse : ∀ {v : List V} {d : List D}, RAs K ok pl H v d → RAs K ok pl H v.reverse d.reverse
  | _, _, .nil => .nil
  | _, _, .cons a q => by
    rw [List.reverse_cons, List.reverse_cons]
    exact (RAs.reverse q).append (.cons a .nil)
mutual
theorem RA.rd : ∀ {v : V} {d : D}, d.canLay0 = true → RA K ok pl H v d → RdV K H v d
  | _, _, _, .non => .non
  | _, _, _, .bl b => .bl b
  | _, _, _, .int i => .int i
  | _, _, _, .str x => .str x
  | _, _, h, .lst e _ q => .lst (SqL.of e) (RAs.rd (by simpa [PyData.canLay0] using h) q)
  | _, _, h, .lsk e _ q => .lst e.sq (RAs.rd (by simpa [PyData.canLay0] using h) q)
  | _, _, h, .tup e q => .tup e (RAs.rd (by simpa [PyData.canLay0] using h) q)
  | _, _, h, .dic _ _ => by simp [PyData.canLay0] at h
theorem RAs.rd : ∀ {v : List V} {d : List D}, PyData.canLayAll0 d = true → RAs K ok pl H v d → RdVs K H v d
  | _, _, _, .nil => .nil
  | _, _, h, .cons e q => by
    rw [PyData.canLayAll0, Bool.and_eq_true] at h
    exact .cons (RA.rd h.1 e) (RAs.rd h.2 q)
end
theorem RA.intE {v : V} {i : Int} (h : RA K ok pl H v (.int i)) : v = .int i := by cases h; rfl
theorem RA.blE {v : V} {b : Bool} (h : RA K ok pl H v (.bool b)) : v = .bl b := by cases h; rfl
theorem RA.lstE {v : V} {ds : List D} (h : RA K ok pl H v (.list ds)) : ∃ a xs, v = .ref a ∧ SqL K H a xs ∧ RAs K ok pl H xs ds := by
  cases h with
  | lst e k q => exact ⟨_, _, rfl, SqL.of e, q⟩
  | lsk e k q => exact ⟨_, _, rfl, e.sq, q⟩
theorem RA.tupE {v : V} {ds : List D} (h : RA K ok pl H v (.tuple ds)) : ∃ a xs, v = .ref a ∧ SqT K H a xs ∧ RAs K ok pl H xs ds := by
  cases h with
  | tup e q => exact ⟨_, _, rfl, e, q⟩
end
inductive Fl where
  | A
  | O
  | L
  | N
  | M
  deriving DecidableEq
def isN : Option Fl → Bool
  | some .N => true
  | some .M => true
  | _ => false
mutual
inductive RT (K : PySem.W.Frag) (H : Hp) : V → D → List Addr → Prop
  | non : RT K H .non .none []
  | bl (b : Bool) : RT K H (.bl b) (.bool b) []
  | int (i : Int) : RT K H (.int i) (.int i) []
  | str (x : Str) : RT K H (.str x) (.str x) []
  | lst {a : Addr} {xs : List V} {ds : List D} {as : List Addr} : H a = some (.lst xs) → RTs K H xs ds as → RT K H (.ref a) (.list ds) (a :: as)
  | tup {a : Addr} {xs : List V} {ds : List D} {as : List Addr} : SqT K H a xs → RTs K H xs ds as → RT K H (.ref a) (.tuple ds) as
  | dic {a : Addr} {kvs : List (D × D)} : H a = some (.dK (dk0 kvs)) → RT K H (.ref a) (.dict kvs) [a]
inductive RTs (K : PySem.W.Frag) (H : Hp) : List V → List D → List Addr → Prop
  | nil : RTs K H [] [] []
  | cons {v : V} {d : D} {vs : List V} {ds : List D} {as bs : List Addr} : RT K H v d as → RTs K H vs ds bs → RTs K H (v :: vs) (d :: ds) (as ++ bs)
end
section
variable {K : PySem.W.Frag} {H H' : Hp}
mutual
theorem RT.ra {ok : Ok} {pl : Bool} : ∀ {v : V} {d : D} {as : List Addr}, RT K H v d as → (∀ a ∈ as, ok a) → RA K ok pl H v d
  | _, _, _, .non, _ => .non
  | _, _, _, .bl b, _ => .bl b
  | _, _, _, .int i, _ => .int i
  | _, _, _, .str x, _ => .str x
  | _, _, _, .lst e q, h => .lst e (h _ List.mem_cons_self) (RTs.ra q fun a ha => h a (List.mem_cons_of_mem _ ha))
  | _, _, _, .tup e q, h => .tup e (RTs.ra q h)
  | _, _, _, .dic e, h => .dic e (h _ List.mem_cons_self)
theorem RTs.ra {ok : Ok} {pl : Bool} : ∀ {v : List V} {d : List D} {as : List Addr}, RTs K H v d as → (∀ a ∈ as, ok a) → RAs K ok pl H v d
  | _, _, _, .nil, _ => .nil
  | _, _, _, .cons e q, h => .cons (RT.ra e fun a ha => h a (List.mem_append_left _ ha)) (RTs.ra q fun a ha => h a (List.mem_append_right _ ha))
end
mutual
theorem RT.same (s : Same H H') : ∀ {v : V} {d : D} {as : List Addr}, RT K H v d as → RT K H' v d as
  | _, _, _, .non => .non
  | _, _, _, .bl b => .bl b
  | _, _, _, .int i => .int i
  | _, _, _, .str x => .str x
  | _, _, _, .lst e q => .lst (s _ _ e) (RTs.same s q)
  | _, _, _, .tup e q => .tup (same_tup s e) (RTs.same s q)
  | _, _, _, .dic e => .dic (s _ _ e)
theorem RTs.same (s : Same H H') : ∀ {v : List V} {d : List D} {as : List Addr}, RTs K H v d as → RTs K H' v d as
  | _, _, _, .nil => .nil
  | _, _, _, .cons e q => .cons (RT.same s e) (RTs.same s q)
end
mutual
theorem RT.upd {a : Addr} {ys : List V} {o : HO} (h : H a = some (.lst ys)) : ∀ {v : V} {d : D} {as : List Addr}, a ∉ as → RT K H v d as → RT K (upd H a o) v d as
  | _, _, _, _, .non => .non
  | _, _, _, _, .bl b => .bl b
  | _, _, _, _, .int i => .int i
  | _, _, _, _, .str x => .str x
  | _, _, _, na, .lst e q => .lst (by rw [upd_ne (fun z => na (by rw [← z]; exact List.mem_cons_self))]; exact e) (RTs.upd h (fun z => na (List.mem_cons_of_mem _ z)) q)
  | _, _, _, na, .tup e q => .tup (SqT.upd h e) (RTs.upd h na q)
  | _, _, _, na, .dic e => .dic (by rw [upd_ne (fun z => na (by rw [← z]; exact List.mem_cons_self))]; exact e)
theorem RTs.upd {a : Addr} {ys : List V} {o : HO} (h : H a = some (.lst ys)) : ∀ {v : List V} {d : List D} {as : List Addr}, a ∉ as → RTs K H v d as → RTs K (upd H a o) v d as
  | _, _, _, _, .nil => .nil
  | _, _, _, na, .cons e q => .cons (RT.upd h (fun z => na (List.mem_append_left _ z)) e) (RTs.upd h (fun z => na (List.mem_append_right _ z)) q)
end
mutual
theorem RT.tracked : ∀ {v : V} {d : D} {as : List Addr}, RT K H v d as → ∀ a ∈ as, H a ≠ none
  | _, _, _, .non, _, h => by cases h
  | _, _, _, .bl b, _, h => by cases h
  | _, _, _, .int i, _, h => by cases h
  | _, _, _, .str x, _, h => by cases h
  | _, _, _, .lst e q, a, h => by
    rcases List.mem_cons.mp h with rfl | z
    · rw [e]; simp
    · exact RTs.tracked q a z
  | _, _, _, .tup e q, a, h => RTs.tracked q a h
  | _, _, _, .dic e, a, h => by
    rw [List.mem_singleton.mp h, e]; simp
theorem RTs.tracked : ∀ {v : List V} {d : List D} {as : List Addr}, RTs K H v d as → ∀ a ∈ as, H a ≠ none
  | _, _, _, .nil, _, h => by cases h
  | _, _, _, .cons e q, a, h => by
    rcases List.mem_append.mp h with z | z
    · exact RT.tracked e a z
    · exact RTs.tracked q a z
end
mutual
theorem RA.rt {ok : Ok} : ∀ {v : V} {d : D}, RA K ok false H v d → ∃ as, RT K H v d as ∧ as.length = nl d ∧ ∀ a ∈ as, ok a
  | _, _, .non => ⟨[], .non, rfl, fun _ h => by cases h⟩
  | _, _, .bl b => ⟨[], .bl b, rfl, fun _ h => by cases h⟩
  | _, _, .int i => ⟨[], .int i, rfl, fun _ h => by cases h⟩
  | _, _, .str x => ⟨[], .str x, rfl, fun _ h => by cases h⟩
  | _, _, .lst e k q => by
    obtain ⟨as, h1, h2, h3⟩ := RAs.rts q
    refine ⟨_ :: as, .lst e h1, by rw [List.length_cons, h2, nl], fun a ha => ?_⟩
    rcases List.mem_cons.mp ha with rfl | z
    · exact k
    · exact h3 a z
  | _, _, .lsk e k q => by cases k
  | _, _, .tup e q => by
    obtain ⟨as, h1, h2, h3⟩ := RAs.rts q
    exact ⟨as, .tup e h1, by rw [h2, nl], h3⟩
  | _, _, .dic e k => ⟨[_], .dic e, by simp [nl], fun a ha => by rw [List.mem_singleton.mp ha]; exact k⟩
theorem RAs.rts {ok : Ok} : ∀ {v : List V} {d : List D}, RAs K ok false H v d → ∃ as, RTs K H v d as ∧ as.length = nls d ∧ ∀ a ∈ as, ok a
  | _, _, .nil => ⟨[], .nil, rfl, fun _ h => by cases h⟩
  | _, _, .cons e q => by
    obtain ⟨as, h1, h2, h3⟩ := RA.rt e
    obtain ⟨bs, g1, g2, g3⟩ := RAs.rts q
    refine ⟨as ++ bs, .cons h1 g1, by rw [List.length_append, h2, g2, nls], fun a ha => ?_⟩
    rcases List.mem_append.mp ha with z | z
    · exact h3 a z
    · exact g3 a z
end
end
structure Gh where
  H0 : Hp
  HF : Hp
  pk : Nat → Option Addr
  pn : Nat → List Addr := fun _ => []
structure Ow where
  s : Nat → Option Addr
  n : Nat → List Addr := fun _ => []
instance : CoeFun Ow (fun _ => Nat → Option Addr) := ⟨Ow.s⟩
abbrev ow0 : Ow := ⟨fun _ => none, fun _ => []⟩
def okA (ow : Ow) : Ok := fun a => (∀ i, ow i ≠ some a) ∧ ∀ i, a ∉ ow.n i
structure Rel (K : PySem.W.Frag) (fl : List Fl) (G : Gh) (ow : Ow) (σ : St) (H : Hp) (δ : DS) : Prop where
  s0 : Same G.H0 G.HF
  s1 : Same G.HF H
  len : σ.length = δ.length
  own : ∀ i a, ow i = some a → G.H0 a = none ∧ ((fl[i]? = some .O ∧ G.HF a = none) ∨ (fl[i]? = some .L ∧ ∃ xs, G.HF a = some (.lst xs))) ∧
    ∃ xs ds, σ[i]? = some (some (.ref a)) ∧ H a = some (.lst xs) ∧ RAs K (okA ow) true H xs ds ∧ δ[i]? = some (some (.d (.list ds)))
  inj : ∀ i j a, ow i = some a → ow j = some a → i = j
  pin : ∀ i, fl[i]? = some .L → ow i = G.pk i
  dat : ∀ i d, δ[i]? = some (some (.d d)) → isN fl[i]? = false → ow i = none → ∃ v, σ[i]? = some (some v) ∧ RA K (okA ow) true H v d
  oo : ∀ i d, δ[i]? = some (some (.d d)) → isN fl[i]? = false → fl[i]? ≠ some .A → ow i = none → flat d = true
  nt : ∀ i a, a ∈ ow.n i → G.H0 a = none ∧ H a ≠ none ∧ ((fl[i]? = some .N ∧ G.HF a = none) ∨ fl[i]? = some .M)
  nd : ∀ i j a, a ∈ ow.n i → a ∈ ow.n j → i = j
  ns : ∀ i j a, a ∈ ow.n i → ow j ≠ some a
  np : ∀ i, fl[i]? = some .M → ow.n i = G.pn i
  nr : ∀ i d, isN fl[i]? = true → δ[i]? = some (some (.d d)) → ∃ v, σ[i]? = some (some v) ∧ RT K H v d (ow.n i) ∧ (ow.n i).Nodup
theorem Rel.same0 {K : PySem.W.Frag} {fl : List Fl} {G : Gh} {ow : Ow} {σ : St} {H : Hp} {δ : DS} (R : Rel K fl G ow σ H δ) : Same G.H0 H := R.s0.trans R.s1
theorem Rel.grow {K : PySem.W.Frag} {fl : List Fl} {G : Gh} {ow : Ow} {σ : St} {H H' : Hp} {δ : DS} (R : Rel K fl G ow σ H δ) (e : Same H H') : Rel K fl G ow σ H' δ :=
  ⟨R.s0, R.s1.trans e, R.len, fun i a h => by
    obtain ⟨h0, hf, xs, ds, h1, h2, h3, h4⟩ := R.own i a h
    exact ⟨h0, hf, xs, ds, h1, e _ _ h2, h3.same e, h4⟩, R.inj, R.pin, fun i d h1 hn h2 => by
    obtain ⟨v, h3, h4⟩ := R.dat i d h1 hn h2
    exact ⟨v, h3, h4.same e⟩, R.oo, fun i a h => by
    obtain ⟨h1, h2, h3⟩ := R.nt i a h
    refine ⟨h1, fun z => h2 (e.free z), h3⟩, R.nd, R.ns, R.np, fun i d h1 h2 => by
    obtain ⟨v, h3, h4, h5⟩ := R.nr i d h1 h2
    exact ⟨v, h3, h4.same e, h5⟩⟩
inductive Kd where
  | P
  | B (L : List Nat)
  | A
  | R
  | F
  | C
  | FC
  | T
def ok1 : Ok := fun _ => True
def ok0 : Ok := fun _ => False
def okN (H : Hp) : Ok := fun a => H a = none
def Rs (K : PySem.W.Frag) (H0 : Hp) (ow : Ow) (Hb H : Hp) : Kd → V → D → Prop
  | .P, v, d => RA K ok1 true H v d
  | .B L, v, d => RA K (okA ow) true H v d ∨ ∃ i ∈ L, ∃ a xs ds, ow i = some a ∧ v = .ref a ∧ d = .list ds ∧ H a = some (.lst xs) ∧ RAs K (okA ow) true H xs ds
  | .A, v, d => RA K (okA ow) true H v d
  | .R, v, d => RA K (okN H0) false H v d
  | .F, v, d => (flat d = true ∧ RA K ok0 false H v d) ∨ ∃ a xs ds, v = .ref a ∧ d = .list ds ∧ Hb a = none ∧ H a = some (.lst xs) ∧ RAs K (fun b => okA ow b ∧ b ≠ a) true H xs ds
  | .C, v, d => RA K (okN Hb) false H v d
  | .T, v, d => ∃ as, RT K H v d as ∧ as.Nodup ∧ ∀ a ∈ as, Hb a = none
  | .FC, v, d => (flat d = true ∧ RA K ok0 false H v d) ∨ ∃ a xs ds, v = .ref a ∧ d = .list ds ∧ Hb a = none ∧ H a = some (.lst xs) ∧ RAs K (fun b => okN Hb b ∧ b ≠ a) false H xs ds
section
variable {K : PySem.W.Frag} {Hb H H' : Hp} {fl : List Fl} {G : Gh} {ow : Ow} {σ : St} {δ : DS} {v : V} {d : D}
theorem okA_new (R : Rel K fl G ow σ Hb δ) {a : Addr} (h : Hb a = none) : okA ow a := ⟨fun i e => (by
  obtain ⟨_, _, xs, _, _, h2, _⟩ := R.own i a e
  rw [h] at h2
  cases h2), fun i e => (R.nt i a e).2.1 h⟩
theorem okN_0 (R : Rel K fl G ow σ Hb δ) {a : Addr} (h : Hb a = none) : okN G.H0 a := R.same0.free h
theorem Rs.FC_F (R : Rel K fl G ow σ Hb δ) (h : Rs K G.H0 ow Hb H .FC v d) : Rs K G.H0 ow Hb H .F v d := by
  rcases h with h | ⟨a, xs, ds, h1, h2, h3, h4, h5⟩
  · exact .inl h
  · exact .inr ⟨a, xs, ds, h1, h2, h3, h4, h5.imp (fun b z => ⟨okA_new R z.1, z.2⟩) (fun _ => rfl)⟩
theorem Rs.FC_C (h : Rs K G.H0 ow Hb H .FC v d) : Rs K G.H0 ow Hb H .C v d := by
  rcases h with h | ⟨a, xs, ds, rfl, rfl, h3, h4, h5⟩
  · exact RA.flat h.1 h.2
  · exact .lst h4 h3 (h5.imp (fun b z => z.1) (fun z => z))
theorem Rs.F_A (R : Rel K fl G ow σ Hb δ) (h : Rs K G.H0 ow Hb H .F v d) : Rs K G.H0 ow Hb H .A v d := by
  rcases h with h | ⟨a, xs, ds, rfl, rfl, h3, h4, h5⟩
  · exact RA.flat h.1 h.2
  · exact .lst h4 (okA_new R h3) (h5.imp (fun b z => z.1) (fun z => z))
theorem Rs.C_A (R : Rel K fl G ow σ Hb δ) (h : Rs K G.H0 ow Hb H .C v d) : Rs K G.H0 ow Hb H .A v d := RA.imp (fun _ z => okA_new R z) (fun _ => rfl) h
theorem Rs.C_R (R : Rel K fl G ow σ Hb δ) (h : Rs K G.H0 ow Hb H .C v d) : Rs K G.H0 ow Hb H .R v d := RA.imp (fun _ z => okN_0 R z) (fun z => z) h
theorem Rs.A_B (L : List Nat) (h : Rs K G.H0 ow Hb H .A v d) : Rs K G.H0 ow Hb H (.B L) v d := .inl h
theorem Rs.B_P {L : List Nat} (h : Rs K G.H0 ow Hb H (.B L) v d) : Rs K G.H0 ow Hb H .P v d := by
  rcases h with h | ⟨i, _, a, xs, ds, _, rfl, rfl, h4, h5⟩
  · exact RA.imp (fun _ _ => trivial) (fun z => z) h
  · exact .lst h4 trivial (h5.imp (fun _ _ => trivial) (fun z => z))
theorem Rs.P_flat (hf : flat d = true) (h : Rs K G.H0 ow Hb H .P v d) : Rs K G.H0 ow Hb H .FC v d := .inl ⟨hf, RA.flat hf h⟩
theorem Rs.C_fl1 (hf : fl1 d = true) (h : Rs K G.H0 ow Hb H .C v d) : Rs K G.H0 ow Hb H .FC v d := by
  by_cases e : ∃ ds, d = .list ds
  · obtain ⟨ds, rfl⟩ := e
    cases h with
    | lst e k q => exact .inr ⟨_, _, _, rfl, rfl, k, e, RAs.flat hf q⟩
    | lsk e k q => cases k
  · have hf' : flat d = true := by
      cases d <;> first | exact hf | exact absurd ⟨_, rfl⟩ e
    exact .inl ⟨hf', RA.flat hf' h⟩
theorem Rs.F_fl1 (hf : fl1 d = true) (h : Rs K G.H0 ow Hb H .F v d) : Rs K G.H0 ow Hb H .FC v d := by
  rcases h with h | ⟨a, xs, ds, h1, h2, h3, h4, h5⟩
  · exact .inl h
  · subst h2
    exact .inr ⟨a, xs, ds, h1, rfl, h3, h4, RAs.flat hf h5⟩
end
def tD (K : PySem.W.Frag) (fl : List Fl) (k : Kd) (f : FE) : TE := fun σ H Q => ∃ G ow δ d, Rel K fl G ow σ H δ ∧ f δ = some d ∧ ∀ v H', Same H H' → Rs K G.H0 ow H H' k v d → Q v H'
abbrev DE (X : Cx) (fl : List Fl) (k : Kd) (e : Expr) (f : FE) : Prop := PE X e (tD X.K fl k f)
def tDA (K : PySem.W.Frag) (fl : List Fl) (f : FA) : TA := fun σ H Q => ∃ G ow δ ds, Rel K fl G ow σ H δ ∧ f δ = some ds ∧ ∀ vs H', Same H H' → RAs K ok1 true H' vs ds → Q vs H'
abbrev DA (X : Cx) (fl : List Fl) (es : List Expr) (f : FA) : Prop := PA X es (tDA X.K fl f)
def tDT (K : PySem.W.Frag) (fl : List Fl) (f : FT) : TT := fun σ H Q => ∃ G ow δ b, Rel K fl G ow σ H δ ∧ f δ = some b ∧ ∀ H', Same H H' → Q b H'
abbrev DT (X : Cx) (fl : List Fl) (e : Expr) (f : FT) : Prop := PT X e (tDT X.K fl f)
abbrev DW (X : Cx) (fl : List Fl) (e : Expr) (f : FT) : Prop := PW X e (tDT X.K fl f)
def EndD (K : PySem.W.Frag) (fl : List Fl) (G : Gh) (Dn : Ends) : Oc → Prop
  | .nx δ' => ∀ ow' σ' H', Rel K fl G ow' σ' H' δ' → Dn.nx σ' H'
  | .rt d => ∀ v H', Same G.H0 H' → RA K (okN G.H0) false H' v d → Dn.rt v H'
  | .bk δ' => ∀ ow' σ' H', Rel K fl G ow' σ' H' δ' → Dn.bk σ' H'
  | .ct δ' => ∀ ow' σ' H', Rel K fl G ow' σ' H' δ' → Dn.ct σ' H'
  | .ex _ _ d => ∀ v H', Same G.H0 H' → RA K ok1 true H' v d → Dn.rt v H'
def tDS (K : PySem.W.Frag) (fl : List Fl) (f : FS) : TS := fun Dn σ H => ∃ G ow δ o, Rel K fl G ow σ H δ ∧ f δ = some o ∧ EndD K fl G Dn o
abbrev DS1 (X : Cx) (fl : List Fl) (s : Stmt) (f : FS) : Prop := PS X s (tDS X.K fl f)
abbrev DSs (X : Cx) (fl : List Fl) (s : List Stmt) (f : FS) : Prop := PSs X s (tDS X.K fl f)
def tDG (K : PySem.W.Frag) (fl : List Fl) (tg : List Nat) (g : FG) : TG := fun v σ H Q => ∃ G ow δ d δ', Rel K fl G ow σ H δ ∧ RA K (okA ow) true H v d ∧ g d δ = some δ' ∧ ∀ σ', Rel K fl G ow σ' H δ' → (∀ j, j ∉ tg → σ'[j]? = σ[j]?) → Q σ' H
abbrev DG (X : Cx) (fl : List Fl) (tg : List Nat) (e : Expr) (g : FG) : Prop := PG X e (tDG X.K fl tg g)
section
variable {X : Cx} {e : Expr} {es : List Expr} {st : Stmt} {sts : List Stmt}
theorem PE.imp {t t' : TE} (h : PE X e t) (i : ∀ σ H Q, t' σ H Q → t σ H Q) : PE X e t' := fun pins s σ H Q I q => h pins s σ H Q I (i σ H Q q)
theorem PT.imp {t t' : TT} (h : PT X e t) (i : ∀ σ H Q, t' σ H Q → t σ H Q) : PT X e t' := fun pins s σ H Q I q => h pins s σ H Q I (i σ H Q q)
theorem PW.imp {t t' : TT} (h : PW X e t) (i : ∀ σ H Q, t' σ H Q → t σ H Q) : PW X e t' := fun w pins s σ H Q I q => h w pins s σ H Q I (i σ H Q q)
theorem PA.imp {t t' : TA} (h : PA X es t) (i : ∀ σ H Q, t' σ H Q → t σ H Q) : PA X es t' := fun p pins s σ H Q I q => h p pins s σ H Q I (i σ H Q q)
theorem PS.imp {t t' : TS} (h : PS X st t) (i : ∀ D σ H, t' D σ H → t D σ H) : PS X st t' := fun pins s σ H D I q => h pins s σ H D I (i D σ H q)
theorem PSs.imp {t t' : TS} (h : PSs X sts t) (i : ∀ D σ H, t' D σ H → t D σ H) : PSs X sts t' := fun pins s σ H D I q => h pins s σ H D I (i D σ H q)
theorem PG.imp {t t' : TG} (h : PG X e t) (i : ∀ v σ H Q, t' v σ H Q → t v σ H Q) : PG X e t' := fun pins s σ H v u Q I r q => h pins s σ H v u Q I r (i v σ H Q q)
end
end D3
namespace D3
open PySem PySem.Spec PyProof.Rows L2 My
section
variable {X : Cx} {fl : List Fl} {e a b c : Expr} {es : List Expr} {k : Kd} {f fa fb fc : FE} {pos : Pos}
theorem dVar_eq {i : Nat} {δ : DS} {d : D} (h : dVar i δ = some d) : δ[i]? = some (some (.d d)) := by
  unfold dVar at h
  split at h
  · next x e => rw [e]; cases h; rfl
  · cases h
theorem de_var (i : Nat) {x : Str} (hN : X.N[i]? = some x := by rfl) (hv : Vis X.env.scope x := by first | exact Or.inl rfl | exact Or.inr (Or.inl rfl) | exact Or.inr (Or.inr rfl)) (hd : (x == ("__debug__" : Str)) = false := by decide)
    (hcd : (x == ("__classdict__" : Str)) = false := by decide) (hn : isN fl[i]? = false := by rfl) : DE X fl (.B [i]) (.Name x pos) (dVar i) := by
  refine PE.imp (pe_var hN hv hd hcd) fun σ H Q h => ?_
  obtain ⟨G, ow, δ, d, R, hf, q⟩ := h
  have e := dVar_eq hf
  cases ho : ow i with
  | none =>
    obtain ⟨v, h1, h2⟩ := R.dat i d e hn ho
    exact ⟨v, h1, q v H (Same.refl H) (.inl h2)⟩
  | some a =>
    obtain ⟨h0, _, xs, ds, h1, h2, h3, h4⟩ := R.own i a ho
    rw [e] at h4
    cases h4
    exact ⟨_, h1, q _ H (Same.refl H) (.inr ⟨i, List.mem_singleton.mpr rfl, a, xs, ds, ho, rfl, rfl, h2, h3⟩)⟩
theorem de_varA (i : Nat) (hfl : fl[i]? = some .A) {x : Str} (hN : X.N[i]? = some x := by rfl) (hv : Vis X.env.scope x := by first | exact Or.inl rfl | exact Or.inr (Or.inl rfl) | exact Or.inr (Or.inr rfl)) (hd : (x == ("__debug__" : Str)) = false := by decide)
    (hcd : (x == ("__classdict__" : Str)) = false := by decide) : DE X fl .A (.Name x pos) (dVar i) := by
  refine PE.imp (pe_var hN hv hd hcd) fun σ H Q h => ?_
  obtain ⟨G, ow, δ, d, R, hf, q⟩ := h
  have e := dVar_eq hf
  cases ho : ow i with
  | none =>
    obtain ⟨v, h1, h2⟩ := R.dat i d e (by rw [hfl]; rfl) ho
    exact ⟨v, h1, q v H (Same.refl H) h2⟩
  | some a =>
    obtain ⟨h0, hz, _⟩ := R.own i a ho
    rw [hfl] at hz
    rcases hz with ⟨z, _⟩ | ⟨z, _⟩ <;> cases z
theorem de_varR (i : Nat) (hfl : fl[i]? ≠ some .A) {x : Str} (hN : X.N[i]? = some x := by rfl) (hv : Vis X.env.scope x := by first | exact Or.inl rfl | exact Or.inr (Or.inl rfl) | exact Or.inr (Or.inr rfl)) (hd : (x == ("__debug__" : Str)) = false := by decide)
    (hcd : (x == ("__classdict__" : Str)) = false := by decide) (hn : isN fl[i]? = false := by rfl) : DE X fl .R (.Name x pos) (dFl1 (dVar i)) := by
  refine PE.imp (pe_var hN hv hd hcd) fun σ H Q h => ?_
  obtain ⟨G, ow, δ, d, R, hf, q⟩ := h
  unfold dFl1 at hf
  cases hv' : dVar i δ with
  | none => rw [hv'] at hf; cases hf
  | some d' =>
    rw [hv', Option.bind_some] at hf
    by_cases hc : fl1 d' = true
    · rw [if_pos hc] at hf
      cases hf
      have e := dVar_eq hv'
      cases ho : ow i with
      | none =>
        obtain ⟨v, h1, h2⟩ := R.dat i d e hn ho
        exact ⟨v, h1, q v H (Same.refl H) (RA.flat (R.oo i d e hn hfl ho) h2)⟩
      | some a =>
        obtain ⟨h0, _, xs, ds, h1, h2, h3, h4⟩ := R.own i a ho
        rw [e] at h4
        cases h4
        exact ⟨_, h1, q _ H (Same.refl H) (.lst h2 h0 (RAs.flat hc h3))⟩
    · rw [if_neg hc] at hf
      cases hf
theorem de_cast {k k' : Kd} (h : DE X fl k e f) (hc : ∀ (Hb H : Hp) (G : Gh) (ow : Ow) (σ : St) (δ : DS) (v : V) (d : D), Rel X.K fl G ow σ Hb δ → Rs X.K G.H0 ow Hb H k v d → Rs X.K G.H0 ow Hb H k' v d) : DE X fl k' e f := by
  refine PE.imp h fun σ H Q h => ?_
  obtain ⟨G, ow, δ, d, R, hf, q⟩ := h
  exact ⟨G, ow, δ, d, R, hf, fun v H' s r => q v H' s (hc _ _ G ow σ δ v d R r)⟩
theorem de_guard {k k' : Kd} {p : D → Bool} (h : DE X fl k e f) (hc : ∀ (Hb H : Hp) (G : Gh) (ow : Ow) (σ : St) (δ : DS) (v : V) (d : D), p d = true → Rel X.K fl G ow σ Hb δ → Rs X.K G.H0 ow Hb H k v d → Rs X.K G.H0 ow Hb H k' v d) :
    DE X fl k' e (fun δ => (f δ).bind fun d => if p d = true then some d else none) := by
  refine PE.imp h fun σ H Q h => ?_
  obtain ⟨G, ow, δ, d, R, hf, q⟩ := h
  dsimp only at hf
  cases hv : f δ with
  | none => rw [hv] at hf; cases hf
  | some d' =>
    rw [hv, Option.bind_some] at hf
    by_cases hp : p d' = true
    · rw [if_pos hp] at hf
      cases hf
      exact ⟨G, ow, δ, d, R, hv, fun v H' s r => q v H' s (hc _ _ G ow σ δ v d hp R r)⟩
    · rw [if_neg hp] at hf
      cases hf
theorem c_FC_F (h : DE X fl .FC e f) : DE X fl .F e f := de_cast h fun _ _ _ _ _ _ _ _ R r => r.FC_F R
theorem c_FC_C (h : DE X fl .FC e f) : DE X fl .C e f := de_cast h fun _ _ _ _ _ _ _ _ R r => r.FC_C
theorem c_F_A (h : DE X fl .F e f) : DE X fl .A e f := de_cast h fun _ _ _ _ _ _ _ _ R r => r.F_A R
theorem c_C_A (h : DE X fl .C e f) : DE X fl .A e f := de_cast h fun _ _ _ _ _ _ _ _ R r => r.C_A R
theorem c_C_R (h : DE X fl .C e f) : DE X fl .R e f := de_cast h fun _ _ _ _ _ _ _ _ R r => r.C_R R
theorem c_A_B (h : DE X fl .A e f) : DE X fl (.B []) e f := de_cast h fun _ _ _ _ _ _ _ _ R r => Rs.A_B [] r
theorem c_B_P {L : List Nat} (h : DE X fl (.B L) e f) : DE X fl .P e f := de_cast h fun _ _ _ _ _ _ _ _ R r => r.B_P
theorem c_flat (h : DE X fl .P e f) : DE X fl .FC e (dFlat f) := de_guard h fun _ _ _ _ _ _ _ _ hf R r => r.P_flat hf
theorem c_Cfl1 (h : DE X fl .C e f) : DE X fl .FC e (dFl1 f) := de_guard h fun _ _ _ _ _ _ _ _ hf R r => r.C_fl1 hf
theorem c_Ffl1 (h : DE X fl .F e f) : DE X fl .FC e (dFl1 f) := de_guard h fun _ _ _ _ _ _ _ _ hf R r => r.F_fl1 hf
theorem c_FC_A (h : DE X fl .FC e f) : DE X fl .A e f := c_F_A (c_FC_F h)
theorem c_FC_R (h : DE X fl .FC e f) : DE X fl .R e f := c_C_R (c_FC_C h)
theorem c_A_P (h : DE X fl .A e f) : DE X fl .P e f := c_B_P (c_A_B h)
theorem c_C_P (h : DE X fl .C e f) : DE X fl .P e f := c_A_P (c_C_A h)
theorem c_FC_P (h : DE X fl .FC e f) : DE X fl .P e f := c_A_P (c_FC_A h)
theorem c_F_P (h : DE X fl .F e f) : DE X fl .P e f := c_A_P (c_F_A h)
theorem de_cst {v : V} {d : D} (h : PE X e (tC v)) (hf : flat d = true) (hr : ∀ H, RA X.K ok0 false H v d) : DE X fl .FC e (dC d) := by
  refine PE.imp h fun σ H Q h => ?_
  obtain ⟨G, ow, δ, d', R, hd, q⟩ := h
  cases hd
  exact q v H (Same.refl H) (.inl ⟨hf, hr H⟩)
theorem de_int {i j pos} : DE X fl .FC (.Constant (.int i) j pos) (dC (.int i)) := de_cst pe_int rfl fun _ => .int _
theorem de_bl {b j pos} : DE X fl .FC (.Constant (.bool b) j pos) (dC (.bool b)) := de_cst pe_bl rfl fun _ => .bl _
theorem de_non {j pos} : DE X fl .FC (.Constant .none j pos) (dC .none) := de_cst pe_non rfl fun _ => .non
theorem de_str {x j pos} : DE X fl .FC (.Constant (.str x) j pos) (dC (.str x)) := de_cst pe_str rfl fun _ => .str _
theorem de_glob {x : Str} {i : Int} {pos : Pos} (h : ∃ t, X.mg x = some (.int i t)) (hg : Gl X x := by rfl) (hd : (x == ("__debug__" : Str)) = false := by decide) : DE X fl .FC (.Name x pos) (dC (.int i)) := by
  obtain ⟨t, h⟩ := h
  exact de_cst (pe_glob (v := .int i) hg h ⟨t, rfl⟩ hd) rfl fun _ => .int _
def BrO (K : PySem.W.Frag) (r : R2) (g : D → D → Option D) : Prop := ∀ (H : Hp) (x y : V) (dx dy d : D) (Q : VK), RA K ok1 true H x dx → RA K ok1 true H y dy → g dx dy = some d → (∀ v, flat d = true → RA K ok0 false H v d → Q v H) → r x y H Q
theorem bind2 {fa fb : FE} {g : D → D → Option D} {δ : DS} {d : D} (h : dOp g fa fb δ = some d) : ∃ x y, fa δ = some x ∧ fb δ = some y ∧ g x y = some d := by
  unfold dOp at h
  cases ha : fa δ with
  | none => rw [ha] at h; cases h
  | some x =>
    rw [ha, Option.bind_some] at h
    cases hb : fb δ with
    | none => rw [hb] at h; cases h
    | some y =>
      rw [hb, Option.bind_some] at h
      exact ⟨x, y, rfl, rfl, h⟩
theorem bind1 {α β : Type} {x : Option α} {g : α → Option β} {d : β} (h : x.bind g = some d) : ∃ y, x = some y ∧ g y = some d := by
  cases x with
  | none => cases h
  | some y => exact ⟨y, rfl, h⟩
theorem op_bridge {r : R2} {g : D → D → Option D} {σ : St} {H : Hp} {Q : VK} (hb : BrO X.K r g) (h : tD X.K fl .FC (dOp g fa fb) σ H Q) : tOp r (tD X.K fl .P fa) (tD X.K fl .P fb) σ H Q := by
  obtain ⟨G, ow, δ, d, R, hf, q⟩ := h
  obtain ⟨x, y, e1, e2, e3⟩ := bind2 hf
  refine ⟨G, ow, δ, x, R, e1, fun v H1 s1 r1 => ⟨G, ow, δ, y, R.grow s1, e2, fun u H2 s2 r2 => ?_⟩⟩
  exact hb H2 v u x y d Q (RA.same s2 r1) r2 e3 fun z hz rz => q z H2 (s1.trans s2) (.inl ⟨hz, rz⟩)
theorem de_op {op : Operator} {r : R2} {g : D → D → Option D} (ho : OpR X (binaryOp op) r) (hb : BrO X.K r g) (h1 : DE X fl .P a fa) (h2 : DE X fl .P b fb) : DE X fl .FC (.BinOp a op b pos) (dOp g fa fb) :=
  PE.imp (pe_op ho h1 h2) fun _ _ _ h => op_bridge hb h
theorem de_cmp {op : CmpOp} {r : R2} {g : D → D → Option D} (ho : OpR X (compareOp op) r) (hb : BrO X.K r g) (h1 : DE X fl .P a fa) (h2 : DE X fl .P b fb) (hm : behindInMarks op b = false) : DE X fl .FC (.Compare a [op] [b] pos) (dOp g fa fb) :=
  PE.imp (pe_cmpR ho h1 h2 hm) fun _ _ _ h => op_bridge hb h
theorem dt_cmp {op : CmpOp} {r : R2} {g : D → D → Option D} (ho : OpR X (compareOp op) r) (hb : BrO X.K r g) (h1 : DE X fl .P a fa) (h2 : DE X fl .P b fb) (hm : behindInMarks op b = false) : DT X fl (.Compare a [op] [b] pos) (tBool (dOp g fa fb)) := by
  refine PT.imp (pt_cmpR ho h1 h2 hm) fun σ H Q h => ?_
  obtain ⟨G, ow, δ, c, R, hf, q⟩ := h
  obtain ⟨d, e1, e2⟩ := bind1 hf
  cases d <;> first | (cases e2; done) | skip
  cases e2
  refine op_bridge (fl := fl) (fa := fa) (fb := fb) hb ⟨G, ow, δ, _, R, e1, fun v H' s r => ?_⟩
  obtain rfl := (Rs.FC_C r).blE
  exact ⟨_, rfl, q H' s⟩
theorem dt_val (h : DE X fl .P e f) (he : ∀ whole, isTrue e X.env whole = (do let v ← whole; standAt e.pos; holding [v] (truthy v)) := by intro _; rfl) : DT X fl e (tBool f) := by
  refine PT.imp (pt_val h he) fun σ H Q h => ?_
  obtain ⟨G, ow, δ, c, R, hf, q⟩ := h
  obtain ⟨d, e1, e2⟩ := bind1 hf
  cases d <;> first | (cases e2; done) | skip
  cases e2
  refine ⟨G, ow, δ, _, R, e1, fun v H' s r => ?_⟩
  obtain rfl := RA.blE r
  exact ⟨_, rfl, q H' s⟩
theorem br_I0 {K : PySem.W.Frag} {h : Int → Int → V} {g : Int → Int → D} (hf : ∀ i j, flat (g i j) = true) (hr : ∀ H i j, RA K ok0 false H (h i j) (g i j)) : BrO K (rI0 h) (gI fun i j => some (g i j)) := by
  intro H x y dx dy d Q rx ry e q
  unfold gI at e
  split at e
  · next i j =>
    cases e
    exact ⟨i, j, rx.intE, ry.intE, q _ (hf i j) (hr H i j)⟩
  · cases e
theorem br_I {K : PySem.W.Frag} {C : Int → Int → Prop} {h : Int → Int → V} {g : Int → Int → D} {c : Int → Int → Bool} (hc : ∀ i j, c i j = true → C i j) (hf : ∀ i j, flat (g i j) = true) (hr : ∀ H i j, RA K ok0 false H (h i j) (g i j)) :
    BrO K (rI C h) (gI fun i j => if c i j = true then some (g i j) else none) := by
  intro H x y dx dy d Q rx ry e q
  unfold gI at e
  split at e
  · next i j =>
    dsimp only at e
    by_cases z : c i j = true
    · rw [if_pos z] at e
      cases e
      exact ⟨i, j, rx.intE, ry.intE, hc i j z, q _ (hf i j) (hr H i j)⟩
    · rw [if_neg z] at e
      cases e
  · cases e
end
section
variable {X : Cx} {K : PySem.W.Frag}
theorem mulG_ok {i j : Int} (h : mulG i j = true) : IntMulOk i j := by
  unfold mulG at h
  rw [Bool.or_eq_true, Bool.or_eq_true, Bool.and_eq_true] at h
  rcases h with (h | h) | ⟨h1, h2⟩
  · exact IntMulOk.of_left (PySem.intBits_le_iff.mpr (of_decide_eq_true h))
  · exact IntMulOk.of_right (PySem.intBits_le_iff.mpr (of_decide_eq_true h))
  · exact PySem.IntMulOk.of_le (PySem.intBits_le_iff.mpr (of_decide_eq_true h1)) (PySem.intBits_le_iff.mpr (of_decide_eq_true h2)) (by decide)
theorem op_mulG : OpR X (binaryOp .Mult) (rI (fun i j => mulG i j = true) fun i j => .int (i * j)) := opI fun _ _ _ _ _ _ _ hc q => mul_int q (mulG_ok hc)
theorem op_divG : OpR X (binaryOp .FloorDiv) (rI (fun i j => divG i j = true) fun i j => .int (i.fdiv j)) := opI fun i j _ _ _ _ _ hc q => by
  unfold divG at hc
  rw [Bool.and_eq_true] at hc
  have h1 := of_decide_eq_true hc.1
  have h2 := of_decide_eq_true hc.2
  refine floordiv_int h1 q (.inl (PyProof.noPylong_of_log2 ?_))
  exact (Nat.log2_lt (by omega)).mpr h2
theorem powG_ok {i j : Int} (h : powG i j = true) : CPow i j := by
  unfold powG at h
  rw [Bool.and_eq_true, Bool.and_eq_true] at h
  have h1 := of_decide_eq_true h.1.1
  have h2 := of_decide_eq_true h.1.2
  exact ⟨h1, by omega, of_decide_eq_true h.2⟩
theorem b_add : BrO K (rI0 fun i j => .int (i + j)) gAdd := br_I0 (fun _ _ => rfl) fun _ _ _ => .int _
theorem b_sub : BrO K (rI0 fun i j => .int (i - j)) gSub := br_I0 (fun _ _ => rfl) fun _ _ _ => .int _
theorem b_mul : BrO K (rI (fun i j => mulG i j = true) fun i j => .int (i * j)) gMul := br_I (fun _ _ h => h) (fun _ _ => rfl) fun _ _ _ => .int _
theorem b_div : BrO K (rI (fun i j => divG i j = true) fun i j => .int (i.fdiv j)) gDiv := br_I (fun _ _ h => h) (fun _ _ => rfl) fun _ _ _ => .int _
theorem b_mod : BrO K (rI (fun _ j => j ≠ 0) fun i j => .int (i.fmod j)) gMod := br_I (fun _ _ h => of_decide_eq_true h) (fun _ _ => rfl) fun _ _ _ => .int _
theorem b_pow : BrO K (rI CPow fun i j => .int (i ^ j.toNat)) gPow := br_I (fun _ _ h => powG_ok h) (fun _ _ => rfl) fun _ _ _ => .int _
theorem b_lt : BrO K (rI0 fun i j => .bl (decide (i < j))) gLt := br_I0 (fun _ _ => rfl) fun _ _ _ => .bl _
theorem b_le : BrO K (rI0 fun i j => .bl (decide (i ≤ j))) gLe := br_I0 (fun _ _ => rfl) fun _ _ _ => .bl _
theorem b_gt : BrO K (rI0 fun i j => .bl (decide (j < i))) gGt := br_I0 (fun _ _ => rfl) fun _ _ _ => .bl _
theorem b_ge : BrO K (rI0 fun i j => .bl (decide (j ≤ i))) gGe := br_I0 (fun _ _ => rfl) fun _ _ _ => .bl _
theorem b_eq : BrO K (rEqD K) gEq := by
  intro H x y dx dy d Q rx ry e q
  unfold gEq at e
  by_cases z : (SeqAt.shaped dx && SeqAt.shaped dy) = true
  · rw [if_pos z] at e
    cases e
    rw [Bool.and_eq_true] at z
    exact ⟨dx, dy, rx.rd (SeqAt.canLay_of_shaped z.1), ry.rd (SeqAt.canLay_of_shaped z.2), z.1, z.2, q _ rfl (.bl _)⟩
  · rw [if_neg z] at e
    cases e
theorem b_ne : BrO K (rNeD K) gNe := by
  intro H x y dx dy d Q rx ry e q
  unfold gNe at e
  by_cases z : (SeqAt.shaped dx && SeqAt.shaped dy) = true
  · rw [if_pos z] at e
    cases e
    rw [Bool.and_eq_true] at z
    exact ⟨dx, dy, rx.rd (SeqAt.canLay_of_shaped z.1), ry.rd (SeqAt.canLay_of_shaped z.2), z.1, z.2, q _ rfl (.bl _)⟩
  · rw [if_neg z] at e
    cases e
end
end D3
namespace D3
open PySem PySem.Spec PyProof.Rows L2 My
section
variable {X : Cx} {fl : List Fl} {e a b c : Expr} {es : List Expr} {st : Stmt} {sts body orelse : List Stmt} {k : Kd} {f fa fb fc : FE} {fs gs : FS} {ft gt : FT} {pos : Pos}
theorem EndD.nx_imp {K : PySem.W.Frag} {G : Gh} {Dn : Ends} {N : St → Hp → Prop} {o : Oc} (h : EndD K fl G Dn o) (hn : ∀ δ', o ≠ .nx δ') : EndD K fl G { Dn with nx := N } o := by
  cases o with
  | nx δ' => exact absurd rfl (hn δ')
  | rt d => exact h
  | bk δ' => exact h
  | ct δ' => exact h
  | ex c f v => exact h
theorem dss_nil : DSs X fl [] sNil := PSs.imp pss_nil fun Dn σ H h => by
  obtain ⟨G, ow, δ, o, R, hf, q⟩ := h
  cases hf
  exact q ow σ H R
theorem dss_cons (h1 : DS1 X fl st fs) (h2 : DSs X fl sts gs) : DSs X fl (st :: sts) (sSeq fs gs) := PSs.imp (pss_cons h1 h2) fun Dn σ H h => by
  obtain ⟨G, ow, δ, o, R, hf, q⟩ := h
  obtain ⟨o1, e1, e2⟩ := bind1 hf
  refine ⟨G, ow, δ, o1, R, e1, ?_⟩
  cases o1 with
  | nx δ' => exact fun ow' σ' H' R' => ⟨G, ow', δ', o, R', e2, q⟩
  | rt d => cases e2; exact EndD.nx_imp q (fun _ z => by cases z)
  | bk d => cases e2; exact EndD.nx_imp q (fun _ z => by cases z)
  | ct d => cases e2; exact EndD.nx_imp q (fun _ z => by cases z)
  | ex c f v => cases e2; exact q
theorem dss_one (h1 : DS1 X fl st fs) : DSs X fl [st] fs := PSs.imp (pss_one h1) fun _ _ _ h => h
theorem ds_ret (h : DE X fl .R e f) : DS1 X fl (.Return (some e) pos) (sRet f) := PS.imp (ps_ret h) fun Dn σ H h => by
  obtain ⟨G, ow, δ, o, R, hf, q⟩ := h
  obtain ⟨d, e1, e2⟩ := bind1 hf
  cases e2
  exact ⟨G, ow, δ, d, R, e1, fun v H' s r => q v H' (R.same0.trans s) r⟩
theorem ds_if (hc : DT X fl c ft) (h1 : DSs X fl body fs) (h2 : DSs X fl orelse gs) : DS1 X fl (.If c body orelse pos) (sIf ft fs gs) := PS.imp (ps_if hc h1 h2) fun Dn σ H h => by
  obtain ⟨G, ow, δ, o, R, hf, q⟩ := h
  obtain ⟨t, e1, e2⟩ := bind1 hf
  refine ⟨G, ow, δ, t, R, e1, fun H' s => ?_⟩
  cases t with
  | true => exact iteT ⟨G, ow, δ, o, R.grow s, e2, q⟩
  | false => exact iteF ⟨G, ow, δ, o, R.grow s, e2, q⟩
theorem set_get {α : Type} {l : List (Option α)} {i j : Nat} {x y : α} (h : (l.set i (some x))[j]? = some (some y)) : (j = i ∧ x = y) ∨ (j ≠ i ∧ l[j]? = some (some y)) := by
  rw [List.getElem?_set] at h
  by_cases e : i = j
  · subst e
    rw [if_pos rfl] at h
    by_cases z : i < l.length
    · rw [if_pos z] at h
      cases h
      exact .inl ⟨rfl, rfl⟩
    · rw [if_neg z] at h
      cases h
  · rw [if_neg e] at h
    exact .inr ⟨fun z => e z.symm, h⟩
theorem Rel.setA {K : PySem.W.Frag} {G : Gh} {ow : Ow} {σ : St} {H : Hp} {δ : DS} {i : Nat} {v : V} {d : D} (R : Rel K fl G ow σ H δ) (hfl : fl[i]? = some .A) (hi : i < σ.length) (r : RA K (okA ow) true H v d) :
    Rel K fl G ow (σ.set i (some v)) H (δ.set i (some (.d d))) := by
  have no : ∀ a, ow i ≠ some a := fun a z => by
    obtain ⟨_, hz, _⟩ := R.own i a z
    rw [hfl] at hz
    rcases hz with ⟨z, _⟩ | ⟨z, _⟩ <;> cases z
  refine ⟨R.s0, R.s1, by rw [List.length_set, List.length_set]; exact R.len, fun j a h => ?_, R.inj, R.pin, fun j d' h1 hn h2 => ?_, fun j d' h1 hn h2 h3 => ?_, R.nt, R.nd, R.ns, R.np, fun j d' hn h1 => ?_⟩
  · have hj : j ≠ i := fun z => no a (z ▸ h)
    obtain ⟨h0, hf, xs, ds, h1, h2, h3, h4⟩ := R.own j a h
    exact ⟨h0, hf, xs, ds, by rw [List.getElem?_set_ne (Ne.symm hj)]; exact h1, h2, h3, by rw [List.getElem?_set_ne (Ne.symm hj)]; exact h4⟩
  · rcases set_get h1 with ⟨rfl, e⟩ | ⟨hj, e⟩
    · cases e
      exact ⟨v, by rw [List.getElem?_set_self hi], r⟩
    · obtain ⟨v', h3, h4⟩ := R.dat j d' e hn h2
      exact ⟨v', by rw [List.getElem?_set_ne (Ne.symm hj)]; exact h3, h4⟩
  · rcases set_get h1 with ⟨rfl, e⟩ | ⟨hj, e⟩
    · exact absurd hfl h2
    · exact R.oo j d' e hn h2 h3
  · rcases set_get h1 with ⟨rfl, e⟩ | ⟨hj, e⟩
    · rw [hfl] at hn; cases hn
    · obtain ⟨v', h3, h4⟩ := R.nr j d' hn e
      exact ⟨v', by rw [List.getElem?_set_ne (Ne.symm hj)]; exact h3, h4⟩
def owSet (ow : Ow) (i : Nat) (a : Option Addr) : Ow := ⟨fun j => if j = i then a else ow j, ow.n⟩
theorem owSet_eq {ow : Ow} {i : Nat} {a : Option Addr} : owSet ow i a i = a := if_pos rfl
theorem owSet_ne {ow : Ow} {i j : Nat} {a : Option Addr} (h : j ≠ i) : owSet ow i a j = ow j := if_neg h
theorem Rel.setO {K : PySem.W.Frag} {G : Gh} {ow : Ow} {σ : St} {H H' : Hp} {δ : DS} {i : Nat} {v : V} {d : D} (R : Rel K fl G ow σ H δ) (s : Same H H') (hfl : fl[i]? = some .O) (hi : i < σ.length) (r : Rs K G.H0 ow H H' .F v d) :
    ∃ ow', Rel K fl G ow' (σ.set i (some v)) H' (δ.set i (some (.d d))) := by
  have R' := R.grow s
  have sub0 : ∀ b, okA ow b → okA (owSet ow i none) b := fun b z => ⟨fun j e => by
    by_cases hj : j = i
    · subst hj; rw [owSet_eq] at e; cases e
    · rw [owSet_ne hj] at e; exact z.1 j e, z.2⟩
  have nrs : ∀ j d', isN fl[j]? = true → (δ.set i (some (.d d)))[j]? = some (some (.d d')) → ∃ v', (σ.set i (some v))[j]? = some (some v') ∧ RT K H' v' d' (ow.n j) ∧ (ow.n j).Nodup := fun j d' hn h1 => by
    rcases set_get h1 with ⟨rfl, e⟩ | ⟨hj, e⟩
    · rw [hfl] at hn; cases hn
    · obtain ⟨v', h3, h4⟩ := R'.nr j d' hn e
      exact ⟨v', by rw [List.getElem?_set_ne (Ne.symm hj)]; exact h3, h4⟩
  rcases r with ⟨hfd, r⟩ | ⟨a, xs, ds, rfl, rfl, ha, hx, hr⟩
  · refine ⟨owSet ow i none, R'.s0, R'.s1, by rw [List.length_set, List.length_set]; exact R.len, fun j a h => ?_, fun j j' a h h' => ?_, fun j h => ?_, fun j d' h1 hn h2 => ?_, fun j d' h1 hn h2 h3 => ?_, R'.nt, R'.nd, fun j j' a h h' => ?_, R'.np, nrs⟩
    · have hj : j ≠ i := fun z => by subst z; rw [owSet_eq] at h; cases h
      rw [owSet_ne hj] at h
      obtain ⟨h0, hf, xs, ds, h1, h2, h3, h4⟩ := R'.own j a h
      exact ⟨h0, hf, xs, ds, by rw [List.getElem?_set_ne (Ne.symm hj)]; exact h1, h2, h3.imp sub0 (fun z => z), by rw [List.getElem?_set_ne (Ne.symm hj)]; exact h4⟩
    · have hj : j ≠ i := fun z => by subst z; rw [owSet_eq] at h; cases h
      have hj' : j' ≠ i := fun z => by subst z; rw [owSet_eq] at h'; cases h'
      rw [owSet_ne hj] at h
      rw [owSet_ne hj'] at h'
      exact R.inj j j' a h h'
    · have hj : j ≠ i := fun z => by subst z; rw [hfl] at h; cases h
      rw [owSet_ne hj]
      exact R.pin j h
    · rcases set_get h1 with ⟨rfl, e⟩ | ⟨hj, e⟩
      · cases e
        exact ⟨v, by rw [List.getElem?_set_self hi], RA.flat hfd r⟩
      · rw [owSet_ne hj] at h2
        obtain ⟨v', h3, h4⟩ := R'.dat j d' e hn h2
        exact ⟨v', by rw [List.getElem?_set_ne (Ne.symm hj)]; exact h3, h4.imp sub0 (fun z => z)⟩
    · rcases set_get h1 with ⟨rfl, e⟩ | ⟨hj, e⟩
      · cases e
        exact hfd
      · rw [owSet_ne hj] at h3
        exact R.oo j d' e hn h2 h3
    · by_cases hj : j' = i
      · subst hj; rw [owSet_eq] at h'; cases h'
      · rw [owSet_ne hj] at h'; exact R.ns j j' a h h'
  · have sub : ∀ b, okA ow b ∧ b ≠ a → okA (owSet ow i (some a)) b := fun b z => ⟨fun j e => by
      by_cases hj : j = i
      · subst hj; rw [owSet_eq] at e; exact z.2 (Option.some.inj e).symm
      · rw [owSet_ne hj] at e; exact z.1.1 j e, z.1.2⟩
    have old : ∀ {v : V} {d : D}, RA K (okA ow) true H v d → RA K (okA (owSet ow i (some a))) true H' v d := fun r => (r.track.imp (fun b z => sub b ⟨z.1, fun e => z.2 (e ▸ ha)⟩) (fun z => z)).same s
    have olds : ∀ {v : List V} {d : List D}, RAs K (okA ow) true H v d → RAs K (okA (owSet ow i (some a))) true H' v d := fun r => (r.track.imp (fun b z => sub b ⟨z.1, fun e => z.2 (e ▸ ha)⟩) (fun z => z)).same s
    have nota : ∀ j, ow j ≠ some a := fun j z => by
      obtain ⟨_, _, _, _, _, h2, _⟩ := R.own j a z
      rw [ha] at h2
      cases h2
    have hF : G.HF a = none := R.s1.free ha
    refine ⟨owSet ow i (some a), R'.s0, R'.s1, by rw [List.length_set, List.length_set]; exact R.len, fun j b h => ?_, fun j j' b h h' => ?_, fun j h => ?_, fun j d' h1 hn h2 => ?_, fun j d' h1 hn h2 h3 => ?_, R'.nt, R'.nd, fun j j' b h h' => ?_, R'.np, nrs⟩
    · by_cases hj : j = i
      · subst hj
        rw [owSet_eq] at h
        cases h
        exact ⟨R.same0.free ha, .inl ⟨hfl, hF⟩, xs, ds, by rw [List.getElem?_set_self hi], hx, hr.imp sub (fun z => z), by rw [List.getElem?_set_self (by rw [← R.len]; exact hi)]⟩
      · rw [owSet_ne hj] at h
        obtain ⟨h0, hf, ys, ds', h1, h2, h3, h4⟩ := R.own j b h
        exact ⟨h0, hf, ys, ds', by rw [List.getElem?_set_ne (Ne.symm hj)]; exact h1, s _ _ h2, olds h3, by rw [List.getElem?_set_ne (Ne.symm hj)]; exact h4⟩
    · by_cases hj : j = i
      · by_cases hj' : j' = i
        · rw [hj, hj']
        · subst hj
          rw [owSet_eq] at h
          cases h
          rw [owSet_ne hj'] at h'
          exact absurd h' (nota j')
      · rw [owSet_ne hj] at h
        by_cases hj' : j' = i
        · subst hj'
          rw [owSet_eq] at h'
          cases h'
          exact absurd h (nota j)
        · rw [owSet_ne hj'] at h'
          exact R.inj j j' b h h'
    · have hj : j ≠ i := fun z => by subst z; rw [hfl] at h; cases h
      rw [owSet_ne hj]
      exact R.pin j h
    · rcases set_get h1 with ⟨rfl, e⟩ | ⟨hj, e⟩
      · rw [owSet_eq] at h2; cases h2
      · rw [owSet_ne hj] at h2
        obtain ⟨v', h3, h4⟩ := R.dat j d' e hn h2
        exact ⟨v', by rw [List.getElem?_set_ne (Ne.symm hj)]; exact h3, old h4⟩
    · rcases set_get h1 with ⟨rfl, e⟩ | ⟨hj, e⟩
      · rw [owSet_eq] at h3; cases h3
      · rw [owSet_ne hj] at h3
        exact R.oo j d' e hn h2 h3
    · by_cases hj : j' = i
      · subst hj
        rw [owSet_eq] at h'
        cases h'
        exact (R.nt j a h).2.1 ha
      · rw [owSet_ne hj] at h'; exact R.ns j j' b h h'
theorem Rel.mut {K : PySem.W.Frag} {G : Gh} {ow : Ow} {σ : St} {H : Hp} {δ : DS} {i : Nat} {a : Addr} {ys : List V} {ds : List D} (R : Rel K fl G ow σ H δ) (hfl : fl[i]? = some .O) (ho : ow i = some a) (r : RAs K (okA ow) true H ys ds) :
    Rel K fl G ow σ (upd H a (.lst ys)) (δ.set i (some (.d (.list ds)))) := by
  obtain ⟨h0, hz, xs, ds0, e1, e2, e3, e4⟩ := R.own i a ho
  have na : ¬ okA ow a := fun z => z.1 i ho
  have hF : G.HF a = none := by
    rcases hz with ⟨_, z⟩ | ⟨z, _⟩
    · exact z
    · rw [hfl] at z; cases z
  have hi : i < δ.length := by
    rcases Nat.lt_or_ge i δ.length with z | z
    · exact z
    · rw [List.getElem?_eq_none z] at e4; cases e4
  refine ⟨R.s0, fun b o hb => ?_, by rw [List.length_set]; exact R.len, fun j b h => ?_, R.inj, R.pin, fun j d' h1 hn h2 => ?_, fun j d' h1 hn h2 h3 => ?_, fun j b h => ?_, R.nd, R.ns, R.np, fun j d' hn h1 => ?_⟩
  · rw [upd_ne (fun z => by subst z; rw [hF] at hb; cases hb)]
    exact R.s1 b o hb
  · by_cases hj : j = i
    · subst hj
      rw [ho] at h
      cases h
      exact ⟨h0, hz, ys, ds, e1, upd_same, r.upd e2 na, by rw [List.getElem?_set_self hi]⟩
    · obtain ⟨h0', hf', zs, ds', h1, h2, h3, h4⟩ := R.own j b h
      have hb : b ≠ a := fun z => hj (R.inj j i a (z ▸ h) ho)
      exact ⟨h0', hf', zs, ds', h1, by rw [upd_ne hb]; exact h2, h3.upd e2 na, by rw [List.getElem?_set_ne (Ne.symm hj)]; exact h4⟩
  · rcases set_get h1 with ⟨rfl, e⟩ | ⟨hj, e⟩
    · rw [ho] at h2; cases h2
    · obtain ⟨v', h3, h4⟩ := R.dat j d' e hn h2
      exact ⟨v', h3, h4.upd e2 na⟩
  · rcases set_get h1 with ⟨rfl, e⟩ | ⟨hj, e⟩
    · rw [ho] at h3; cases h3
    · exact R.oo j d' e hn h2 h3
  · obtain ⟨g1, g2, g3⟩ := R.nt j b h
    refine ⟨g1, ?_, g3⟩
    by_cases hb : b = a
    · rw [hb, upd_same]; simp
    · rw [upd_ne hb]; exact g2
  · rcases set_get h1 with ⟨rfl, e⟩ | ⟨hj, e⟩
    · rw [hfl] at hn; cases hn
    · obtain ⟨v', h3, h4, h5⟩ := R.nr j d' hn e
      exact ⟨v', h3, h4.upd e2 (fun z => R.ns j i a z ho), h5⟩
theorem slot_lt {K : PySem.W.Frag} {G : Gh} {ow : Ow} {σ : St} {H : Hp} {δ : DS} {i : Nat} (R : Rel K fl G ow σ H δ) (h : i < δ.length) : i < σ.length := by rw [R.len]; exact h
theorem ds_setA {i : Nat} {x : Str} {pos' : Pos} (hfl : fl[i]? = some .A) (hN : X.N.Nodup) (hi : X.N[i]? = some x) (hv : X.env.scope.names.lookup x = some .local ∨ X.env.scope.names.lookup x = some .cell) (h : DE X fl .A e f)
    (hs : swapsWith e (some (.Name x pos')) pos.line X.env = pure false := by rfl) (hfn : X.fn x = true ∨ X.env.scope.names.lookup x = some .local := by first | exact .inl rfl | exact .inr rfl) :
    DS1 X fl (.Assign [.Name x pos'] e pos) (sSetl i f) := PS.imp (ps_set (i := i) hN hi hv h hs hfn) fun Dn σ H h => by
  obtain ⟨G, ow, δ, o, R, hf, q⟩ := h
  unfold sSetl at hf
  by_cases hl : i < δ.length
  · rw [if_pos hl] at hf
    obtain ⟨d, e1, e2⟩ := bind1 hf
    cases e2
    exact ⟨G, ow, δ, d, R, e1, fun v H' s r => q ow _ H' ((R.grow s).setA hfl (slot_lt R hl) r)⟩
  · rw [if_neg hl] at hf
    cases hf
theorem ds_setO {i : Nat} {x : Str} {pos' : Pos} (hfl : fl[i]? = some .O) (hN : X.N.Nodup) (hi : X.N[i]? = some x) (hv : X.env.scope.names.lookup x = some .local ∨ X.env.scope.names.lookup x = some .cell) (h : DE X fl .F e f)
    (hs : swapsWith e (some (.Name x pos')) pos.line X.env = pure false := by rfl) (hfn : X.fn x = true ∨ X.env.scope.names.lookup x = some .local := by first | exact .inl rfl | exact .inr rfl) :
    DS1 X fl (.Assign [.Name x pos'] e pos) (sSetl i f) := PS.imp (ps_set (i := i) hN hi hv h hs hfn) fun Dn σ H h => by
  obtain ⟨G, ow, δ, o, R, hf, q⟩ := h
  unfold sSetl at hf
  by_cases hl : i < δ.length
  · rw [if_pos hl] at hf
    obtain ⟨d, e1, e2⟩ := bind1 hf
    cases e2
    refine ⟨G, ow, δ, d, R, e1, fun v H' s r => ?_⟩
    obtain ⟨ow', R'⟩ := R.setO s hfl (slot_lt R hl) r
    exact q ow' _ H' R'
  · rw [if_neg hl] at hf
    cases hf
theorem dg_name {i : Nat} {x : Str} {pos : Pos} (hfl : fl[i]? = some .A) (hN : X.N.Nodup) (hi : X.N[i]? = some x) (hv : X.env.scope.names.lookup x = some .local ∨ X.env.scope.names.lookup x = some .cell)
    (hfn : X.fn x = true ∨ X.env.scope.names.lookup x = some .local := by first | exact .inl rfl | exact .inr rfl) : DG X fl [i] (.Name x pos) (gNl i) :=
  PG.imp (pg_name (i := i) hN hi hv hfn) fun v σ H Q h => by
  obtain ⟨G, ow, δ, d, δ', R, r, hf, q⟩ := h
  unfold gNl at hf
  by_cases hl : i < δ.length
  · rw [if_pos hl] at hf
    cases hf
    exact q _ (R.setA hfl (slot_lt R hl) r) fun j hj => List.getElem?_set_ne (fun z => hj (by rw [z]; exact List.mem_singleton.mpr rfl))
  · rw [if_neg hl] at hf
    cases hf
def tDGs (K : PySem.W.Frag) (fl : List Fl) (tg : List Nat) (g : List D → DS → Option DS) : TGs := fun vs σ H Q => ∃ G ow δ ds δ', Rel K fl G ow σ H δ ∧ RAs K (okA ow) true H vs ds ∧ g ds δ = some δ' ∧ ∀ σ', Rel K fl G ow σ' H δ' → (∀ j, j ∉ tg → σ'[j]? = σ[j]?) → Q σ' H
theorem PGs.imp {t t' : TGs} (h : PGs X es t) (i : ∀ v σ H Q, t' v σ H Q → t v σ H Q) : PGs X es t' := fun pins s σ H v u Q I r q => h pins s σ H v u Q I r (i v σ H Q q)
abbrev DGs (X : Cx) (fl : List Fl) (tg : List Nat) (es : List Expr) (g : List D → DS → Option DS) : Prop := PGs X es (tDGs X.K fl tg g)
theorem dgs_nil : DGs X fl [] [] gsNil := PGs.imp pgs_nil fun vs σ H Q h => by
  obtain ⟨G, ow, δ, ds, δ', R, r, hf, q⟩ := h
  cases r with
  | nil => cases hf; exact ⟨rfl, q σ R fun _ _ => rfl⟩
  | cons _ _ => cases hf
theorem dgs_cons {tg tg' : List Nat} {g : FG} {gs : List D → DS → Option DS} (h1 : DG X fl tg e g) (h2 : DGs X fl tg' es gs) (hs : (assignEach (e :: es) X.env).map (·.2) = assign e X.env :: (assignEach es X.env).map (·.2) := by rfl) :
    DGs X fl (tg ++ tg') (e :: es) (gsCons g gs) := PGs.imp (pgs_cons h1 h2 hs) fun vs σ H Q h => by
  obtain ⟨G, ow, δ, ds, δ', R, r, hf, q⟩ := h
  cases r with
  | nil => cases hf
  | cons r1 r2 =>
    obtain ⟨δ1, e1, e2⟩ := bind1 hf
    refine ⟨_, _, rfl, G, ow, δ, _, δ1, R, r1, e1, fun σ' R' k1 => ⟨G, ow, δ1, _, δ', R', r2, e2, fun σ'' R'' k2 => q σ'' R'' fun j hj => ?_⟩⟩
    rw [k2 j fun z => hj (List.mem_append_right _ z), k1 j fun z => hj (List.mem_append_left _ z)]
theorem dg_tup {tg : List Nat} {gs : List D → DS → Option DS} {k n : Nat} (hc : X.calm = true) (h : DGs X fl tg es gs) (hn : (assignEach es X.env).length = n := by rfl) (hst : (assignEach es X.env).findIdx? (·.1) = none := by rfl) :
    DG X fl tg (.Tuple es k pos) (gTn n gs) := PG.imp (pg_tup (n := n) hc h hn hst) fun v σ H Q h => by
  obtain ⟨G, ow, δ, d, δ', R, r, hf, q⟩ := h
  unfold gTn at hf
  split at hf
  · next l =>
    by_cases z : l.length = n
    · rw [if_pos z] at hf
      obtain ⟨a, xs, rfl, hx, hr⟩ := r.tupE
      exact ⟨a, xs, rfl, hx, by rw [hr.length]; exact z, G, ow, δ, l, δ', R, hr, hf, q⟩
    · rw [if_neg z] at hf
      cases hf
  · cases hf
end
end D3
namespace D3
open PySem PySem.Spec PyProof.Rows L2 My
section
variable {X : Cx} {fl : List Fl} {e a b c : Expr} {es : List Expr} {st : Stmt} {sts body orelse : List Stmt} {k : Kd} {f fa fb fc : FE} {fs gs : FS} {ft gt : FT} {pos : Pos}
theorem own_of {K : PySem.W.Frag} {G : Gh} {ow : Ow} {σ : St} {H : Hp} {δ : DS} {i : Nat} {l : List D} (R : Rel K fl G ow σ H δ) (hfl : fl[i]? = some .O) (h : dVar i δ = some (.list l)) :
    ∃ a xs, ow i = some a ∧ σ[i]? = some (some (.ref a)) ∧ H a = some (.lst xs) ∧ RAs K (okA ow) true H xs l := by
  have e := dVar_eq h
  cases ho : ow i with
  | none =>
    have z := R.oo i _ e (by rw [hfl]; rfl) (by rw [hfl]; simp) ho
    simp [flat] at z
  | some a =>
    obtain ⟨h0, _, xs, ds, h1, h2, h3, h4⟩ := R.own i a ho
    rw [e] at h4
    cases h4
    exact ⟨a, xs, rfl, h1, h2, h3⟩
theorem ds_append {i : Nat} {x : Str} {vpos apos cpos : Pos} (hfl : fl[i]? = some .O) (h : DE X fl .A e f) (hN : X.N[i]? = some x) (hv : Vis X.env.scope x := by first | exact Or.inl rfl | exact Or.inr (Or.inl rfl) | exact Or.inr (Or.inr rfl)) (hd : (x == ("__debug__" : Str)) = false := by decide)
    (hcd : (x == ("__classdict__" : Str)) = false := by decide)
    (hs : swapsWith (.Call (.Attribute (.Name x vpos) "append" apos) [e] [] cpos) none pos.line X.env = pure false := by rfl)
    (hbase : attributeBase (.Name x vpos) "append" X.env (eval (.Name x vpos) X.env) = eval (.Name x vpos) X.env := by rfl)
    (hfew : ((backTo cpos (starEach [e] X.env)).all (fun x => !x.1) && (backToKw cpos (keywordEach [] X.env)).all (fun x => x.1.isSome)
      && decide (([e] : List Expr).length + ([] : List Keyword).length + (if ([] : List Keyword).isEmpty then 0 else 1) < 30)) = true := by rfl)
    (hline : (apos.endLine == cpos.line) = true := by rfl) (hst : starEach [e] X.env = (false, eval e X.env) :: starEach [] X.env := by rfl) (hplain : (backTo cpos (starEach [] X.env)).any (·.1) = false := by rfl) :
    DS1 X fl (.Expr (.Call (.Attribute (.Name x vpos) "append" apos) [e] [] cpos) pos) (sApp i f) :=
  PS.imp (ps_expr (pe_bm PySem.F.plainAttrs_list PySem.F.slot_list_append PySem.F.type_list_append mt_append (pe_var hN hv hd hcd) (pa_cons h pa_nil hst) hbase hfew hline hst hplain) hs) fun Dn σ H h => by
  obtain ⟨G, ow, δ, o, R, hf, q⟩ := h
  obtain ⟨x, e1, hf1⟩ := bind1 hf
  obtain ⟨d, e2, hf2⟩ := bind1 hf1
  clear hf hf1
  have hf := hf2
  clear hf2
  split at hf
  case h_2 => cases hf
  next l =>
  by_cases hl : l.length < 1000000
  · rw [if_pos hl] at hf
    cases hf
    obtain ⟨a, xs, ho, h1, h2, h3⟩ := own_of R hfl e1
    refine ⟨_, h1, .inl ⟨rfl, _, SqL.of h2⟩, G, ow, δ, d, R, e2, fun v H' s r => ?_⟩
    have R' := R.grow s
    refine ⟨a, xs, v, rfl, rfl, s _ _ h2, by rw [h3.length]; exact Nat.lt_trans hl (by decide), ?_⟩
    exact q ow σ _ (R'.mut hfl ho ((h3.same s).append (.cons r .nil)))
  · rw [if_neg hl] at hf
    cases hf
theorem ds_put {i : Nat} {x : Str} {vpos spos : Pos} {ke : Expr} {fk : FE} (hfl : fl[i]? = some .O) (h : DE X fl .A e f) (hk : DE X fl .P ke fk) (hN : X.N[i]? = some x) (hv : Vis X.env.scope x := by first | exact Or.inl rfl | exact Or.inr (Or.inl rfl) | exact Or.inr (Or.inr rfl)) (hd : (x == ("__debug__" : Str)) = false := by decide)
    (hcd : (x == ("__classdict__" : Str)) = false := by decide) (ha : ∀ v, assign (.Subscript (.Name x vpos) ke spos) X.env v = (do
      let ov ← holding [v] (eval (.Name x vpos) X.env)
      let iv ← holding [v, ov] (eval ke X.env)
      standAt spos
      holding [v, ov, iv] (setItem ov iv v)
      release [v, ov, iv] []) := by intro _; rfl)
    (hs : swapsWithSole [.Subscript (.Name x vpos) ke spos] e pos.line X.env = pure false := by rfl) (hw : swappedStores [.Subscript (.Name x vpos) ke spos] e X.env = pure none := by rfl)
    (h1 : (assignEach [.Subscript (.Name x vpos) ke spos] X.env).map (·.2) = [assign (.Subscript (.Name x vpos) ke spos) X.env] := by rfl) :
    DS1 X fl (.Assign [.Subscript (.Name x vpos) ke spos] e pos) (sPut i fk f) :=
  PS.imp (ps_asg h (pg_sub (pe_var hN hv hd hcd) hk set_list ha) hs hw h1) fun Dn σ H h => by
  obtain ⟨G, ow, δ, o, R, hf, q⟩ := h
  obtain ⟨d, e2, hf1⟩ := bind1 hf
  obtain ⟨x, e1, hf2⟩ := bind1 hf1
  obtain ⟨k, e3, hf3⟩ := bind1 hf2
  clear hf hf1 hf2
  have hf := hf3
  clear hf3
  split at hf
  case h_2 => cases hf
  next l j =>
  obtain ⟨n, e4, e5⟩ := bind1 hf
  cases e5
  obtain ⟨a, xs, ho, h1, h2, h3⟩ := own_of R hfl e1
  refine ⟨G, ow, δ, d, R, e2, fun v H' s r => ⟨_, h1, G, ow, δ, _, R.grow s, e3, fun u H2 s2 r2 => ?_⟩⟩
  obtain rfl := RA.intE r2
  have R2 := R.grow (s.trans s2)
  refine ⟨a, xs, j, n, rfl, rfl, (s.trans s2) _ _ h2, by rw [h3.length]; exact e4, ?_⟩
  exact q ow σ _ (R2.mut hfl ho (RAs.set (RA.same s2 r) n (h3.same (s.trans s2))))
def WalkD (K : PySem.W.Frag) (ow : Ow) (L : List Nat) (H1 : Hp) (J : It) (l : List D) : Prop := ∀ H2 : Hp, (∀ b o, H1 b = some o → (∀ i, ow i = some b → i ∈ L) → H2 b = some o) → ∀ i : Nat,
  (∀ d, l[i]? = some d → J.go i H2 ∧ ∀ x H3, J.yld i H2 x H3 → Same H2 H3 ∧ RA K (fun b => okA ow b ∧ H1 b ≠ none) true H3 x d) ∧ (l.length ≤ i → J.stop i H2)
def tDI (K : PySem.W.Frag) (fl : List Fl) (L : List Nat) (fi : FA) : TI := fun σ H R' => ∃ G ow δ l, Rel K fl G ow σ H δ ∧ fi δ = some l ∧ ∀ J H1, Same H H1 → WalkD K ow L H1 J l → R' J H1
abbrev DI (X : Cx) (fl : List Fl) (L : List Nat) (tg iter : Expr) (fi : FA) : Prop := PI X tg iter (tDI X.K fl L fi)
theorem PI.imp {tg iter : Expr} {t t' : TI} (h : PI X tg iter t) (i : ∀ σ H R', t' σ H R' → t σ H R') : PI X tg iter t' := fun pins s σ H R' I q => h pins s σ H R' I (i σ H R' q)
section
variable {K : PySem.W.Frag} {ok : Ok} {pl : Bool} {H1 H2 : Hp} {ow : Ow} {L : List Nat}
theorem nm {b : Addr} {o : HO} (hl : ∀ i b, ow i = some b → ∃ xs, H1 b = some (.lst xs)) (h : H1 b = some o) (hn : ∀ xs, o ≠ .lst xs) : ∀ i, ow i = some b → i ∈ L := fun i e => by
  obtain ⟨xs, z⟩ := hl i b e
  rw [h] at z
  exact absurd (Option.some.inj z) (hn xs)
mutual
theorem RA.keep (hk : ∀ b o, H1 b = some o → (∀ i, ow i = some b → i ∈ L) → H2 b = some o) (hl : ∀ i b, ow i = some b → ∃ xs, H1 b = some (.lst xs)) (ho : ∀ b, ok b → okA ow b) : ∀ {v : V} {d : D}, RA K ok pl H1 v d → RA K ok pl H2 v d
  | _, _, .non => .non
  | _, _, .bl b => .bl b
  | _, _, .int i => .int i
  | _, _, .str x => .str x
  | _, _, .lst e k q => .lst (hk _ _ e fun i z => absurd z ((ho _ k).1 i)) k (RAs.keep hk hl ho q)
  | _, _, .lsk e k q => .lsk (by
      rcases e with ⟨o, e⟩ | e
      · exact .inl ⟨o, hk _ _ e (nm hl e (by intro xs z; cases z))⟩
      · exact .inr e) k (RAs.keep hk hl ho q)
  | _, _, .tup e q => .tup (by
      rcases e with (e | ⟨o, e⟩) | e
      · exact .inl (.inl (hk _ _ e (nm hl e (by intro xs z; cases z))))
      · exact .inl (.inr ⟨o, hk _ _ e (nm hl e (by intro xs z; cases z))⟩)
      · exact .inr e) (RAs.keep hk hl ho q)
  | _, _, .dic e k => .dic (hk _ _ e (nm hl e (by intro xs z; cases z))) k
theorem RAs.keep (hk : ∀ b o, H1 b = some o → (∀ i, ow i = some b → i ∈ L) → H2 b = some o) (hl : ∀ i b, ow i = some b → ∃ xs, H1 b = some (.lst xs)) (ho : ∀ b, ok b → okA ow b) : ∀ {v : List V} {d : List D}, RAs K ok pl H1 v d → RAs K ok pl H2 v d
  | _, _, .nil => .nil
  | _, _, .cons e q => .cons (RA.keep hk hl ho e) (RAs.keep hk hl ho q)
end
end
theorem Rel.ownL {K : PySem.W.Frag} {G : Gh} {ow : Ow} {σ : St} {H : Hp} {δ : DS} (R : Rel K fl G ow σ H δ) : ∀ i b, ow i = some b → ∃ xs, H b = some (.lst xs) := fun i b e => by
  obtain ⟨_, _, xs, _, _, h2, _⟩ := R.own i b e
  exact ⟨xs, h2⟩
theorem walk_B {K : PySem.W.Frag} {G : Gh} {ow : Ow} {σ : St} {H Hb : Hp} {δ : DS} {L : List Nat} {v : V} {l : List D} (R : Rel K fl G ow σ H δ) (r : Rs K G.H0 ow Hb H (.B L) v (.list l)) : ∃ a xs, v = .ref a ∧ SqL K H a xs ∧
    ∀ H2 : Hp, (∀ b o, H b = some o → (∀ i, ow i = some b → i ∈ L) → H2 b = some o) → SqL K H2 a xs ∧ RAs K (fun b => okA ow b ∧ H b ≠ none) true H2 xs l := by
  rcases r with r | ⟨i, hi, a, xs, ds, ho, rfl, e, hx, hr⟩
  · cases r with
    | lst e k q => exact ⟨_, _, rfl, SqL.of e, fun H2 hk => ⟨SqL.of (hk _ _ e fun i z => absurd z (k.1 i)), RAs.keep hk R.ownL (fun b z => z.1) q.track⟩⟩
    | lsk e k q => exact ⟨_, _, rfl, e.sq, fun H2 hk => ⟨SqK.sq (by
        rcases e with ⟨o, e⟩ | e
        · exact .inl ⟨o, hk _ _ e (nm R.ownL e (by intro xs z; cases z))⟩
        · exact .inr e), RAs.keep hk R.ownL (fun b z => z.1) q.track⟩⟩
  · cases e
    exact ⟨a, xs, rfl, SqL.of hx, fun H2 hk => ⟨SqL.of (hk _ _ hx fun j z => by rw [R.inj j i a z ho]; exact hi), RAs.keep hk R.ownL (fun b z => z.1) hr.track⟩⟩
theorem di_list {tg : Expr} {L : List Nat} (h : DE X fl (.B L) e f) : DI X fl L tg e (fLst f) := PI.imp (pi_list h) fun σ H R' h => by
  obtain ⟨G, ow, δ, l, R, hf, q⟩ := h
  obtain ⟨d, e1, e2⟩ := bind1 hf
  cases d <;> first | (cases e2; done) | skip
  cases e2
  refine ⟨G, ow, δ, _, R, e1, fun v H1 s r => ?_⟩
  obtain ⟨a, xs, rfl, hx, keep⟩ := walk_B (R.grow s) r
  refine ⟨a, rfl, ⟨xs, hx⟩, q _ _ s fun H2 k2 i => ?_⟩
  obtain ⟨k3, k4⟩ := keep H2 k2
  refine ⟨fun d hd => ?_, fun hl => ⟨xs, k3, by rw [k4.length]; exact hl⟩⟩
  obtain ⟨y, hy, ry⟩ := k4.get hd
  refine ⟨⟨xs, y, k3, hy⟩, fun x H3 hyl => ?_⟩
  obtain ⟨e, hz⟩ := hyl
  subst e
  have : some y = some x := hy.symm.trans (hz xs k3)
  cases this
  exact ⟨Same.refl _, ry⟩
theorem rngD_len (lo hi : Int) : (rngD lo hi).length = (hi - lo).toNat := by simp [rngD]
theorem walk_rng {K : PySem.W.Frag} {ow : Ow} {L : List Nat} {H1 : Hp} (lo hi : Int) : WalkD K ow L H1 (Itr lo (hi - lo).toNat) (rngD lo hi) := by
  intro H2 _ i
  refine ⟨fun d hd => ?_, fun hl => by rw [rngD_len] at hl; exact hl⟩
  unfold rngD at hd
  rw [List.getElem?_map] at hd
  by_cases hi' : i < (hi - lo).toNat
  · rw [List.getElem?_range hi'] at hd
    cases hd
    refine ⟨hi', fun x H3 hy => ?_⟩
    obtain ⟨e, e2⟩ := hy
    subst e e2
    exact ⟨Same.refl _, .int _⟩
  · rw [List.getElem?_eq_none (by simpa using hi')] at hd
    cases hd
theorem rngG_ok {i : Int} (h : rngG i = true) : -(2 ^ 62) ≤ i ∧ i < 2 ^ 62 := by
  unfold rngG at h
  rw [Bool.and_eq_true] at h
  exact ⟨of_decide_eq_true h.1, of_decide_eq_true h.2⟩
theorem di_range1 {tg : Expr} {L : List Nat} {p : Pos} {fa : FA} (hg : Gl X "range") (hm : X.mg "range" = none) (h : DA X fl [a] fa) (hs : starEach [a] X.env = [(false, eval a X.env)] := by rfl) : DI X fl L tg (.Call (.Name "range" p) [a] [] pos) (fRng1 fa) :=
  PI.imp (pi_range1 hg hm h hs) fun σ H R' h => by
  obtain ⟨G, ow, δ, l, R, hf, q⟩ := h
  obtain ⟨ds, e1, e2⟩ := bind1 hf
  split at e2
  · next j =>
    by_cases z : rngG j = true
    · rw [if_pos z] at e2
      cases e2
      refine ⟨G, ow, δ, _, R, e1, fun vs H1 s r => ?_⟩
      cases r with
      | cons r1 r2 =>
        cases r2
        obtain rfl := r1.intE
        refine ⟨j, rfl, (rngG_ok z).1, (rngG_ok z).2, ?_⟩
        have w := walk_rng (K := X.K) (ow := ow) (L := L) (H1 := H1) 0 j
        rw [Int.sub_zero] at w
        exact q _ _ s w
    · rw [if_neg z] at e2
      cases e2
  · cases e2
theorem di_range2 {tg : Expr} {L : List Nat} {p : Pos} {fa : FA} (hg : Gl X "range") (hm : X.mg "range" = none) (h : DA X fl [a, b] fa) (hs : starEach [a, b] X.env = [(false, eval a X.env), (false, eval b X.env)] := by rfl) (hs2 : starEach [b] X.env = [(false, eval b X.env)] := by rfl) :
    DI X fl L tg (.Call (.Name "range" p) [a, b] [] pos) (fRng2 fa) := PI.imp (pi_range2 hg hm h hs hs2) fun σ H R' h => by
  obtain ⟨G, ow, δ, l, R, hf, q⟩ := h
  obtain ⟨ds, e1, e2⟩ := bind1 hf
  split at e2
  · next i j =>
    by_cases z : (rngG i && rngG j) = true
    · rw [if_pos z] at e2
      cases e2
      rw [Bool.and_eq_true] at z
      refine ⟨G, ow, δ, _, R, e1, fun vs H1 s r => ?_⟩
      cases r with
      | cons r1 r2 =>
        cases r2 with
        | cons r2 r3 =>
          cases r3
          obtain rfl := r1.intE
          obtain rfl := r2.intE
          exact ⟨i, j, rfl, ⟨(rngG_ok z.1).1, (rngG_ok z.1).2, (rngG_ok z.2).1, (rngG_ok z.2).2⟩, q _ _ s (walk_rng i j)⟩
    · rw [if_neg z] at e2
      cases e2
  · cases e2
def lock (L : List Nat) (fl : List Fl) : List Fl := fl.mapIdx fun i x => if x = .O ∧ i ∈ L then .L else if x = .N then .M else x
theorem lock_get {L : List Nat} {i : Nat} : (lock L fl)[i]? = (fl[i]?).map fun x => if x = .O ∧ i ∈ L then .L else if x = .N then .M else x := by
  unfold lock
  rw [List.getElem?_mapIdx]
theorem lock_A {L : List Nat} {i : Nat} : (lock L fl)[i]? = some .A ↔ fl[i]? = some .A := by
  rw [lock_get]
  cases h : fl[i]? with
  | none => simp
  | some x =>
    cases x <;> simp
    by_cases z : i ∈ L <;> simp [z]
theorem lock_O {L : List Nat} {i : Nat} (h : (lock L fl)[i]? = some .O) : fl[i]? = some .O ∧ i ∉ L := by
  rw [lock_get] at h
  cases e : fl[i]? with
  | none => rw [e] at h; simp at h
  | some x =>
    rw [e] at h
    cases x <;> simp at h
    by_cases z : i ∈ L
    · simp [z] at h
    · exact ⟨rfl, z⟩
theorem lock_L {L : List Nat} {i : Nat} (h : fl[i]? = some .L) : (lock L fl)[i]? = some .L := by
  rw [lock_get, h]
  simp
theorem lock_OL {L : List Nat} {i : Nat} (h : fl[i]? = some .O) (hi : i ∈ L) : (lock L fl)[i]? = some .L := by
  rw [lock_get, h]
  simp [hi]
theorem lock_OO {L : List Nat} {i : Nat} (h : fl[i]? = some .O) (hi : i ∉ L) : (lock L fl)[i]? = some .O := by
  rw [lock_get, h]
  simp [hi]
theorem lock_N {L : List Nat} {i : Nat} : (lock L fl)[i]? ≠ some .N := by
  rw [lock_get]
  cases h : fl[i]? with
  | none => simp
  | some x =>
    cases x <;> simp
    by_cases z : i ∈ L <;> simp [z]
theorem lock_M {L : List Nat} {i : Nat} : (lock L fl)[i]? = some .M ↔ fl[i]? = some .N ∨ fl[i]? = some .M := by
  rw [lock_get]
  cases h : fl[i]? with
  | none => simp
  | some x =>
    cases x <;> simp
    by_cases z : i ∈ L <;> simp [z]
theorem lock_isN {L : List Nat} {i : Nat} : isN (lock L fl)[i]? = isN fl[i]? := by
  rw [lock_get]
  cases h : fl[i]? with
  | none => rfl
  | some x =>
    cases x <;> simp [isN]
    by_cases z : i ∈ L <;> simp [z]
open Classical in
noncomputable def ghL (fl' : List Fl) (G : Gh) (ow : Ow) (H : Hp) : Gh := ⟨G.H0, fun b => if ∃ j, ow j = some b ∧ fl'[j]? = some .O then none else H b, ow, ow.n⟩
open Classical in
theorem ghL_out {fl' : List Fl} {G : Gh} {ow : Ow} {H : Hp} {b : Addr} (h : ¬ ∃ j, ow j = some b ∧ fl'[j]? = some .O) : (ghL fl' G ow H).HF b = H b := by
  unfold ghL
  dsimp only
  rw [if_neg h]
open Classical in
theorem ghL_in {fl' : List Fl} {G : Gh} {ow : Ow} {H : Hp} {b : Addr} (h : ∃ j, ow j = some b ∧ fl'[j]? = some .O) : (ghL fl' G ow H).HF b = none := by
  unfold ghL
  dsimp only
  rw [if_pos h]
theorem Rel.lock {K : PySem.W.Frag} {G : Gh} {ow : Ow} {σ : St} {H : Hp} {δ : DS} (L : List Nat) (R : Rel K fl G ow σ H δ) : Rel K (lock L fl) (ghL (lock L fl) G ow H) ow σ H δ := by
  refine ⟨fun b o hb => ?_, fun b o hb => ?_, R.len, fun i a h => ?_, R.inj, fun i h => rfl, fun i d h1 hn h2 => R.dat i d h1 (by rw [lock_isN] at hn; exact hn) h2, fun i d h1 hn h2 h3 => R.oo i d h1 (by rw [lock_isN] at hn; exact hn) (fun z => h2 (lock_A.mpr z)) h3, fun i a h => ?_, R.nd, R.ns, fun i h => rfl, fun i d hn h1 => R.nr i d (by rw [lock_isN] at hn; exact hn) h1⟩
  · have hb' : G.H0 b = some o := hb
    rw [ghL_out]
    · exact R.same0 b o hb'
    · rintro ⟨j, e, _⟩
      have := (R.own j b e).1
      rw [hb'] at this
      cases this
  · by_cases z : ∃ j, ow j = some b ∧ (D3.lock L fl)[j]? = some .O
    · rw [ghL_in z] at hb; cases hb
    · rw [ghL_out z] at hb; exact hb
  · obtain ⟨h0, hf, xs, ds, h1, h2, h3, h4⟩ := R.own i a h
    refine ⟨h0, ?_, xs, ds, h1, h2, h3, h4⟩
    have out : (D3.lock L fl)[i]? = some .L → (ghL (D3.lock L fl) G ow H).HF a = H a := fun hl => ghL_out (by
      rintro ⟨j, e, hj⟩
      rw [R.inj j i a e h, hl] at hj
      cases hj)
    rcases hf with ⟨hf, _⟩ | ⟨hf, _⟩
    · by_cases hi : i ∈ L
      · exact .inr ⟨lock_OL hf hi, xs, by rw [out (lock_OL hf hi)]; exact h2⟩
      · exact .inl ⟨lock_OO hf hi, ghL_in ⟨i, h, lock_OO hf hi⟩⟩
    · exact .inr ⟨lock_L hf, xs, by rw [out (lock_L hf)]; exact h2⟩
  · obtain ⟨g1, g2, g3⟩ := R.nt i a h
    exact ⟨g1, g2, .inr (lock_M.mpr (g3.imp (fun z => z.1) (fun z => z)))⟩
theorem Rel.unlock {K : PySem.W.Frag} {G : Gh} {ow ow' : Ow} {σ σ' : St} {H H' : Hp} {δ δ' : DS} {L : List Nat} (R : Rel K fl G ow σ H δ) (R' : Rel K (D3.lock L fl) (ghL (D3.lock L fl) G ow H) ow' σ' H' δ') : Rel K fl G ow' σ' H' δ' := by
  have sub : Same G.HF (ghL (D3.lock L fl) G ow H).HF := fun b o hb => by
    rw [ghL_out]
    · exact R.s1 b o hb
    · rintro ⟨j, e, hj⟩
      rcases (R.own j b e).2.1 with ⟨_, z⟩ | ⟨z, _⟩
      · rw [hb] at z; cases z
      · have := (lock_O hj).1
        rw [z] at this
        cases this
  refine ⟨R.s0, sub.trans R'.s1, R'.len, fun i a h => ?_, R'.inj, fun i h => ?_, fun i d h1 hn h2 => R'.dat i d h1 (by rw [lock_isN]; exact hn) h2, fun i d h1 hn h2 h3 => R'.oo i d h1 (by rw [lock_isN]; exact hn) (fun z => h2 (lock_A.mp z)) h3, fun i a h => ?_, R'.nd, R'.ns, fun i h => ?_, fun i d hn h1 => R'.nr i d (by rw [lock_isN]; exact hn) h1⟩
  · obtain ⟨h0, hf, rest⟩ := R'.own i a h
    refine ⟨h0, ?_, rest⟩
    rcases hf with ⟨hf, hz⟩ | ⟨hf, _⟩
    · exact .inl ⟨(lock_O hf).1, sub.free hz⟩
    · have e : ow' i = ow i := R'.pin i hf
      rw [e] at h
      exact (R.own i a h).2.1
  · have e : ow' i = ow i := R'.pin i (lock_L h)
    rw [e]
    exact R.pin i h
  · obtain ⟨g1, g2, g3⟩ := R'.nt i a h
    rcases g3 with ⟨z, _⟩ | z
    · exact absurd z lock_N
    · have e : ow'.n i = ow.n i := R'.np i z
      rw [e] at h
      exact ⟨g1, g2, (R.nt i a h).2.2⟩
  · have e : ow'.n i = ow.n i := R'.np i (lock_M.mpr (.inr h))
    rw [e]
    exact R.np i h
theorem ds_for {tg iter : Expr} {L : List Nat} {T : List Nat} {fi : FA} {g : FG} (hp : PassesOwn (model X.prog X.w) X.A X.env X.xe) (hc : X.calm = true) (hi : DI X fl L tg iter fi) (hg : DG X (lock L fl) T tg g) (hb : DSs X (lock L fl) body fs)
    (hs : ∀ x, foldedSetIterable iter X.env x = pure x := by intro _; rfl) : DS1 X fl (.For tg iter body [] pos) (sFor fi g fs) := PS.imp (ps_for hp hc hi hg hb hs) fun Dn σ H h => by
  obtain ⟨G, ow, δ, o, R0, hf, q⟩ := h
  obtain ⟨l, e1, e2⟩ := bind1 hf
  refine ⟨G, ow, δ, l, R0, e1, fun J H1 s wk => ?_⟩
  have R1 := R0.grow s
  have RL := R1.lock L
  refine ⟨fun i m σ' H' => m = l.length - i ∧ ∃ ow' δ', Rel X.K (lock L fl) (ghL (lock L fl) G ow H1) ow' σ' H' δ' ∧ forD g fs (l.drop i) δ' = some o, ⟨_, rfl, ow, δ, RL, by simpa using e2⟩, ?_⟩
  rintro i m σ' H' ⟨rfl, ow', δ', R', hd⟩
  have kept : ∀ b o, H1 b = some o → (∀ i, ow i = some b → i ∈ L) → H' b = some o := fun b o hb hl => R'.s1 b o (by
    rw [ghL_out]
    · exact hb
    · rintro ⟨j, e, hj⟩
      exact (lock_O hj).2 (hl j e))
  obtain ⟨w1, w2⟩ := wk H' kept i
  by_cases hlt : i < l.length
  · have hdrop : l.drop i = l[i] :: l.drop (i + 1) := List.drop_eq_getElem_cons hlt
    rw [hdrop, forD] at hd
    obtain ⟨δ1, e3, hd⟩ := bind1 hd
    obtain ⟨o1, e4, hd⟩ := bind1 hd
    obtain ⟨go, yl⟩ := w1 l[i] (List.getElem?_eq_getElem hlt)
    refine .inr ⟨go, fun σ' H' => ∃ ow' δ', Rel X.K (lock L fl) (ghL (lock L fl) G ow H1) ow' σ' H' δ' ∧ forD g fs (l.drop (i + 1)) δ' = some o, fun σ2 H2 ⟨ow2, δ2, R2, h2⟩ => ⟨l.length - (i + 1), by omega, rfl, ow2, δ2, R2, h2⟩, fun x H3 hy => ?_⟩
    obtain ⟨s3, r3⟩ := yl x H3 hy
    have sub : ∀ b, okA ow b ∧ H1 b ≠ none → okA ow' b := fun b z => by
      obtain ⟨z1, z2⟩ := z
      refine ⟨fun j e => ?_, fun j e => ?_⟩
      · rcases (R'.own j b e).2.1 with ⟨_, hz⟩ | ⟨hz, _⟩
        · have : (ghL (lock L fl) G ow H1).HF b = H1 b := ghL_out (by rintro ⟨j', e', _⟩; exact z1.1 j' e')
          rw [this] at hz
          exact z2 hz
        · have e' : ow' j = ow j := R'.pin j hz
          rw [e'] at e
          exact z1.1 j e
      · rcases (R'.nt j b e).2.2 with ⟨w, _⟩ | w
        · exact absurd w lock_N
        · have e' : ow'.n j = ow.n j := R'.np j w
          rw [e'] at e
          exact z1.2 j e
    refine ⟨_, ow', δ', _, δ1, R'.grow s3, r3.imp sub (fun z => z), e3, fun σ4 R4 _ => ⟨_, ow', δ1, o1, R4, e4, ?_⟩⟩
    · cases o1 with
      | nx δ2 => exact fun ow2 σ2 H2 R2 => ⟨ow2, δ2, R2, hd⟩
      | ct δ2 => exact fun ow2 σ2 H2 R2 => ⟨ow2, δ2, R2, hd⟩
      | bk δ2 => cases hd; exact fun ow2 σ2 H2 R2 => q ow2 σ2 H2 (R1.unlock R2)
      | rt d => cases hd; exact q
      | ex c f v => cases hd; exact q
  · have e : l.drop i = [] := List.drop_eq_nil_of_le (by omega)
    rw [e, forD] at hd
    cases hd
    exact .inl ⟨w2 (by omega), q ow' σ' H' (R1.unlock R')⟩
theorem ds_while (hp : PassesOwn (model X.prog X.w) X.A X.env X.xe) (hc : DT X fl c ft) (hb : DSs X fl body fs) : DS1 X fl (.While c body [] pos) (sWhile ft fs) := PS.imp (ps_while hp hc hb) fun Dn σ H h => by
  obtain ⟨G, ow, δ, o, R0, hf, q⟩ := h
  obtain ⟨n, hn⟩ := sWhile_inv hf
  refine ⟨fun m σ' H' => ∃ ow' δ', Rel X.K fl G ow' σ' H' δ' ∧ whileD ft fs m δ' = some o, ⟨n, ow, δ, R0, hn⟩, ?_⟩
  rintro m σ' H' ⟨ow', δ', R', hw⟩
  cases m with
  | zero => simp [whileD] at hw
  | succ m =>
    rw [whileD] at hw
    obtain ⟨t, e1, hw⟩ := bind1 hw
    refine ⟨G, ow', δ', t, R', e1, fun H1 s => ?_⟩
    cases t with
    | false =>
      rw [if_neg Bool.false_ne_true] at hw ⊢
      cases hw
      exact q ow' σ' H1 (R'.grow s)
    | true =>
      rw [if_pos rfl] at hw ⊢
      obtain ⟨o1, e2, hw⟩ := bind1 hw
      refine ⟨fun σ2 H2 => ∃ ow2 δ2, Rel X.K fl G ow2 σ2 H2 δ2 ∧ whileD ft fs m δ2 = some o, fun σ2 H2 ⟨ow2, δ2, R2, h2⟩ => ⟨m, Nat.lt_succ_self m, ow2, δ2, R2, h2⟩, G, ow', δ', o1, R'.grow s, e2, ?_⟩
      cases o1 with
      | nx δ2 => exact fun ow2 σ2 H2 R2 => ⟨ow2, δ2, R2, hw⟩
      | ct δ2 => exact fun ow2 σ2 H2 R2 => ⟨ow2, δ2, R2, hw⟩
      | bk δ2 => cases hw; exact q
      | rt d => cases hw; exact q
      | ex c f v => cases hw; exact q
end
end D3
namespace D3
open PySem PySem.Spec PyProof.Rows L2 My
def notStar : Expr → Bool
  | .Starred _ _ => false
  | _ => true
theorem star_of {e : Expr} {es : List Expr} {env : Env} (h : notStar e = true) : starEach (e :: es) env = (false, eval e env) :: starEach es env := by
  cases e <;> first | rfl | cases h
theorem pl_of {es : List Expr} {env : Env} {pos : Pos} (h : es.all notStar = true) : (backTo pos (starEach es env)).any (·.1) = false := by
  induction es with
  | nil => rfl
  | cons e es ih =>
    rw [List.all_cons, Bool.and_eq_true] at h
    rw [star_of h.1]
    have := ih h.2
    unfold backTo at this ⊢
    rw [List.map_cons, List.any_cons, this]
    rfl
def isR : Kd → Bool
  | .P => true
  | .A => true
  | .R => true
  | .C => true
  | _ => false
def okOf (H0 : Hp) (ow : Ow) (Hb : Hp) : Kd → Ok
  | .P => ok1
  | .A => okA ow
  | .R => okN H0
  | _ => okN Hb
def plOf : Kd → Bool
  | .P => true
  | .A => true
  | _ => false
section
variable {K : PySem.W.Frag} {H0 Hb Hc H : Hp} {ow : Ow} {v : V} {d : D} {k : Kd}
theorem Rs.ra (hk : isR k = true) (h : Rs K H0 ow Hb H k v d) : RA K (okOf H0 ow Hb k) (plOf k) H v d := by
  cases k <;> first | exact h | cases hk
theorem Rs.of_ra (hk : isR k = true) (h : RA K (okOf H0 ow Hb k) (plOf k) H v d) : Rs K H0 ow Hb H k v d := by
  cases k <;> first | exact h | cases hk
theorem okOf_back (s : Same Hb Hc) (hk : isR k = true) : ∀ a, okOf H0 ow Hc k a → okOf H0 ow Hb k a := fun a z => by
  cases k <;> first | exact z | exact s.free z | cases hk
theorem Rs.of_flat (hf : flat d = true) (h : RA K ok0 false H v d) : Rs K H0 ow Hb H k v d := by
  cases k with
  | P => exact RA.flat hf h
  | B L => exact .inl (RA.flat hf h)
  | A => exact RA.flat hf h
  | R => exact RA.flat hf h
  | F => exact .inl ⟨hf, h⟩
  | C => exact RA.flat hf h
  | FC => exact .inl ⟨hf, h⟩
  | T =>
    obtain ⟨as, h1, _, h3⟩ := RA.rt h
    cases as with
    | nil => exact ⟨[], h1, .nil, fun _ z => by cases z⟩
    | cons a r => exact (h3 a List.mem_cons_self).elim
theorem Rs.back (s : Same Hb Hc) (h : Rs K H0 ow Hc H k v d) : Rs K H0 ow Hb H k v d := by
  cases k with
  | P => exact h
  | B L => exact h
  | A => exact h
  | R => exact h
  | F =>
    rcases h with h | ⟨a, xs, ds, h1, h2, h3, h4⟩
    · exact .inl h
    · exact .inr ⟨a, xs, ds, h1, h2, s.free h3, h4⟩
  | C => exact RA.imp (fun a z => s.free z) (fun z => z) h
  | FC =>
    rcases h with h | ⟨a, xs, ds, h1, h2, h3, h4, h5⟩
    · exact .inl h
    · exact .inr ⟨a, xs, ds, h1, h2, s.free h3, h4, h5.imp (fun b z => ⟨s.free z.1, z.2⟩) (fun z => z)⟩
  | T =>
    obtain ⟨as, h1, h2, h3⟩ := h
    exact ⟨as, h1, h2, fun a z => s.free (h3 a z)⟩
end
def tDB (K : PySem.W.Frag) (fl : List Fl) (k : Kd) (f : FA) : TA := fun σ H Q => ∃ G ow δ ds, Rel K fl G ow σ H δ ∧ f δ = some ds ∧ ∀ vs H', Same H H' → RAs K (okOf G.H0 ow H k) (plOf k) H' vs ds → Q vs H'
abbrev DB (X : Cx) (fl : List Fl) (k : Kd) (es : List Expr) (f : FA) : Prop := PA X es (tDB X.K fl k f)
section
variable {X : Cx} {fl : List Fl} {e a b c : Expr} {es rest : List Expr} {k : Kd} {f fa fb fc : FE} {ft gt : FT} {pos : Pos}
theorem db_nil : DB X fl k [] dNil := PA.imp pa_nil fun σ H Q h => by
  obtain ⟨G, ow, δ, ds, R, hf, q⟩ := h
  cases hf
  exact q [] H (Same.refl H) .nil
theorem db_cons {fr : FA} (hk : isR k = true) (h : DE X fl k e f) (hr : DB X fl k es fr) (hs : starEach (e :: es) X.env = (false, eval e X.env) :: starEach es X.env := by exact star_of rfl) : DB X fl k (e :: es) (dCons f fr) := PA.imp (pa_cons h hr hs) fun σ H Q h => by
  obtain ⟨G, ow, δ, ds, R, hf, q⟩ := h
  obtain ⟨d, e1, hf⟩ := bind1 hf
  obtain ⟨r, e2, hf⟩ := bind1 hf
  cases hf
  refine ⟨G, ow, δ, d, R, e1, fun v H1 s1 r1 => ⟨G, ow, δ, r, R.grow s1, e2, fun vs H2 s2 r2 => ?_⟩⟩
  exact q _ H2 (s1.trans s2) (.cons ((r1.ra hk).same s2) (r2.imp (okOf_back s1 hk) (fun z => z)))
theorem da_of (h : DB X fl .P es fa') : DA X fl es fa' := PA.imp h fun σ H Q h => by
  obtain ⟨G, ow, δ, ds, R, hf, q⟩ := h
  exact ⟨G, ow, δ, ds, R, hf, fun vs H' s r => q vs H' s r⟩
theorem de_tup {x1} {fa : FA} (hk : isR k = true) (h : DB X fl k es fa) : DE X fl k (.Tuple es x1 pos) (dTup fa) := PE.imp (pe_tup h) fun σ H Q h => by
  obtain ⟨G, ow, δ, d, R, hf, q⟩ := h
  obtain ⟨l, e1, e2⟩ := bind1 hf
  by_cases z : l.length ≤ sizeLine
  · rw [if_pos z] at e2
    cases e2
    refine ⟨G, ow, δ, l, R, e1, fun vs H' s r => ⟨by rw [r.length]; exact z, fun p hp => ?_⟩⟩
    have g := same_new hp (.tup vs)
    exact q _ _ (s.trans g) (Rs.of_ra hk (.tup (SqT.of upd_same) (r.same g)))
  · rw [if_neg z] at e2
    cases e2
theorem de_lstA {fa : FA} (h : DB X fl .A es fa) : DE X fl .F (.List es pos) (dLst fa) := PE.imp (pe_lst h) fun σ H Q h => by
  obtain ⟨G, ow, δ, d, R, hf, q⟩ := h
  obtain ⟨l, e1, e2⟩ := bind1 hf
  by_cases z : l.length ≤ sizeLine
  · rw [if_pos z] at e2
    cases e2
    refine ⟨G, ow, δ, l, R, e1, fun vs H' s r => ⟨by rw [r.length]; exact z, fun p hp => ?_⟩⟩
    have g := same_new hp (.lst vs)
    exact q _ _ (s.trans g) (.inr ⟨p, vs, l, rfl, rfl, s.free hp, upd_same, (r.track.imp (fun b w => ⟨w.1, fun e => w.2 (e ▸ hp)⟩) (fun z => z)).same g⟩)
  · rw [if_neg z] at e2
    cases e2
theorem de_lstC {fa : FA} (h : DB X fl .C es fa) : DE X fl .FC (.List es pos) (dLst fa) := PE.imp (pe_lst h) fun σ H Q h => by
  obtain ⟨G, ow, δ, d, R, hf, q⟩ := h
  obtain ⟨l, e1, e2⟩ := bind1 hf
  by_cases z : l.length ≤ sizeLine
  · rw [if_pos z] at e2
    cases e2
    refine ⟨G, ow, δ, l, R, e1, fun vs H' s r => ⟨by rw [r.length]; exact z, fun p hp => ?_⟩⟩
    have g := same_new hp (.lst vs)
    exact q _ _ (s.trans g) (.inr ⟨p, vs, l, rfl, rfl, s.free hp, upd_same, (r.track.imp (fun b w => ⟨w.1, fun e => w.2 (e ▸ hp)⟩) (fun z => z)).same g⟩)
  · rw [if_neg z] at e2
    cases e2
theorem RAs.at {K : PySem.W.Frag} {ok : Ok} {pl : Bool} {H : Hp} {vs : List V} {l : List D} {i : Int} {d : D} (r : RAs K ok pl H vs l) (h : pAt l i = some d) : ∃ v, atI vs i = some v ∧ RA K ok pl H v d := by
  unfold pAt at h
  unfold atI
  obtain ⟨j, e1, e2⟩ := bind1 h
  obtain ⟨y, e3, ry⟩ := r.get e2
  exact ⟨y, by rw [r.length, show ixN l.length i = some j from e1]; exact e3, ry⟩
theorem de_ix {L : List Nat} (ha : DE X fl (.B L) a fa) (hb : DE X fl .P b fb) (hs : PlainIx b) : DE X fl .A (.Subscript a b pos) (dOp gIx fa fb) := PE.imp (pe_ix ix_seq ha hb hs) fun σ H Q h => by
  obtain ⟨G, ow, δ, d, R, hf, q⟩ := h
  obtain ⟨x, y, e1, e2, e3⟩ := bind2 hf
  refine ⟨G, ow, δ, x, R, e1, fun v H1 s1 r1 => ⟨G, ow, δ, y, R.grow s1, e2, fun u H2 s2 r2 => ?_⟩⟩
  unfold gIx at e3
  split at e3
  · next l i =>
    obtain rfl := RA.intE r2
    rcases r1 with r1 | ⟨i', _, p, xs, ds, ho, rfl, ez, hx, hr⟩
    · obtain ⟨p, xs, rfl, hx, hr⟩ := RA.lstE (RA.same s2 r1)
      obtain ⟨z, ez, rz⟩ := hr.at e3
      exact .inl ⟨p, xs, i, z, rfl, rfl, hx, ez, q z H2 (s1.trans s2) rz⟩
    · cases ez
      obtain ⟨z, ez, rz⟩ := (hr.same s2).at e3
      exact .inl ⟨p, xs, i, z, rfl, rfl, SqL.of (s2 _ _ hx), ez, q z H2 (s1.trans s2) rz⟩
  · next l i =>
    obtain rfl := RA.intE r2
    rcases r1 with r1 | ⟨i', _, p, xs, ds, ho, rfl, ez, hx, hr⟩
    · obtain ⟨p, xs, rfl, hx, hr⟩ := RA.tupE (RA.same s2 r1)
      obtain ⟨z, ez, rz⟩ := hr.at e3
      exact .inr (.inl ⟨p, xs, i, z, rfl, rfl, hx, ez, q z H2 (s1.trans s2) rz⟩)
    · cases ez
  · cases e3
theorem de_one {op : BoolOp} (h : DE X fl k a f) : DE X fl k (.BoolOp op [a] pos) f := pe_one h
theorem de_and (h1 : DE X fl .P a fa) (h2 : DE X fl k (.BoolOp .And (b :: rest) pos) fb) : DE X fl k (.BoolOp .And (a :: b :: rest) pos) (dAnd fa fb) := PE.imp (pe_and h1 h2) fun σ H Q h => by
  obtain ⟨G, ow, δ, d, R, hf, q⟩ := h
  obtain ⟨x, e1, e2⟩ := bind1 hf
  refine ⟨G, ow, δ, x, R, e1, fun v H1 s1 r1 => ?_⟩
  split at e2
  · obtain rfl := RA.blE r1
    exact ⟨true, rfl, iteT ⟨G, ow, δ, d, R.grow s1, e2, fun u H2 s2 r2 => q u H2 (s1.trans s2) (r2.back s1)⟩⟩
  · obtain rfl := RA.blE r1
    cases e2
    exact ⟨false, rfl, iteF (q _ H1 s1 (Rs.of_flat rfl (.bl _)))⟩
  · cases e2
theorem de_not (h1 : DE X fl .P a fa) : DE X fl .FC (.UnaryOp .Not a pos) (dNot fa) := PE.imp (pe_not h1) fun σ H Q h => by
  obtain ⟨G, ow, δ, d, R, hf, q⟩ := h
  obtain ⟨x, e1, e2⟩ := bind1 hf
  refine ⟨G, ow, δ, x, R, e1, fun v H1 s1 r1 => ?_⟩
  split at e2
  · next c =>
    obtain rfl := RA.blE r1
    cases e2
    exact ⟨c, rfl, q _ H1 s1 (Rs.of_flat rfl (.bl _))⟩
  · cases e2
theorem dt_not (h : DT X fl a ft) : DT X fl (.UnaryOp .Not a pos) (tNot ft) := PT.imp (pt_not h) fun σ H Q h => by
  obtain ⟨G, ow, δ, t, R, hf, q⟩ := h
  unfold tNot at hf
  cases e : ft δ with
  | none => rw [e] at hf; cases hf
  | some x =>
    rw [e] at hf
    cases hf
    exact ⟨G, ow, δ, x, R, e, fun H' s => q H' s⟩
theorem dw_and1 (h : DT X fl a ft) : DW X fl (.BoolOp .And [a] pos) ft := pw_and1 h
theorem dw_or1 (h : DT X fl a ft) : DW X fl (.BoolOp .Or [a] pos) ft := pw_or1 h
theorem dw_and (h1 : DT X fl a ft) (h2 : DW X fl (.BoolOp .And (b :: rest) pos) gt) : DW X fl (.BoolOp .And (a :: b :: rest) pos) (tAnd ft gt) := PW.imp (pw_and h1 h2) fun σ H Q h => by
  obtain ⟨G, ow, δ, t, R, hf, q⟩ := h
  obtain ⟨x, e1, e2⟩ := bind1 hf
  refine ⟨G, ow, δ, x, R, e1, fun H1 s1 => ?_⟩
  cases x with
  | true => exact iteT ⟨G, ow, δ, t, R.grow s1, e2, fun H2 s2 => q H2 (s1.trans s2)⟩
  | false => cases e2; exact iteF (q H1 s1)
theorem dw_or (h1 : DT X fl a ft) (h2 : DW X fl (.BoolOp .Or (b :: rest) pos) gt) : DW X fl (.BoolOp .Or (a :: b :: rest) pos) (tOr ft gt) := PW.imp (pw_or h1 h2) fun σ H Q h => by
  obtain ⟨G, ow, δ, t, R, hf, q⟩ := h
  obtain ⟨x, e1, e2⟩ := bind1 hf
  refine ⟨G, ow, δ, x, R, e1, fun H1 s1 => ?_⟩
  cases x with
  | true => cases e2; exact iteT (q H1 s1)
  | false => exact iteF ⟨G, ow, δ, t, R.grow s1, e2, fun H2 s2 => q H2 (s1.trans s2)⟩
theorem dt_w (h : DW X fl a ft) : DT X fl a ft := PW.pt h
theorem de_chain {op op' : CmpOp} {r r' : R2} {g g' : D → D → Option D} (ho : OpR X (compareOp op) r) (ho' : OpR X (compareOp op') r') (hb : BrO X.K r g) (hb' : BrO X.K r' g') (h1 : DE X fl .P a fa) (h2 : DE X fl .P b fb) (h3 : DE X fl .P c fc)
    (hm : lastMarks [op, op'] [b, c] = false := by with_unfolding_all rfl) : DE X fl .FC (.Compare a [op, op'] [b, c] pos) (dChain g g' fa fb fc) := PE.imp (pe_chain ho ho' h1 h2 h3 hm) fun σ H Q h => by
  obtain ⟨G, ow, δ, d, R, hf, q⟩ := h
  obtain ⟨x, e1, hf⟩ := bind1 hf
  obtain ⟨y, e2, hf⟩ := bind1 hf
  obtain ⟨z, e3, hf⟩ := bind1 hf
  refine ⟨G, ow, δ, x, R, e1, fun v H1 s1 r1 => ⟨G, ow, δ, y, R.grow s1, e2, fun u H2 s2 r2 => ?_⟩⟩
  refine hb H2 v u x y z _ (RA.same s2 r1) r2 e3 fun zv hz rz => ?_
  split at hf
  · obtain rfl := rz.blE
    obtain ⟨w, e4, e5⟩ := bind1 hf
    refine ⟨true, rfl, iteT ⟨G, ow, δ, w, R.grow (s1.trans s2), e4, fun wv H3 s3 r3 => ?_⟩⟩
    exact hb' H3 u wv y w d Q (RA.same s3 r2) r3 e5 fun z hz rz => q z H3 (s1.trans (s2.trans s3)) (.inl ⟨hz, rz⟩)
  · obtain rfl := rz.blE
    cases hf
    exact ⟨false, rfl, iteF (q _ H2 (s1.trans s2) (.inl ⟨rfl, .bl _⟩))⟩
  · cases hf
def BrC (K : PySem.W.Frag) (r : List V → Hp → VK → Prop) (g : List D → Option D) : Prop := ∀ (H : Hp) (xs : List V) (ds : List D) (d : D) (Q : VK), RAs K ok1 true H xs ds → g ds = some d → (∀ v, flat d = true → RA K ok0 false H v d → Q v H) → r xs H Q
theorem de_blt {id : String} {r : List V → Hp → VK → Prop} {g : List D → Option D} {x : Str} {p : Pos} {fa : FA} (hc : CallR X (.builtin id) r) (hb : BrC X.K r g) (hg : Gl X x) (hm : X.mg x = none) (hv : bootBuiltins x = some (.builtin id)) (ha : DB X fl .P (e :: es) fa) (hn : x ≠ "__name__" := by decide) (hdb : (x == ("__debug__" : Str)) = false := by decide)
    (he : starEach (e :: es) X.env = (false, eval e X.env) :: starEach es X.env := by exact star_of rfl) (hpl : (backTo pos (starEach es X.env)).any (·.1) = false := by exact pl_of rfl) : DE X fl .FC (.Call (.Name x p) (e :: es) [] pos) (dCall g fa) :=
  PE.imp (pe_callB hc hg hm hv ha hn hdb he hpl) fun σ H Q h => by
  obtain ⟨G, ow, δ, d, R, hf, q⟩ := h
  obtain ⟨ds, e1, e2⟩ := bind1 hf
  exact ⟨G, ow, δ, ds, R, e1, fun vs H' s r' => hb H' vs ds d Q r' e2 fun v hv rv => q v H' s (.inl ⟨hv, rv⟩)⟩
theorem b_len {K : PySem.W.Frag} : BrC K (fun xs H Q => ∃ p ys, xs = [.ref p] ∧ (SqL K H p ys ∨ SqT K H p ys) ∧ Q (.int ys.length) H) gLen := by
  intro H xs ds d Q r e q
  unfold gLen at e
  split at e
  · next l =>
    cases e
    cases r with
    | cons r1 r2 =>
      cases r2
      obtain ⟨a, ys, rfl, hx, hr⟩ := r1.lstE
      refine ⟨a, ys, rfl, .inl hx, ?_⟩
      rw [hr.length]
      exact q _ rfl (.int _)
  · next l =>
    cases e
    cases r with
    | cons r1 r2 =>
      cases r2
      obtain ⟨a, ys, rfl, hx, hr⟩ := r1.tupE
      refine ⟨a, ys, rfl, .inr hx, ?_⟩
      rw [hr.length]
      exact q _ rfl (.int _)
  · cases e
theorem b_abs {K : PySem.W.Frag} : BrC K (fun xs H Q => ∃ i, xs = [.int i] ∧ Q (.int (if i < 0 then -i else i)) H) gAbs := by
  intro H xs ds d Q r e q
  unfold gAbs at e
  split at e
  · cases e
    cases r with
    | cons r1 r2 =>
      cases r2
      obtain rfl := r1.intE
      exact ⟨_, rfl, q _ rfl (.int _)⟩
  · cases e
theorem b_min2 {K : PySem.W.Frag} : BrC K (fun xs H Q => ∃ i j, xs = [.int i, .int j] ∧ Q (.int (if j < i then j else i)) H) gMin2 := by
  intro H xs ds d Q r e q
  unfold gMin2 at e
  split at e
  · cases e
    cases r with
    | cons r1 r2 =>
      cases r2 with
      | cons r2 r3 =>
        cases r3
        obtain rfl := r1.intE
        obtain rfl := r2.intE
        exact ⟨_, _, rfl, q _ rfl (.int _)⟩
  · cases e
theorem tyD_mem (d : D) : tyD d = "NoneType" ∨ tyD d = "bool" ∨ tyD d = "int" ∨ tyD d = "str" ∨ tyD d = "list" ∨ tyD d = "tuple" ∨ tyD d = "dict" := by
  cases d <;> simp [tyD]
def rIsD (K : PySem.W.Frag) : List V → Hp → VK → Prop := fun xs H Q => ∃ x c d, xs = [x, .ty c] ∧ (c = "int" ∨ c = "bool" ∨ c = "tuple" ∨ c = "list" ∨ c = "str") ∧ RA K ok1 true H x d ∧ Q (.bl (isT c (tyD d))) H
theorem call_isD : CallR X (.builtin "isinstance") (rIsD X.K) := by
  intro pins s σ H xs us Q I r h
  obtain ⟨x, c, d, rfl, hc, ra, q⟩ := h
  obtain ⟨u, w', rfl, rx, rc⟩ := vals2 r
  cases rc
  have kn := kit_nn (K := X.K) hc (tyD_mem d)
  have fin : ∀ tk, EP X pins σ Q (.bool (isT c (tyD d))) { s with toks := tk } := fun tk => ⟨.bl _, H, I.tok _, rfl, q⟩
  cases ra with
  | non => cases (show u = Value.none from rx); exact PySem.W.kia_one PySem.W.kitx_none I.kIn True.intro kn (fun z => nomatch z) fin
  | bl b => cases (show u = Value.bool b from rx); exact PySem.W.kia_one PySem.W.kitx_bool I.kIn True.intro kn (fun z => nomatch z) fin
  | int i => obtain ⟨t, z⟩ := (show ∃ t, u = Value.int i t from rx); cases z; exact PySem.W.kia_one PySem.W.kitx_int I.kIn True.intro kn (fun z => nomatch z) fin
  | str y => obtain ⟨t, z⟩ := (show ∃ t, u = Value.str y t from rx); cases z; exact PySem.W.kia_one PySem.W.kitx_str I.kIn True.intro kn (fun z => nomatch z) fin
  | @lst a xs ds e k q' =>
    cases (show u = Value.ref a from rx)
    obtain ⟨its, _, ⟨o, n, e1, e2, _⟩, _⟩ := I.list (SqL.of e)
    exact PySem.W.kia_one PySem.W.kitx_list I.kIn ⟨_, e1, e2⟩ kn (fun z => nomatch z) fin
  | @lsk a xs ds e k q' =>
    cases (show u = Value.ref a from rx)
    obtain ⟨its, _, ⟨o, n, e1, e2, _⟩, _⟩ := I.list e.sq
    exact PySem.W.kia_one PySem.W.kitx_list I.kIn ⟨_, e1, e2⟩ kn (fun z => nomatch z) fin
  | @tup a xs ds e q' =>
    cases (show u = Value.ref a from rx)
    obtain ⟨its, _, ⟨o, e1, e2, _⟩, _⟩ := I.tuple e
    exact PySem.W.kia_one PySem.W.kitx_tuple I.kIn ⟨_, e1, e2⟩ kn (fun z => nomatch z) fin
  | @dic a kvs e k =>
    exact isinst_ok I rx (TyOf.dK e) kn fin
theorem de_isi {T : String} {x : Str} {p p' : Pos} (hc : T = "int" ∨ T = "bool" ∨ T = "tuple" ∨ T = "list" ∨ T = "str") (h : DE X fl .P a f) (hg : Gl X "isinstance") (hm : X.mg "isinstance" = none) (hg' : Gl X x) (hm' : X.mg x = none) (hv' : bootBuiltins x = some (.type T))
    (hn' : x ≠ "__name__" := by decide) (hd' : (x == ("__debug__" : Str)) = false := by decide)
    (he : starEach [a, .Name x p'] X.env = (false, eval a X.env) :: starEach [.Name x p'] X.env := by rfl) (he2 : starEach [.Name x p'] X.env = (false, eval (.Name x p') X.env) :: starEach [] X.env := by rfl) (hpl : (backTo pos (starEach [.Name x p'] X.env)).any (·.1) = false := by rfl) :
    DE X fl .FC (.Call (.Name "isinstance" p) [a, .Name x p'] [] pos) (dUn (gIs T) f) :=
  PE.imp (pe_callB call_isD hg hm boot_isinstance (pa_cons h (pa_cons (pe_bltn (v := .ty T) hg' hm' hv' rfl hn' hd') pa_nil he2) he) (by decide) (by decide) he hpl) fun σ H Q h => by
  obtain ⟨G, ow, δ, d, R, hf, q⟩ := h
  obtain ⟨x, e1, e2⟩ := bind1 hf
  cases e2
  exact ⟨G, ow, δ, x, R, e1, fun v H1 s1 r1 => ⟨v, T, x, rfl, hc, r1, q _ H1 s1 (.inl ⟨rfl, .bl _⟩)⟩⟩
theorem de_neg (h : DE X fl .P a f) : DE X fl .FC (.UnaryOp .USub a pos) (dUn gNeg f) := PE.imp (pe_un un_neg h) fun σ H Q h => by
  obtain ⟨G, ow, δ, d, R, hf, q⟩ := h
  obtain ⟨x, e1, e2⟩ := bind1 hf
  refine ⟨G, ow, δ, x, R, e1, fun v H1 s1 r1 => ?_⟩
  unfold gNeg at e2
  split at e2
  · cases e2
    obtain rfl := RA.intE r1
    exact ⟨_, rfl, q _ H1 s1 (.inl ⟨rfl, .int _⟩)⟩
  · cases e2
end
def spD (K : PySem.W.Frag) (F : List D → Option D) : Sp := fun vs H Q _ => ∃ ds d, RAs K ok1 true H vs ds ∧ F ds = some d ∧ ∀ v H', Same H H' → RA K (okN H) false H' v d → Q v H'
section
variable {P : Program} {w : World} {K : PySem.W.Frag} {mg : Str → Option Value} {base : Heap} {x : Str} {ps N : List Str} {st : Stmt} {k n : Nat} {fs : FS} {fl : List Fl}
theorem rel_start {vs : List V} {ds : List D} {H : Hp} (p : Nat) (hp : ∀ i, i < p → fl[i]? = some .A) (hl : ds.length = p) (hN : p ≤ N.length) (r : RAs K ok1 true H vs ds) :
    Rel K fl ⟨H, H, fun _ => none, fun _ => []⟩ ow0 (L2.start N vs) H (ds.map (fun d => some (.d d)) ++ List.replicate (N.length - p) none) := by
  have hv : vs.length = p := by rw [r.length]; exact hl
  have get : ∀ i d, (ds.map (fun d => some (U.d d)) ++ List.replicate (N.length - p) none)[i]? = some (some (.d d)) → i < p ∧ ds[i]? = some d := fun i d h => by
    by_cases hi : i < p
    · rw [List.getElem?_append_left (by rw [List.length_map, hl]; exact hi), List.getElem?_map] at h
      cases e : ds[i]? with
      | none => rw [e] at h; cases h
      | some z => rw [e] at h; cases h; exact ⟨hi, rfl⟩
    · rw [List.getElem?_append_right (by rw [List.length_map, hl]; omega), List.getElem?_replicate] at h
      split at h <;> cases h
  refine ⟨Same.refl H, Same.refl H, ?_, fun i a h => (by cases h), fun i j a h => (by cases h), fun i h => rfl, fun i d h _ _ => ?_, fun i d h _ h2 _ => ?_, fun i a h => (by cases h), fun i j a h => (by cases h), fun i j a h => (by cases h), fun i h => rfl, fun i d hn h => ?_⟩
  · unfold L2.start
    simp only [List.length_append, List.length_map, List.length_replicate, hv, hl]
  · obtain ⟨hi, e⟩ := get i d h
    obtain ⟨v, e1, e2⟩ := r.get e
    refine ⟨v, ?_, e2.imp (fun _ _ => ⟨fun i z => (by cases z), fun i z => (by cases z)⟩) (fun z => z)⟩
    unfold L2.start
    rw [List.getElem?_append_left (by rw [List.length_map, hv]; exact hi), List.getElem?_map, e1]
    rfl
  · exact absurd (hp i (get i d h).1) h2
  · rw [hp i (get i d h).1] at hn
    cases hn
end
section
variable {X : Cx} {fl : List Fl} {e : Expr} {es : List Expr} {pos p : Pos} {x : Str} {ps : List Str} {n : Nat} {F : List D → Option D} {fa : FA}
theorem de_call (h : Has X.prog X.w X.K X.mg X.base n x ps (spD X.K F)) (hr : Room n X.A) (ha : DB X fl .P (e :: es) fa) (hg : Gl X x := by rfl) (hdb : (x == ("__debug__" : Str)) = false := by decide)
    (he : starEach (e :: es) X.env = (false, eval e X.env) :: starEach es X.env := by exact star_of rfl) (hpl : (backTo pos (starEach es X.env)).any (·.1) = false := by exact pl_of rfl) :
    DE X fl .C (.Call (.Name x p) (e :: es) [] pos) (dCall F fa) := PE.imp (pe_callH h hr ha hg hdb he hpl) fun σ H Q h => by
  obtain ⟨G, ow, δ, d, R, hf, q⟩ := h
  obtain ⟨ds, e1, e2⟩ := bind1 hf
  refine ⟨G, ow, δ, ds, R, e1, fun vs H' s r => ?_⟩
  show spD X.K F (vs ++ []) H' Q E0
  rw [List.append_nil]
  exact ⟨ds, d, r, e2, fun v H2 s2 r2 => q v H2 (s.trans s2) (RA.imp (fun a z => s.free z) (fun z => z) r2)⟩
end
end D3
namespace D3
open PySem PySem.Spec PyProof.Rows L2 My
section
variable {X : Cx} {fl fl' : List Fl} {e a b c elt tg iter : Expr} {es ifs : List Expr} {k : Kd} {f fa fb fc : FE} {ft gt : FT} {pos : Pos} {scope : Scope} {ix L TT : List Nat} {fi : FA} {g : FG}
theorem pts_yes : PTs X [] (tDT X.K fl D3.tYes) := fun pins s σ H Q I h => by
  obtain ⟨G, ow, δ, b, R, hf, q⟩ := h
  cases hf
  exact pts_nil pins s σ H Q I (q H (Same.refl H))
theorem cap_rel {K : PySem.W.Frag} {G : Gh} {ow : Ow} {σ : St} {H H1 : Hp} {δ : DS} (t : Nat) (ix : List Nat) (hfl : ∀ i, i < t + ix.length → fl'[i]? = some .A) (R : Rel K fl G ow σ H δ) (s : Same H H1) :
    Rel K fl' ⟨H, H, fun _ => none, fun _ => []⟩ ow0 (capσ t ix σ) H1 (capD t ix δ) := by
  have get : ∀ i d, (capD t ix δ)[i]? = some (some (.d d)) → i < t + ix.length ∧ ∃ j, ix[i - t]? = some j ∧ t ≤ i ∧ δ[j]? = some (some (.d d)) := fun i d h => by
    unfold capD at h
    by_cases hi : i < t
    · rw [List.getElem?_append_left (by rw [List.length_replicate]; exact hi), List.getElem?_replicate, if_pos hi] at h
      cases h
    · rw [List.getElem?_append_right (by rw [List.length_replicate]; omega), List.length_replicate, List.getElem?_map] at h
      cases e : ix[i - t]? with
      | none => rw [e] at h; cases h
      | some j =>
        rw [e] at h
        have hl : i - t < ix.length := by
          rcases Nat.lt_or_ge (i - t) ix.length with z | z
          · exact z
          · rw [List.getElem?_eq_none z] at e; cases e
        refine ⟨by omega, j, rfl, by omega, ?_⟩
        have h' : (δ[j]?).getD none = some (.d d) := by simpa using h
        cases q : δ[j]? with
        | none => rw [q] at h'; cases h'
        | some o => rw [q] at h'; simp at h'; rw [h']
  refine ⟨Same.refl H, s, ?_, fun i a h => (by cases h), fun i j a h => (by cases h), fun i h => rfl, fun i d h _ _ => ?_, fun i d h _ h2 _ => absurd (hfl i (get i d h).1) h2, fun i a h => (by cases h), fun i j a h => (by cases h), fun i j a h => (by cases h), fun i h => rfl, fun i d hn h => (by rw [hfl i (get i d h).1] at hn; cases hn)⟩
  · unfold capσ capD
    simp
  · obtain ⟨hi, j, ej, ht, ed⟩ := get i d h
    have key : ∃ v, σ[j]? = some (some v) ∧ RA K ok1 true H v d := by
      cases hN : isN fl[j]? with
      | true =>
        obtain ⟨v, h1, h2, _⟩ := R.nr j d hN ed
        exact ⟨v, h1, h2.ra fun _ _ => trivial⟩
      | false =>
      cases ho : ow j with
      | none =>
        obtain ⟨v, h1, h2⟩ := R.dat j d ed hN ho
        exact ⟨v, h1, h2.imp (fun _ _ => trivial) (fun z => z)⟩
      | some a =>
        obtain ⟨_, _, xs, ds, h1, h2, h3, h4⟩ := R.own j a ho
        rw [ed] at h4
        cases h4
        exact ⟨_, h1, .lst h2 trivial (h3.imp (fun _ _ => trivial) (fun z => z))⟩
    obtain ⟨v, h1, h2⟩ := key
    refine ⟨v, ?_, (h2.imp (fun _ _ => ⟨fun i z => (by cases z), fun i z => (by cases z)⟩) (fun z => z)).same s⟩
    unfold capσ
    rw [List.getElem?_append_right (by rw [List.length_replicate]; omega), List.length_replicate, List.getElem?_map, ej]
    show some ((σ[j]?).getD none) = _
    rw [h1]
    rfl
theorem comp_bridge {σ : St} {H : Hp} {Q : VK} {t : Nat} (hfl : ∀ i, i < t + ix.length → fl'[i]? = some .A) (htg : ∀ j ∈ TT, j < t)
    (h : tD X.K fl .FC (dComp fi g ft f t ix) σ H Q) : tComp (tDI X.K fl L fi) (tDG X.K fl' TT g) (tDT X.K fl' ft) (tD X.K fl' .C f) t (capσ t ix) σ H Q := by
  obtain ⟨G, ow, δ, d, R, hf, q⟩ := h
  obtain ⟨l, e1, e2⟩ := bind1 hf
  by_cases hl : l.length ≤ 100000
  case neg => rw [if_neg hl] at e2; cases e2
  rw [if_pos hl] at e2
  obtain ⟨r, e3, e4⟩ := bind1 e2
  cases e4
  refine ⟨G, ow, δ, l, R, e1, fun J H1 s1 wk Dl hD => ?_⟩
  have R1 := R.grow s1
  let okD : Ok := fun b => okN H b ∧ b ≠ Dl
  refine ⟨fun i m xs H2 => m = l.length - i ∧ H2 Dl = some (.lst xs) ∧ Same H1 H2 ∧ xs.length ≤ i ∧ i ≤ l.length ∧ ∃ ds rest, RAs X.K okD false H2 xs ds ∧ compD g ft f (capD t ix δ) (l.drop i) = some rest ∧ r = ds ++ rest,
    ⟨_, rfl, upd_same, same_new hD _, Nat.le_refl _, Nat.zero_le _, [], r, .nil, by simpa using e3, rfl⟩, ?_⟩
  rintro i m xs H2 ⟨rfl, hDl, s2, hxl, hil, ds, rest, hr, hc, rfl⟩
  refine ⟨hDl, ?_⟩
  obtain ⟨w1, w2⟩ := wk H2 (fun b o hb _ => s2 b o hb) i
  by_cases hlt : i < l.length
  · have hdrop : l.drop i = l[i] :: l.drop (i + 1) := List.drop_eq_getElem_cons hlt
    rw [hdrop, compD] at hc
    obtain ⟨δ1, e5, hc⟩ := bind1 hc
    obtain ⟨bb, e6, hc⟩ := bind1 hc
    obtain ⟨go, yl⟩ := w1 l[i] (List.getElem?_eq_getElem hlt)
    refine .inr ⟨go, Nat.lt_of_le_of_lt (Nat.le_trans hxl (Nat.le_trans hil hl)) (by decide), fun x H3 hy => ?_⟩
    obtain ⟨s3, r3⟩ := yl x H3 hy
    have s13 := s2.trans s3
    have Rb := (cap_rel t ix hfl R1 (Same.refl H1)).grow s13
    refine ⟨_, _, _, _, δ1, Rb, r3.imp (fun _ _ => ⟨fun i z => (by cases z), fun i z => (by cases z)⟩) (fun z => z), e5, fun σ4 R4 keep4 => ⟨?_, ?_⟩⟩
    · apply List.ext_getElem?
      intro n
      rw [List.getElem?_drop, List.getElem?_drop]
      exact keep4 (t + n) fun z => absurd (htg _ z) (by omega)
    · refine ⟨_, _, δ1, bb, R4, e6, fun H5 s5 => ?_⟩
      cases bb with
      | false =>
        rw [if_neg Bool.false_ne_true] at hc ⊢
        have s35 := s3.trans s5
        exact ⟨l.length - (i + 1), by omega, rfl, s35 _ _ hDl, s2.trans s35, by omega, hlt, ds, rest, hr.same s35, hc, rfl⟩
      | true =>
        rw [if_pos rfl] at hc ⊢
        obtain ⟨y, e7, hc⟩ := bind1 hc
        obtain ⟨l', e8, hc⟩ := bind1 hc
        cases hc
        refine ⟨_, _, δ1, y, R4.grow s5, e7, fun v H6 s6 r6 => ?_⟩
        have s35 := s3.trans s5
        have s36 := s35.trans s6
        refine ⟨s36 _ _ hDl, l.length - (i + 1), by omega, rfl, upd_same, ?_, by rw [List.length_append, List.length_singleton]; omega, hlt, ds ++ [y], l', ?_, e8, by simp⟩
        · intro b o hb
          rw [upd_ne (fun z => by subst z; rw [hD] at hb; cases hb)]
          exact (s2.trans s36) b o hb
        · have nd : ¬ okD Dl := fun z => z.2 rfl
          have s05 : Same H H5 := s1.trans (s2.trans s35)
          have ry : RA X.K okD false H6 v y := RA.imp (fun b z => ⟨s05.free z, fun e => by subst e; rw [okN, s35 _ _ hDl] at z; cases z⟩) (fun z => z) r6
          exact ((hr.same s36).append (.cons ry .nil)).upd (s36 _ _ hDl) nd
  · have ed : l.drop i = [] := List.drop_eq_nil_of_le (by omega)
    rw [ed, compD] at hc
    cases hc
    refine .inl ⟨w2 (by omega), ?_⟩
    rw [List.append_nil] at q
    exact q (.ref Dl) H2 (s1.trans s2) (.inr ⟨Dl, xs, ds, rfl, rfl, s1.free hD, hDl, hr⟩)
theorem de_comp (hc : X.calm = true) (T Vn : List Str) (ix : List Nat) (hi : DI X fl L tg iter fi)
    (hg : ∀ cl C s3 H3 fp, DG (blk X (T ++ Vn) scope cl C s3 H3 fp) fl' TT tg g) (ht : ∀ cl C s3 H3 fp, PTs (blk X (T ++ Vn) scope cl C s3 H3 fp) ifs (tDT X.K fl' ft)) (he : ∀ cl C s3 H3 fp, DE (blk X (T ++ Vn) scope cl C s3 H3 fp) fl' .C elt f)
    (hfl : ∀ i, i < T.length + ix.length → fl'[i]? = some .A := by decide) (htg : ∀ j ∈ TT, j < T.length := by decide)
    (hB : capB X.N X.env.scope.names scope.names Vn ix = true := by rfl) (hk : scope.kind = .function := by rfl) (hcell : ∀ y ∈ scope.names, y.2 ≠ .cell := by decide +kernel)
    (hnames : ∀ x ∈ scope.names, x.2 = .local → scope.names.lookup x.1 = some .local := by decide +kernel)
    (hfr : ∀ x ∈ scope.names, x.2 = .free → x.1 ∈ Vn := by decide +kernel) (hs : ∀ x, foldedSetIterable iter X.env x = pure x := by intro _; rfl) :
    DE X fl .FC (.ListComp elt [⟨tg, iter, ifs, 0⟩] scope pos) (dComp fi g ft f T.length ix) :=
  PE.imp (pe_comp hc T Vn ix hi hg ht he hB hk hcell hnames hfr hs) fun _ _ _ h => comp_bridge hfl htg h
theorem ds_setCA {i : Nat} {x : Str} {pos' spos : Pos} (hfx : fl[i]? = some .A) (hN : X.N.Nodup) (hi' : X.N[i]? = some x) (hx : X.env.scope.names.lookup x = some .local) (hc : X.calm = true) (T Vn : List Str) (ix : List Nat) (hi : DI X fl L tg iter fi)
    (hg : ∀ cl C s3 H3 fp, DG (blk X (T ++ Vn) scope cl C s3 H3 fp) fl' TT tg g) (ht : ∀ cl C s3 H3 fp, PTs (blk X (T ++ Vn) scope cl C s3 H3 fp) ifs (tDT X.K fl' ft)) (he : ∀ cl C s3 H3 fp, DE (blk X (T ++ Vn) scope cl C s3 H3 fp) fl' .C elt f)
    (hfl : ∀ i, i < T.length + ix.length → fl'[i]? = some .A := by decide) (htg : ∀ j ∈ TT, j < T.length := by decide)
    (hsw : swapsWith (.ListComp elt [⟨tg, iter, ifs, 0⟩] scope pos) (some (.Name x pos')) spos.line X.env = pure true := by rfl)
    (hB : capB X.N X.env.scope.names scope.names Vn ix = true := by rfl) (hk : scope.kind = .function := by rfl) (hcell : ∀ y ∈ scope.names, y.2 ≠ .cell := by decide +kernel)
    (hnames : ∀ x ∈ scope.names, x.2 = .local → scope.names.lookup x.1 = some .local := by decide +kernel)
    (hfr : ∀ x ∈ scope.names, x.2 = .free → x.1 ∈ Vn := by decide +kernel) (hs : ∀ x, foldedSetIterable iter X.env x = pure x := by intro _; rfl) :
    DS1 X fl (.Assign [.Name x pos'] (.ListComp elt [⟨tg, iter, ifs, 0⟩] scope pos) spos) (sSetl i (dComp fi g ft f T.length ix)) :=
  PS.imp (ps_setC hN hi' hx hc T Vn ix hi hg ht he hsw hB hk hcell hnames hfr hs) fun Dn σ H h => by
  obtain ⟨G, ow, δ, o, R, hf, q⟩ := h
  unfold sSetl at hf
  by_cases hl : i < δ.length
  · rw [if_pos hl] at hf
    obtain ⟨d, e1, e2⟩ := bind1 hf
    cases e2
    exact comp_bridge (fl := fl) hfl htg ⟨G, ow, δ, d, R, e1, fun v H' s r => q ow _ H' ((R.grow s).setA hfx (slot_lt R hl) ((r.FC_F R).F_A R))⟩
  · rw [if_neg hl] at hf
    cases hf
theorem new_F {K : PySem.W.Frag} {G : Gh} {ow : Ow} {H H1 : Hp} {p : Addr} {vs : List V} {l : List D} (s : Same H H1) (hp : H1 p = none) (r : RAs K (okA ow) true H1 vs l) : Rs K G.H0 ow H (upd H1 p (.lst vs)) .F (.ref p) (.list l) :=
  .inr ⟨p, vs, l, rfl, rfl, s.free hp, upd_same, (r.track.imp (fun b w => ⟨w.1, fun e => w.2 (e ▸ hp)⟩) (fun z => z)).same (same_new hp _)⟩
theorem B_list {K : PySem.W.Frag} {H0 : Hp} {ow : Ow} {Hb H : Hp} {L : List Nat} {v : V} {l : List D} (r : Rs K H0 ow Hb H (.B L) v (.list l)) : ∃ a xs, v = .ref a ∧ SqL K H a xs ∧ RAs K (okA ow) true H xs l := by
  rcases r with r | ⟨i, hi, a, xs, ds, ho, rfl, e, hx, hr⟩
  · exact r.lstE
  · cases e
    exact ⟨a, xs, rfl, SqL.of hx, hr⟩
def rCatS (K : PySem.W.Frag) : R2 := fun x y H Q => ∃ l b xs zs, x = .ref l ∧ y = .ref b ∧ SqL K H l xs ∧ SqL K H b zs ∧ xs.length + zs.length ≤ sizeLine ∧ ∀ p, H p = none → Q (.ref p) (upd H p (.lst (xs ++ zs)))
theorem op_catS : OpR X (binaryOp .Add) (rCatS X.K) := by
  intro pins s σ H x y v u Q I rx ry h
  obtain ⟨l, b, xs, zs, rfl, rfl, hH, hB, hz, q⟩ := h
  cases rx
  cases ry
  obtain ⟨its, r, p, _⟩ := I.list hH
  obtain ⟨its2, r2, p2, _⟩ := I.list hB
  obtain ⟨⟨cls, dd, data, sl⟩, ho, hc, n, hd⟩ := p.isList
  obtain ⟨⟨cls2, dd2, data2, sl2⟩, ho2, hc2, n2, hd2⟩ := p2.isList
  simp only at hc hd hc2 hd2
  subst hc hd hc2 hd2
  have e1 := r.length
  have e2 := r2.length
  have e : its.toArray ++ its2.toArray = (its ++ its2).toArray := by simp
  refine concat_meets ⟨_, ho, rfl⟩ ⟨_, ho2, rfl⟩ noFill_list_add seq_list_add PySem.F.slot_list_add PySem.F.entry_list_add (PySem.F.args_list_add_2 _ _) (list_addW l b its.toArray its2.toArray n n2 dd dd2 sl sl2 (by simp; omega)) ⟨ho, ho2, ?_⟩
  rw [e]
  exact ⟨.ref _, _, I.lnew (t' := s.toks) (r.append r2) (by rw [List.length_append]; omega), rfl, q _ I.fresh⟩
theorem de_cat {L L' : List Nat} (h1 : DE X fl (.B L) a fa) (h2 : DE X fl (.B L') b fb) : DE X fl .F (.BinOp a .Add b pos) (dOp gCat fa fb) := PE.imp (pe_op op_catS h1 h2) fun σ H Q h => by
  obtain ⟨G, ow, δ, d, R, hf, q⟩ := h
  obtain ⟨x, y, e1, e2, e3⟩ := bind2 hf
  refine ⟨G, ow, δ, x, R, e1, fun v H1 s1 r1 => ⟨G, ow, δ, y, R.grow s1, e2, fun u H2 s2 r2 => ?_⟩⟩
  unfold gCat at e3
  split at e3
  · next l m =>
    by_cases z : l.length + m.length ≤ 1000000
    · rw [if_pos z] at e3
      cases e3
      obtain ⟨p, xs, rfl, hx, hr⟩ := B_list r1
      obtain ⟨p', ys, rfl, hy, hr'⟩ := B_list r2
      refine ⟨p, p', xs, ys, rfl, rfl, s2.seq hx, hy, ?_, fun pn hp => q _ _ ((s1.trans s2).trans (same_new hp _)) (new_F (G := G) (s1.trans s2) hp ((hr.same s2).append hr'))⟩
      rw [hr.length, hr'.length]
      exact Nat.le_trans z (by decide)
    · rw [if_neg z] at e3
      cases e3
  · cases e3
theorem RAs.rep {K : PySem.W.Frag} {ok : Ok} {pl : Bool} {H : Hp} {vs : List V} {l : List D} (r : RAs K ok pl H vs l) : ∀ n : Nat, RAs K ok pl H (List.replicate n vs).flatten (List.replicate n l).flatten
  | 0 => .nil
  | n + 1 => by
    rw [List.replicate_succ, List.replicate_succ, List.flatten_cons, List.flatten_cons]
    exact r.append (RAs.rep r n)
theorem de_rep (h1 : DE X fl .F a fa) (h2 : DE X fl .P b fb) : DE X fl .F (.BinOp a .Mult b pos) (dOp gRep fa fb) := PE.imp (pe_op op_rep h1 h2) fun σ H Q h => by
  obtain ⟨G, ow, δ, d, R, hf, q⟩ := h
  obtain ⟨x, y, e1, e2, e3⟩ := bind2 hf
  refine ⟨G, ow, δ, x, R, e1, fun v H1 s1 r1 => ⟨G, ow, δ, y, R.grow s1, e2, fun u H2 s2 r2 => ?_⟩⟩
  unfold gRep at e3
  split at e3
  · next l k =>
    by_cases z : l.length * k.toNat ≤ 1000000 ∧ -(2 ^ 63) ≤ k ∧ k < 2 ^ 63
    · rw [if_pos z] at e3
      cases e3
      obtain rfl := RA.intE r2
      rcases r1 with ⟨hz, _⟩ | ⟨p, xs, ds, rfl, ez, h3, h4, h5⟩
      · simp [flat] at hz
      · cases ez
        refine ⟨p, k, xs, rfl, rfl, s2 _ _ h4, z.2.1, z.2.2, ?_, fun pn hp => q _ _ ((s1.trans s2).trans (same_new hp _)) (new_F (G := G) (s1.trans s2) hp (((h5.imp (fun b w => w.1) (fun z => z)).same s2).rep _))⟩
        rw [h5.length]
        exact Nat.le_trans z.1 (by decide)
    · rw [if_neg z] at e3
      cases e3
  · cases e3
theorem de_list {L : List Nat} {p : Pos} (h : DE X fl (.B L) a f) (hg : Gl X "list") (hm : X.mg "list" = none)
    (he : starEach [a] X.env = (false, eval a X.env) :: starEach [] X.env := by rfl) (hpl : (backTo pos (starEach [] X.env)).any (·.1) = false := by rfl) : DE X fl .F (.Call (.Name "list" p) [a] [] pos) (dUn gList f) :=
  PE.imp (pe_callTy call_list_of hg hm boot_list (pa_cons h pa_nil he) (by decide) (by decide) he hpl) fun σ H Q h => by
  obtain ⟨G, ow, δ, d, R, hf, q⟩ := h
  obtain ⟨x, e1, e2⟩ := bind1 hf
  refine ⟨G, ow, δ, x, R, e1, fun v H1 s1 r1 => ?_⟩
  unfold gList at e2
  split at e2
  · cases e2
    obtain ⟨p, xs, rfl, hx, hr⟩ := B_list r1
    exact ⟨p, xs, rfl, .inl hx, fun pn hp => q _ _ (s1.trans (same_new hp _)) (new_F (G := G) s1 hp hr)⟩
  · cases e2
    rcases r1 with r1 | ⟨i, hi, a, xs, ds, ho, rfl, e, hx, hr⟩
    · obtain ⟨p, xs, rfl, hx, hr⟩ := r1.tupE
      exact ⟨p, xs, rfl, .inr hx, fun pn hp => q _ _ (s1.trans (same_new hp _)) (new_F (G := G) s1 hp hr)⟩
    · cases e
  · cases e2
def tDO (K : PySem.W.Frag) (fl : List Fl) (f : FO) : TO := fun σ H Q => ∃ G ow δ o, Rel K fl G ow σ H δ ∧ f δ = some o ∧ ∀ H', Same H H' → Q o H'
theorem PO.imp {o : Option Expr} {t t' : TO} (h : PO X o t) (i : ∀ σ H Q, t' σ H Q → t σ H Q) : PO X o t' := fun pins s σ H Q I q => h pins s σ H Q I (i σ H Q q)
theorem do_none : PO X none (tDO X.K fl oNone) := PO.imp po_none fun σ H Q h => by
  obtain ⟨G, ow, δ, o, R, hf, q⟩ := h
  cases hf
  exact q H (Same.refl H)
theorem do_part (h : DE X fl .P e f) : PO X (some e) (tDO X.K fl (oPart f)) := PO.imp (po_some h) fun σ H Q h => by
  obtain ⟨G, ow, δ, o, R, hf, q⟩ := h
  obtain ⟨d, e1, e2⟩ := bind1 hf
  split at e2
  · cases e2
    refine ⟨G, ow, δ, _, R, e1, fun v H1 s1 r1 => ?_⟩
    obtain rfl := RA.intE r1
    exact ⟨_, rfl, q H1 s1⟩
  · cases e2
theorem sIx_eq (n d : Nat) (o : Option Int) : HT.sIx n d o = pSx n d o := by
  cases o <;> rfl
theorem RAs.cut {K : PySem.W.Frag} {ok : Ok} {pl : Bool} {H : Hp} {vs : List V} {l : List D} (r : RAs K ok pl H vs l) (lo hi : Option Int) : RAs K ok pl H (cutV vs lo hi) (cutD l lo hi) := by
  unfold cutV cutD
  rw [r.length, sIx_eq, sIx_eq]
  exact (r.drop _).take _
theorem de_sl {L : List Nat} {lo hi : Option Expr} {p2 : Pos} {fl1 fh : FO} (h : DE X fl (.B L) a f) (h1 : PO X lo (tDO X.K fl fl1)) (h2 : PO X hi (tDO X.K fl fh)) : DE X fl .F (.Subscript a (.Slice lo hi none p2) pos) (dSl f fl1 fh) := PE.imp (pe_slice sl_list h h1 h2) fun σ H Q h => by
  obtain ⟨G, ow, δ, d, R, hf, q⟩ := h
  obtain ⟨x, e1, hf⟩ := bind1 hf
  obtain ⟨o1, e2, hf⟩ := bind1 hf
  obtain ⟨o2, e3, e4⟩ := bind1 hf
  refine ⟨G, ow, δ, x, R, e1, fun v H1 s1 r1 => ⟨G, ow, δ, o1, R.grow s1, e2, fun H2 s2 => ⟨G, ow, δ, o2, R.grow (s1.trans s2), e3, fun H3 s3 => ?_⟩⟩⟩
  split at e4
  · cases e4
    obtain ⟨p, xs, rfl, hx, hr⟩ := B_list r1
    have s13 := s2.trans s3
    exact ⟨p, xs, rfl, s13.seq hx, fun pn hp => q _ _ ((s1.trans s13).trans (same_new hp _)) (new_F (G := G) (s1.trans s13) hp ((hr.same s13).cut o1 o2))⟩
  · cases e4
theorem ds_never {st : Stmt} : DS1 X fl st (fun _ => none) := PS.imp ps_never fun Dn σ H h => by
  obtain ⟨G, ow, δ, o, R, hf, q⟩ := h
  cases hf
theorem ds_par {i j : Nat} {x y : Str} {px py pt pv : Pos} {x1 x2} {fa : FA} (hc : X.calm = true) (hfi : fl[i]? = some .A) (hfj : fl[j]? = some .A) (hN : X.N.Nodup) (hi : X.N[i]? = some x) (hj : X.N[j]? = some y) (hij : i ≠ j)
    (hps : PS X (.Assign [.Tuple [.Name x px, .Name y py] x1 pt] (.Tuple es x2 pv) pos) (tPar i j (tDB X.K fl .A fa))) : DS1 X fl (.Assign [.Tuple [.Name x px, .Name y py] x1 pt] (.Tuple es x2 pv) pos) (sPar i j fa) := PS.imp hps fun Dn σ H h => by
  obtain ⟨G, ow, δ, o, R, hf, q⟩ := h
  obtain ⟨ds, e1, e2⟩ := bind1 hf
  refine ⟨G, ow, δ, ds, R, e1, fun vs H1 s1 r1 => ?_⟩
  split at e2
  · next d1 d2 =>
    by_cases z : i < δ.length ∧ j < δ.length
    · rw [if_pos z] at e2
      cases e2
      cases r1 with
      | cons ra rb =>
        cases rb with
        | cons rb rc =>
          cases rc
          have R1 := (R.grow s1).setA hfi (slot_lt R z.1) ra
          exact ⟨_, _, rfl, q ow _ H1 (R1.setA hfj (by rw [List.length_set]; exact slot_lt R z.2) rb)⟩
    · rw [if_neg z] at e2
      cases e2
  · cases e2
end
end D3
namespace D3
open PySem PySem.Spec PyProof.Rows L2 My
section
variable {X : Cx} {pins : List (Addr × Obj)} {σ : St} {H : Hp} {s : Shared} {h' : Heap}
theorem Inv.turnedL {t' : Nat} {ch : List Addr} (I : Inv X pins σ H s) (k : ∀ b o, b ∉ ch → s.heap.get? b = some o → h'.get? b = some o) (hf : ∀ b ∈ ch, FpOk X pins H b) : Inv X pins σ H { s with heap := h', toks := t' } := by
  have nit : ∀ b u, H b = some u → b ∉ ch := fun b u e z => by rw [(hf b z).1] at e; cases e
  refine I.step (g' := s.gens) (d' := s.drawn) (ch := ch) (fun b hb => ?_) (fun b o _ _ hc e _ => k b o hc e) (fun b o _ _ hc e _ => ⟨o.slots, k b o hc e⟩) (fun _ _ _ _ n => n)
    (fun b o hc e => ⟨o, k b o hc e⟩) (fun _ _ e => e) (fun _ _ _ e => e) (fun b ps e => ⟨#[], by rw [e]; simp⟩) (fun m hm => ?_) (fun b u e => ?_) I.bare
  · obtain ⟨f0, f1, f2, f3, f4, f5⟩ := hf b hb
    exact ⟨f3, f1, f4, f5⟩
  · obtain ⟨o, es, ep, ho, r⟩ := hm
    exact ⟨o, es, ep, k _ o (fun z => (hf _ z).2.1 rfl) ho, r⟩
  · refine (I.hok b u e).stay (fun c v hc q => k c v ?_ q) (fun _ q => q) fun _ _ q => q
    rcases hc with z | z
    · rw [z]; exact nit b u e
    · exact nit c _ z
end
def Ite (K : PySem.W.Frag) (a : Addr) : It :=
  ⟨fun i H => ∃ xs x, SqL K H a xs ∧ xs[i]? = some x, fun i H x H' => ∃ p y, H p = none ∧ H' = upd H p (.tup [.int i, y]) ∧ x = .ref p ∧ ∀ xs, SqL K H a xs → xs[i]? = some y, fun i H => ∃ xs, SqL K H a xs ∧ xs.length ≤ i⟩
theorem turn_enum {P : Program} {w : World} {K : PySem.W.Frag} {elts : List Expr} {x1} {tpos : Pos} (a it : Addr) :
    Turn P w K (.Tuple elts x1 tpos) (Ite K a) [it + 1, it] (it + 1) (fun i h => ∃ old, IsEnum h (it + 1) it (i : Int) old ∧ h.IsListIter it a i) where
  mem := by simp
  obj := fun i h st b hb => by
    obtain ⟨old, he, o, e, c, d⟩ := st
    rcases List.mem_cons.mp hb with z | z
    · subst z
      exact ⟨_, he, fun v z => by cases z⟩
    · have z : b = it := by simpa using z
      subst z
      exact ⟨o, e, fun v z => by rw [d] at z; cases z⟩
  keep := fun i h h' st k => by
    obtain ⟨old, he, hi⟩ := st
    exact ⟨old, k _ (by simp) _ he, hi.at fun o e => k it (by simp) o e⟩
  item := by
    intro X hP hw hK hc i pins s σ H E I hf st hg
    subst hP hw hK
    obtain ⟨xs, x, hq, hx⟩ := hg
    obtain ⟨its, rv, p, hz⟩ := I.list hq
    obtain ⟨u, hu, ru⟩ := rv.get hx
    obtain ⟨old, he, hi⟩ := st
    have fe := hf (it + 1) (by simp)
    have fi := hf it (by simp)
    have hlt : it + 1 < s.heap.objs.size := Heap.lt_size he
    refine wpAny_pyNext_enum_item he hi p.isList (x := u) (by simpa using hu) (Nat.succ_ne_self it) fun h1 ho hi1 ht hsz hk => ?_
    refine ⟨_, rfl, wpAny_letOwnedTupleGo_enum ho fun h2 he2 hs2 => ?_⟩
    replace hs2 : Heap.SameBut (it + 1) h1 h2 := hs2
    have hn : H s.heap.objs.size = none := I.hok.fresh (Nat.le_refl _)
    have I0 : Inv X pins σ (upd H s.heap.objs.size (.tup [.int (i : Int), x])) { s with heap := s.heap.push { cls := .type "tuple", data := .seq #[.int (i : Int) s.toks, u] } } :=
      I.laid (t' := s.toks) (fun b o e => Heap.get?_push_of_some _ e) (Nat.le_refl _) ⟨show 2 ≤ sizeLine by decide, [.int (i : Int) s.toks, u], .cons ⟨_, rfl⟩ (.cons ru .nil), ⟨_, Heap.get?_push_size _ rfl, rfl, _, rfl⟩⟩
    have ne : ∀ b, b ∈ [it + 1, it] → b ≠ s.heap.objs.size := fun b hb => by
      rcases List.mem_cons.mp hb with w' | w'
      · rw [w']; exact Nat.ne_of_lt hlt
      · rw [show b = it by simpa using w']; exact Nat.ne_of_lt (Nat.lt_of_succ_lt hlt)
    have I1 : Inv X pins σ (upd H s.heap.objs.size (.tup [.int (i : Int), x])) { s with heap := h2, toks := s.toks + 1 } := by
      refine Inv.turnedL (s := { s with heap := s.heap.push { cls := .type "tuple", data := .seq #[.int (i : Int) s.toks, u] } }) (ch := [it + 1, it]) I0 (fun b o hb e => ?_) fun b hb => ⟨by rw [upd_ne (ne b hb)]; exact (hf b hb).1, (hf b hb).2⟩
      have b1 : b ≠ it + 1 := fun z => hb (by simp [z])
      have b2 : b ≠ it := fun z => hb (by simp [z])
      rcases Heap.get?_push_cases e with ⟨e1, e2⟩ | e1
      · subst e1 e2
        exact (hs2.2 _ b1).trans ht
      · exact (hs2.2 _ b1).trans (hk b o b1 b2 e1)
    refine ⟨.ref s.heap.objs.size, _, I1, rfl, ⟨_, x, hn, rfl, rfl, fun ys hy => by rw [I.list_inj hy hq]; exact hx⟩, ⟨_, he2, hi1.at fun o e => (hs2.2 _ (Nat.ne_of_lt (Nat.lt_succ_self it))).trans e⟩, fun b hb => ?_⟩
    rw [upd_ne (ne b hb)]
    exact (hf b hb).1
  done := by
    intro X hP hw hK hc i pins s σ H E I hf st hg
    subst hP hw hK
    obtain ⟨xs, hq, hx⟩ := hg
    obtain ⟨its, rv, p, hz⟩ := I.list hq
    obtain ⟨old, he, hi⟩ := st
    have hl := rv.length
    refine wpAny_pyNext_enum_end (I.ok.hd hc) he hi p.isList (by simp; omega) fun h' eb => ⟨rfl, Inv.turnedL (t' := s.toks) (ch := [it + 1, it]) I (fun b o hb e => eb b o (fun z => hb (by simp [z])) e) hf⟩
  self := fun _ _ _ _ _ st h => by
    obtain ⟨old, he, _⟩ := st
    exact wpAny_pyIter_enum he h
section
variable {X : Cx} {fl : List Fl} {a : Expr} {f : FE} {pos : Pos}
def iEnum (K : PySem.W.Frag) (tl : TE) : TI := fun σ H R => tl σ H fun x H1 => ∃ a, x = .ref a ∧ (∃ xs, SqL K H1 a xs) ∧ R (Ite K a) H1
theorem pi_enum {elts : List Expr} {x1} {tpos p : Pos} {tl : TE} (hg : Gl X "enumerate") (hm : X.mg "enumerate" = none) (hl : PE X a tl) (he : starEach [a] X.env = (false, eval a X.env) :: starEach [] X.env := by rfl)
    (hpl : (backTo pos (starEach [] X.env)).any (·.1) = false := by rfl) : PI X (.Tuple elts x1 tpos) (.Call (.Name "enumerate" p) [a] [] pos) (iEnum X.K tl) := by
  intro pins s σ H R I h
  refine wpAny_Call_Name_kw (ld_blt I hg hm boot_enumerate (PyProof.Rows.callWith_type1 (thn ((pa_cons hl pa_nil he) pos pins s σ H (fun vs H1 => match vs with | [x] => ∃ a, x = .ref a ∧ (∃ xs, SqL X.K H1 a xs) ∧ R (Ite X.K a) H1 | _ => False) I h) fun us s1 ⟨vs, H1, I1, r1, q1⟩ => ?_) he hpl))
  cases r1 with
  | nil => exact q1.elim
  | cons r rr =>
    cases rr with
    | cons _ _ => exact q1.elim
    | nil =>
    obtain ⟨l, e, ⟨xs, hq⟩, q⟩ := q1
    subst e
    cases r
    obtain ⟨its, rv, pl, hz⟩ := I1.list hq
    refine call_enumerate_list pl.isList fun h' he' hi' hsz hk => ?_
    have I2 : Inv X pins σ H1 { s1 with heap := h' } := I1.kept (t' := s1.toks) hk
    refine wpAny_pyIter_enum (s := { s1 with heap := h' }) he' ?_
    refine ⟨s1.heap.objs.size + 1, [s1.heap.objs.size + 1, s1.heap.objs.size], _, _, H1, rfl, I2, turn_enum l s1.heap.objs.size, ⟨_, he', hi'⟩, fun b hb => ?_, q⟩
    have hb' : s1.heap.objs.size ≤ b := by
      rcases List.mem_cons.mp hb with z | z
      · rw [z]; exact Nat.le_succ _
      · rw [show b = s1.heap.objs.size by simpa using z]; exact Nat.le_refl _
    exact I1.fpOk hb' (I1.hok.fresh hb')
theorem di_enum {elts : List Expr} {x1} {tpos p : Pos} {L : List Nat} (h : DE X fl (.B L) a f) (hg : Gl X "enumerate") (hm : X.mg "enumerate" = none) (he : starEach [a] X.env = (false, eval a X.env) :: starEach [] X.env := by rfl)
    (hpl : (backTo pos (starEach [] X.env)).any (·.1) = false := by rfl) : DI X fl L (.Tuple elts x1 tpos) (.Call (.Name "enumerate" p) [a] [] pos) (fEnum f) := PI.imp (pi_enum hg hm h he hpl) fun σ H R' h => by
  obtain ⟨G, ow, δ, l, R, hf, q⟩ := h
  obtain ⟨d, e1, e2⟩ := bind1 hf
  cases d <;> first | (cases e2; done) | skip
  next l0 =>
  cases e2
  refine ⟨G, ow, δ, _, R, e1, fun v H1 s r => ?_⟩
  obtain ⟨a, xs, rfl, hx, keep⟩ := walk_B (R.grow s) r
  refine ⟨a, rfl, ⟨xs, hx⟩, q _ _ s fun H2 k2 i => ?_⟩
  obtain ⟨k3, k4⟩ := keep H2 k2
  refine ⟨fun d hd => ?_, fun hl => ⟨xs, k3, by rw [k4.length]; simpa [enumD] using hl⟩⟩
  have hd' : (l0[i]?).map (fun x => PyData.tuple [.int (i : Int), x]) = some d := by
    have := hd
    unfold enumD at this
    rw [List.getElem?_mapIdx] at this
    exact this
  cases e : l0[i]? with
  | none => rw [e] at hd'; cases hd'
  | some x0 =>
    rw [e] at hd'
    cases hd'
    obtain ⟨y, hy, ry⟩ := k4.get e
    refine ⟨⟨xs, y, k3, hy⟩, fun x H3 hyl => ?_⟩
    obtain ⟨p, y', hp, rfl, rfl, hz⟩ := hyl
    have : some y = some y' := hy.symm.trans (hz xs k3)
    cases this
    have g := same_new hp (.tup [.int (i : Int), y])
    exact ⟨g, .tup (SqT.of upd_same) (.cons (.int _) (.cons (ry.same g) .nil))⟩
end
structure Bl (mg : Str → Option Value) : Prop where
  len_ : mg "len" = none
  range_ : mg "range" = none
  abs_ : mg "abs" = none
  isinstance_ : mg "isinstance" = none
  int_ : mg "int" = none
  bool_ : mg "bool" = none
  tuple_ : mg "tuple" = none
  list_ : mg "list" = none
  str_ : mg "str" = none
  max_ : mg "max" = none
  min_ : mg "min" = none
  sorted_ : mg "sorted" = none
  sum_ : mg "sum" = none
  reversed_ : mg "reversed" = none
  enumerate_ : mg "enumerate" = none
  zip_ : mg "zip" = none
  set_ : mg "set" = none
  any_ : mg "any" = none
  all_ : mg "all" = none
  dict_ : mg "dict" = none
end D3
namespace D3
open PySem PySem.Spec PyProof.Rows L2 My
structure FunD (K : PySem.W.Frag) (x : Str) (st : Stmt) (f : Addr) (fd : FuncData) : Prop where
  ex : ∃ (oc : Value) (od : Option Addr) (dV kV doc pm : Value) (an : Option Addr) (cdv ct : Value) (osl : Array (Option Value)),
    fd = PySem.W.fnOf x x (defArgs st) (defBody st) (defScope st) dV kV doc pm an cdv ct ∧ K.lookup f = some ⟨oc, od, .func fd, osl⟩ ∧ PySem.W.codeIn K cdv x = true
  kp : PySem.W.keepIn K (.ref f) = true
structure Dg (K : PySem.W.Frag) (mg : Str → Option Value) (x : Str) (st : Stmt) (ps : List Str) : Prop where
  ex : ∃ (f : Addr) (fd : FuncData), FunD K x st f fd ∧ Binds K fd ps [] ∧ mg x = some (.ref f)
theorem dg_mkD {K : PySem.W.Frag} {h : Heap} {mg : Str → Option Value} {f T : Addr} {oc kV dc pm cd ct : Value} {od an : Option Addr} {sl : Array (Option Value)} {x : Str} {st : Stmt} {ps : List Str} {o : Obj} {items : Array Value} {n : Nat} (X : K.In h) (G : h.Ns mainGlobals mg)
    (hb : ∀ (kV doc pm : Value) (an : Option Addr) (cdv ct : Value) (us : List Value), us.length = ps.length → ∃ k, bindArgs (PySem.W.fnOf x x (defArgs st) (defBody st) (defScope st) (.ref T) kV doc pm an cdv ct) ⟨us, []⟩ = (seqItems? (.ref T) >>= k) ∧ k (some items) = pure (ps.zip us))
    (a : PySem.W.nsIn K mainGlobals x = some (some (.ref f))) (l : K.lookup f = some ⟨oc, od, .func (PySem.W.fnOf x x (defArgs st) (defBody st) (defScope st) (.ref T) kV dc pm an cd ct), sl⟩) (c : PySem.W.codeIn K cd x = true) (k : PySem.W.keepIn K (.ref f) = true)
    (hT : K.lookup T = some o) (hs : o.data = .seq items n) : Dg K mg x st ps :=
  ⟨_, _, ⟨⟨oc, od, .ref T, kV, dc, pm, an, cd, ct, sl, rfl, l, c⟩, k⟩, fun s us KX hl => by
    rw [List.append_nil] at hl ⊢
    obtain ⟨k, h1, h2⟩ := hb kV dc pm an cd ct us hl
    exact BindsTo.of_defaults (T := T) rfl (KX T o hT) hs h1 h2, PySem.W.mg_of X G a⟩
theorem dg_mk {K : PySem.W.Frag} {h : Heap} {mg : Str → Option Value} {f : Addr} {oc kV dc pm cd ct : Value} {od an : Option Addr} {sl : Array (Option Value)} {x : Str} {st : Stmt} {ps : List Str} (X : K.In h) (G : h.Ns mainGlobals mg)
    (hb : ∀ (kV doc pm : Value) (an : Option Addr) (cdv ct : Value) (us : List Value), us.length = ps.length → bindArgs (PySem.W.fnOf x x (defArgs st) (defBody st) (defScope st) .none kV doc pm an cdv ct) ⟨us, []⟩ = pure (ps.zip us))
    (a : PySem.W.nsIn K mainGlobals x = some (some (.ref f))) (l : K.lookup f = some ⟨oc, od, .func (PySem.W.fnOf x x (defArgs st) (defBody st) (defScope st) .none kV dc pm an cd ct), sl⟩) (c : PySem.W.codeIn K cd x = true) (k : PySem.W.keepIn K (.ref f) = true) : Dg K mg x st ps :=
  ⟨_, _, ⟨⟨oc, od, .none, kV, dc, pm, an, cd, ct, sl, rfl, l, c⟩, k⟩, .all (hb kV dc pm an cd ct), PySem.W.mg_of X G a⟩
structure Dl (K : PySem.W.Frag) (mg : Str → Option Value) (x y : Str) (st : Stmt) : Prop where
  ex : ∃ (f : Addr) (fd : FuncData), FunD K x st f fd ∧ (∀ (s : Shared) (u : Value), BindsTo s fd ⟨[u], []⟩ [(y, u)]) ∧ mg x = some (.ref f)
theorem dl_mk {K : PySem.W.Frag} {h : Heap} {mg : Str → Option Value} {f : Addr} {oc kV dc pm cd ct : Value} {od an : Option Addr} {sl : Array (Option Value)} {x y : Str} {st : Stmt} (X : K.In h) (G : h.Ns mainGlobals mg)
    (hb : ∀ (kV doc pm : Value) (an : Option Addr) (cdv ct : Value) (u : Value), bindArgs (PySem.W.fnOf x x (defArgs st) (defBody st) (defScope st) .none kV doc pm an cdv ct) ⟨[u], []⟩ = pure [(y, u)])
    (a : PySem.W.nsIn K mainGlobals x = some (some (.ref f))) (l : K.lookup f = some ⟨oc, od, .func (PySem.W.fnOf x x (defArgs st) (defBody st) (defScope st) .none kV dc pm an cd ct), sl⟩) (c : PySem.W.codeIn K cd x = true) (k : PySem.W.keepIn K (.ref f) = true) : Dl K mg x y st :=
  ⟨_, _, ⟨⟨oc, od, .none, kV, dc, pm, an, cd, ct, sl, rfl, l, c⟩, k⟩, fun s u => .of_eq (hb kV dc pm an cd ct u), PySem.W.mg_of X G a⟩
section
variable {P : Program} {w : World} {K : PySem.W.Frag} {mg : Str → Option Value} {base : Heap} {x : Str} {ps N : List Str} {st : Stmt} {k n : Nat} {fs : FS} {fl : List Fl}
theorem FunD.ok {f : Addr} {fd : FuncData} {sp : Sp} (F : FunD K x st f fd) (S : FnScope N ps (defScope st)) (len : ∀ vs H Q E, sp vs H Q E → vs.length = ps.length)
    (hbody : ∀ (cdv : Value) (A : Around) (outer : List Env) (s : Shared) (H : Hp) (vs : List V) (Q : VK) (E : XK), Room k (A.deeper (envOfC x (defScope st) s.heap.objs.size f cdv)) → sp vs H Q E →
      ∃ t, PSs (cxOf CX0 P w K mg base N x (defScope st) f cdv A outer s H E).nox (defBody st) t ∧ t { nx := fun _ H' => Q .non H', rt := Q } (L2.start N vs) H) : FnOk P w K mg base CX0 (k + 1) f fd ps sp := by
  obtain ⟨oc, od, dV, kV, doc, pm, an, cdv, ct, osl, rfl, lk, hcd⟩ := F.ex
  refine fn_of lk hcd S len fun A outer s H vs Q E hr hsp => ?_
  obtain ⟨t, h, q⟩ := hbody cdv A outer s H vs Q E hr hsp
  exact ⟨t, h.nox, q⟩
theorem fun_ok {f : Addr} {fd : FuncData} (Fn : FunD K x st f fd) (S : FnScope N ps (defScope st)) (hp : ∀ i, i < ps.length → fl[i]? = some .A) (hN : ps.length ≤ N.length)
    (hbody : ∀ (f : Addr) (cdv : Value) (A : Around) (outer : List Env) (s : Shared) (H : Hp) (E : XK), Room k (A.deeper (envOfC x (defScope st) s.heap.objs.size f cdv)) → DSs (cx P w K mg base N x st f cdv A outer s H E) fl (defBody st) fs) :
    FnOk P w K mg base CX0 (k + 1) f fd ps (spD K (fnD ps.length (N.length - ps.length) fs)) := by
  refine Fn.ok S (fun vs H Q E h => ?_) (fun cdv A outer s H vs Q E hr h => ?_)
  · obtain ⟨ds, d, r, hf, _⟩ := h
    unfold fnD at hf
    by_cases z : ds.length = ps.length
    · rw [r.length]; exact z
    · rw [if_neg z] at hf; cases hf
  · obtain ⟨ds, d, r, hf, q⟩ := h
    refine ⟨_, hbody f cdv A outer s H E hr, ?_⟩
    unfold fnD at hf
    by_cases z : ds.length = ps.length
    · rw [if_pos z] at hf
      split at hf
      · next d' e =>
        cases hf
        exact ⟨_, _, _, _, rel_start ps.length hp z hN r, e, fun v H' s r => q v H' s r⟩
      · next δ' e =>
        cases hf
        exact ⟨_, _, _, _, rel_start ps.length hp z hN r, e, fun ow' σ' H' R' => q .non H' R'.same0 .non⟩
      · cases hf
    · rw [if_neg z] at hf; cases hf
theorem dg_ok (Dd : Dg K mg x st ps) (S : FnScope N ps (defScope st)) (hp : ∀ i, i < ps.length → fl[i]? = some .A) (hN : ps.length ≤ N.length)
    (hbody : ∀ (f : Addr) (cdv : Value) (A : Around) (outer : List Env) (s : Shared) (H : Hp) (E : XK), Room k (A.deeper (envOfC x (defScope st) s.heap.objs.size f cdv)) → DSs (cx P w K mg base N x st f cdv A outer s H E) fl (defBody st) fs) :
    Has P w K mg base (k + 1) x ps (spD K (fnD ps.length (N.length - ps.length) fs)) := by
  obtain ⟨f, fd, Fn, b, m⟩ := Dd.ex
  exact ⟨f, fd, fun_ok Fn S hp hN hbody, b, Fn.kp, m⟩
end
def spLaw (K : PySem.W.Frag) : Sp := fun vs H Q _ => ∃ (a : Addr) (ns : List Int), vs = [.ref a] ∧ SqL K H a (ns.map V.int) ∧ ns.length ≤ 63 ∧ ∀ H', Q (.bl true) H'
theorem ra_ints {K : PySem.W.Frag} {ok : Ok} {pl : Bool} {H : Hp} : ∀ ns : List Int, RAs K ok pl H (ns.map V.int) (ns.map PyData.int)
  | [] => .nil
  | n :: r => .cons (.int n) (ra_ints r)
theorem law_imp {K : PySem.W.Frag} {F : List D → Option D} (hF : ∀ ns : List Int, ns.length ≤ 63 → F [.list (ns.map .int)] = some (.bool true)) (vs : List V) (H : Hp) (Q : VK) (E : XK) (h : spLaw K vs H Q E) : spD K F vs H Q E := by
  obtain ⟨a, ns, rfl, hS, hl, q⟩ := h
  refine ⟨_, _, .cons ?_ .nil, hF ns hl, fun v H' s r => ?_⟩
  · rcases hS with (h | ⟨o, h⟩) | h
    · exact .lst h trivial (ra_ints ns)
    · exact .lsk (.inl ⟨o, h⟩) rfl (ra_ints ns)
    · exact .lsk (.inr h) rfl (ra_ints ns)
  · obtain rfl := r.blE
    exact q H'
end D3
namespace D3
open PySem PySem.Spec PyProof.Rows L2 My
section
variable {prog : Program} {w : World} {A : Around} {E : Value → Shared → Prop} {s : Shared}
end
section
variable {X : Cx} {fl : List Fl} {a : Expr} {f : FE} {pos p p2 pos2 : Pos}
end
section
variable {X : Cx} {fl : List Fl} {a b : Expr} {pos p p2 pos2 : Pos} {fa : FA}
end
end D3
namespace D3
open PySem PySem.Spec PyProof.Rows L2 My
section
variable {X : Cx}
theorem ints_are : ∀ {ns : List Int} {its : List Value}, Vals (ns.map V.int) its → IntsAre its ns
  | [], _, .nil => .nil
  | n :: r, _, .cons h t => by
    obtain ⟨k, rfl⟩ := h
    exact .cons _ _ (ints_are t)
theorem call_sumL (hc : X.calm = true) : CallR X (.builtin "sum") (fun xs H Q => ∃ (p : Addr) (ns : List Int), xs = [.ref p] ∧ SqL X.K H p (ns.map V.int) ∧ Q (.int ns.sum) H) := by
  intro pins s σ H xs us Q I r h
  obtain ⟨p, ns, rfl, hx, q⟩ := h
  obtain ⟨u, rfl, rx⟩ := vals1 r
  cases rx
  obtain ⟨its, rvs, pl, hz⟩ := I.list hx
  have hi := ints_are rvs
  obtain ⟨xs, hxs⟩ := hi.allInts.items
  have hl : s.heap.IsList p (intItems xs) := hxs ▸ pl.isList
  refine sum_intListG (I.ok.hd hc) hl fun h' tk t' hk => ?_
  have e1 : ns = xs.toList.map (·.1) := by
    rw [← nums_intItems, ← hxs]
    exact (show numsOf its.toArray.toList = ns from hi.numsOf).symm
  have e2 : preSum (numAt xs) xs.size = ns.sum := by
    rw [preSum_eq, List.take_of_length_le (by simp), e1]
  rw [e2]
  exact ⟨.int _, H, I.kept hk, ⟨_, rfl⟩, q⟩
theorem intsD_ra {K : PySem.W.Frag} {ok : Ok} {pl : Bool} {H : Hp} : ∀ {l : List D} {ns : List Int} {ys : List V}, intsD l = some ns → RAs K ok pl H ys l → ys = ns.map V.int
  | [], _, _, e, .nil => by cases e; rfl
  | d :: r, ns, _, e, .cons h t => by
    cases d <;> first | (cases e; done) | skip
    obtain rfl := h.intE
    cases e2 : intsD r with
    | none => rw [intsD, e2] at e; cases e
    | some m =>
      rw [intsD, e2] at e
      cases e
      rw [intsD_ra e2 t]
      rfl
theorem b_sum {K : PySem.W.Frag} : BrC K (fun xs H Q => ∃ (p : Addr) (ns : List Int), xs = [.ref p] ∧ SqL K H p (ns.map V.int) ∧ Q (.int ns.sum) H) gSum := by
  intro H xs ds d Q r e q
  unfold gSum at e
  split at e
  · next l =>
    cases e2 : intsD l with
    | none => rw [e2] at e; cases e
    | some ns =>
      rw [e2] at e
      cases e
      cases r with
      | cons r1 r2 =>
        cases r2
        obtain ⟨a, ys, rfl, hx, hr⟩ := r1.lstE
        obtain rfl := intsD_ra e2 hr
        exact ⟨a, ns, rfl, hx, q _ rfl (.int _)⟩
  · cases e
theorem vals_ints : ∀ {ns : List Int} {its : List Value}, IntsAre its ns → Vals (ns.map V.int) its
  | _, _, .nil => .nil
  | _, _, .cons n t r => .cons ⟨t, rfl⟩ (vals_ints r)
end
end D3
namespace D3
open PySem PySem.Spec PyProof.Rows L2 My
def gK (n : Nat) (us ws : List α) : List α := if ws.length = n then us ++ ws else []
structure HasD (P : Program) (w : World) (K : PySem.W.Frag) (mg : Str → Option Value) (base : Heap) (n : Nat) (x : Str) (ps : List Str) (sp : Sp) (dvs : List V) (ks : List Str) : Prop where
  ex : ∃ (f : Addr) (fd : FuncData) (ds : List Value), FnOk P w K mg base CX0 n f fd ps sp ∧ Binds K fd ps ds ∧ Vals dvs ds ∧ KBinds K fd ps ks (gK ks.length) (gK ks.length) ∧ PySem.W.keepIn K (.ref f) = true ∧ mg x = some (.ref f)
structure DgD (K : PySem.W.Frag) (mg : Str → Option Value) (x : Str) (st : Stmt) (ps : List Str) (dvs : List V) (ks : List Str) : Prop where
  ex : ∃ (f : Addr) (fd : FuncData) (ds : List Value), FunD K x st f fd ∧ Binds K fd ps ds ∧ Vals dvs ds ∧ KBinds K fd ps ks (gK ks.length) (gK ks.length) ∧ mg x = some (.ref f)
section
variable {P : Program} {w : World} {K : PySem.W.Frag} {mg : Str → Option Value} {base : Heap} {x : Str} {ps N ks : List Str} {st : Stmt} {k n : Nat} {fs : FS} {fl : List Fl} {dvs : List V}
theorem HasD.mono {sp : Sp} (h : HasD P w K mg base k x ps sp dvs ks) (l : k ≤ n) : HasD P w K mg base n x ps sp dvs ks := by
  obtain ⟨f, fd, ds, F, b, v, kb, kp, m⟩ := h.ex
  exact ⟨f, fd, ds, F.mono l, b, v, kb, kp, m⟩
end
section
variable {X : Cx} {fl : List Fl} {e ke : Expr} {es : List Expr} {pos p kpos : Pos} {x kn : Str} {ps : List Str} {n : Nat} {F : List D → Option D} {fa : FA} {fk : FE} {i : Int} {dvs : List V}
theorem b_int1 {K : PySem.W.Frag} : BrC K (fun xs H Q => (∃ i, xs = [.int i] ∧ Q (.int i) H) ∨ ∃ k, xs = [.bl k] ∧ Q (.int (if k then 1 else 0)) H) gInt := by
  intro H xs ds d Q r e q
  unfold gInt at e
  split at e
  · cases e
    cases r with
    | cons r1 r2 =>
      cases r2
      obtain rfl := r1.intE
      exact .inl ⟨_, rfl, q _ rfl (.int _)⟩
  · cases e
    cases r with
    | cons r1 r2 =>
      cases r2
      obtain rfl := r1.blE
      exact .inr ⟨_, rfl, q _ rfl (.int _)⟩
  · cases e
theorem de_intc {p : Pos} (ha : DB X fl .P [e] fa) (hg : Gl X "int") (hm : X.mg "int" = none)
    (he : starEach [e] X.env = (false, eval e X.env) :: starEach [] X.env := by rfl) (hpl : (backTo pos (starEach [] X.env)).any (·.1) = false := by rfl) : DE X fl .FC (.Call (.Name "int" p) [e] [] pos) (dCall gInt fa) :=
  PE.imp (pe_callTy call_int1 hg hm boot_int ha (by decide) (by decide) he hpl) fun σ H Q h => by
  obtain ⟨G, ow, δ, d, R, hf, q⟩ := h
  obtain ⟨ds, e1, e2⟩ := bind1 hf
  exact ⟨G, ow, δ, ds, R, e1, fun vs H' s r' => b_int1 H' vs ds d Q r' e2 fun v hv rv => q v H' s (.inl ⟨hv, rv⟩)⟩
end
end D3
namespace D3
open PySem PySem.Spec PyProof.Rows L2 My
section
variable {X : Cx}
theorem call_minL (hc : X.calm = true) : CallR X (.builtin "min") (fun xs H Q => ∃ (p : Addr) (i : Int) (r : List Int), xs = [.ref p] ∧ SqL X.K H p ((i :: r).map V.int) ∧ Q (.int (mnI i r)) H) := by
  intro pins s σ H xs us Q I r h
  obtain ⟨p, i, r0, rfl, hx, q⟩ := h
  obtain ⟨u, rfl, rx⟩ := vals1 r
  cases rx
  obtain ⟨its, rvs, pl, hz⟩ := I.list hx
  have hi := ints_are rvs
  obtain ⟨xs, e⟩ := hi.allInts.items
  have hns : i :: r0 = xs.toList.map (·.1) := by rw [← hi.numsOf, ← nums_intItems, ← e]
  have hsz : 0 < xs.size := by
    have h3 : 0 < (i :: r0).length := by simp
    rw [hns, List.length_map, Array.length_toList] at h3; exact h3
  have hl : s.heap.IsList p (intItems xs) := e ▸ pl.isList
  refine min_intList (I.ok.hd hc) hl hsz fun v h' tk hv hk => ?_
  obtain ⟨t, rfl⟩ := intItems_at hv
  obtain ⟨h1, h2⟩ := argBest_lt (numAt xs) (xs.size - 1)
  have m1 : numAt xs (argBest (fun i j => decide (numAt xs i < numAt xs j)) (xs.size - 1)) ∈ i :: r0 := by
    rw [hns, numAt_eq]; exact getD_mem (by rw [List.length_map, Array.length_toList]; omega)
  have m2 : ∀ a ∈ i :: r0, numAt xs (argBest (fun i j => decide (numAt xs i < numAt xs j)) (xs.size - 1)) ≤ a := fun a ha => by
    rw [hns] at ha
    obtain ⟨j, hj, rfl⟩ := mem_getD ha
    rw [List.length_map, Array.length_toList] at hj
    rw [← numAt_eq]; exact h2 j (by omega)
  have sp := mnI_spec r0 i
  have eq : numAt xs (argBest (fun i j => decide (numAt xs i < numAt xs j)) (xs.size - 1)) = mnI i r0 := Int.le_antisymm (m2 _ sp.1) (sp.2 _ m1)
  rw [eq]
  exact ⟨.int _, H, I.kept hk, ⟨_, rfl⟩, q⟩
theorem b_minL {K : PySem.W.Frag} : BrC K (fun xs H Q => ∃ (p : Addr) (i : Int) (r : List Int), xs = [.ref p] ∧ SqL K H p ((i :: r).map V.int) ∧ Q (.int (mnI i r)) H) gMinL := by
  intro H xs ds d Q r e q
  unfold gMinL at e
  split at e
  · next l =>
    split at e
    · next i r0 e2 =>
      cases e
      cases r with
      | cons r1 r2 =>
        cases r2
        obtain ⟨a, ys, rfl, hx, hr⟩ := r1.lstE
        obtain rfl := intsD_ra e2 hr
        exact ⟨a, i, r0, rfl, hx, q _ rfl (.int _)⟩
    · cases e
  · cases e
theorem bools_at : ∀ {bs : List Bool} {its : List Value}, Vals (bs.map V.bl) its → its = bs.map Value.bool
  | [], _, .nil => rfl
  | b :: r, _, .cons h t => by
    cases h
    rw [bools_at t]
    rfl
theorem all_range (bs : List Bool) : (List.range bs.length).all (fun i => bs.getD i false) = bs.all id := by
  rw [Bool.eq_iff_iff, List.all_eq_true, List.all_eq_true]
  constructor
  · intro h b hb
    obtain ⟨i, hi, rfl⟩ := List.getElem_of_mem hb
    have := h i (List.mem_range.mpr hi)
    rw [List.getD_eq_getElem?_getD, List.getElem?_eq_getElem hi] at this
    exact this
  · intro h i hi
    have hi := List.mem_range.mp hi
    rw [List.getD_eq_getElem?_getD, List.getElem?_eq_getElem hi]
    exact h _ (List.getElem_mem hi)
theorem bools_truth {prog : Program} {w : World} {A : Around} (bs : List Bool) : TruthOf prog w A (fun i v => (bs.map Value.bool).toArray[i]? = some v) (fun i => bs.getD i false) := by
  intro i v s Q E hv hQ
  have hv' : (bs.map Value.bool)[i]? = some v := by simpa using hv
  rw [List.getElem?_map] at hv'
  cases e : bs[i]? with
  | none => rw [e] at hv'; cases hv'
  | some b =>
    rw [e] at hv'
    cases hv'
    have eb : bs.getD i false = b := by rw [List.getD_eq_getElem?_getD, e]; rfl
    have hQ' : Q (bs.getD i false) s := hQ
    rw [eb] at hQ'
    exact wpAny_truthy_bool hQ'
theorem call_allL (hc : X.calm = true) : CallR X (.builtin "all") (fun xs H Q => ∃ (p : Addr) (bs : List Bool), xs = [.ref p] ∧ SqL X.K H p (bs.map V.bl) ∧ Q (.bl (bs.all id)) H) := by
  intro pins s σ H xs us Q I r h
  obtain ⟨p, bs, rfl, hx, q⟩ := h
  obtain ⟨u, rfl, rx⟩ := vals1 r
  cases rx
  obtain ⟨its, rvs, pl, hz⟩ := I.list hx
  obtain rfl := bools_at rvs
  have hl : s.heap.IsList p (bs.map Value.bool).toArray := pl.isList
  have hlt : p < s.heap.objs.size := by obtain ⟨_, e, _⟩ := id hl; exact Heap.lt_size e
  refine call_all_walk (wpAny_pyIter_list hl ?_)
  refine ⟨_, _, _, _, _, _, _, rfl, Walks.list (A := X.A.in1) (I.ok.hd hc) _ p (Nat.ne_of_lt hlt) (bs.map Value.bool).toArray, ⟨⟨_, Heap.get?_push_size _ rfl, rfl, rfl⟩, hl.push _⟩, bools_truth bs, fun h' tk hk => ?_⟩
  have e : (bs.map Value.bool).toArray.size = bs.length := by simp
  rw [e, all_range]
  exact ⟨.bl _, H, I.kept (old_kept hk), rfl, q⟩
theorem boolsD_ra {K : PySem.W.Frag} {ok : Ok} {pl : Bool} {H : Hp} : ∀ {l : List D} {bs : List Bool} {ys : List V}, boolsD l = some bs → RAs K ok pl H ys l → ys = bs.map V.bl
  | [], _, _, e, .nil => by cases e; rfl
  | d :: r, bs, _, e, .cons h t => by
    cases d <;> first | (cases e; done) | skip
    obtain rfl := h.blE
    cases e2 : boolsD r with
    | none => rw [boolsD, e2] at e; cases e
    | some m =>
      rw [boolsD, e2] at e
      cases e
      rw [boolsD_ra e2 t]
      rfl
theorem b_all {K : PySem.W.Frag} : BrC K (fun xs H Q => ∃ (p : Addr) (bs : List Bool), xs = [.ref p] ∧ SqL K H p (bs.map V.bl) ∧ Q (.bl (bs.all id)) H) gAll := by
  intro H xs ds d Q r e q
  unfold gAll at e
  split at e
  · next l =>
    cases e2 : boolsD l with
    | none => rw [e2] at e; cases e
    | some bs =>
      rw [e2] at e
      cases e
      cases r with
      | cons r1 r2 =>
        cases r2
        obtain ⟨a, ys, rfl, hx, hr⟩ := r1.lstE
        obtain rfl := boolsD_ra e2 hr
        exact ⟨a, bs, rfl, hx, q _ rfl (.bl _)⟩
  · cases e
theorem b_any {K : PySem.W.Frag} : BrC K (fun xs H Q => ∃ (p : Addr) (bs : List Bool), xs = [.ref p] ∧ SqL K H p (bs.map V.bl) ∧ Q (.bl (bs.any id)) H) gAny := by
  intro H xs ds d Q r e q
  unfold gAny at e
  split at e
  · next l =>
    cases e2 : boolsD l with
    | none => rw [e2] at e; cases e
    | some bs =>
      rw [e2] at e
      cases e
      cases r with
      | cons r1 r2 =>
        cases r2
        obtain ⟨a, ys, rfl, hx, hr⟩ := r1.lstE
        obtain rfl := boolsD_ra e2 hr
        exact ⟨a, bs, rfl, hx, q _ rfl (.bl _)⟩
  · cases e
end
section
variable {X : Cx} {fl : List Fl} {a : Expr} {f : FE} {pos : Pos} {ta : TE}
end
section
variable {X : Cx} {fl : List Fl} {a b c : Expr} {f fa fb fc : FE} {pos : Pos}
theorem dt_chain {op op' : CmpOp} {r r' : R2} {g g' : D → D → Option D} (ho : OpR X (compareOp op) r) (ho' : OpR X (compareOp op') r') (hb : BrO X.K r g) (hb' : BrO X.K r' g') (h1 : DE X fl .P a fa) (h2 : DE X fl .P b fb) (h3 : DE X fl .P c fc)
    (hm : lastMarks [op, op'] [b, c] = false := by with_unfolding_all rfl) : DT X fl (.Compare a [op, op'] [b, c] pos) (tBool (dChain g g' fa fb fc)) := PT.imp (pt_chain ho ho' h1 h2 h3 hm) fun σ H Q h => by
  obtain ⟨G, ow, δ, bb, R, hf, q⟩ := h
  obtain ⟨d, hf, hd⟩ := bind1 hf
  have hd' : d = .bool bb := by cases d <;> first | (cases hd; rfl) | (cases hd; done)
  subst hd'
  obtain ⟨x, e1, hf⟩ := bind1 hf
  obtain ⟨y, e2, hf⟩ := bind1 hf
  obtain ⟨z, e3, hf⟩ := bind1 hf
  refine ⟨G, ow, δ, x, R, e1, fun v H1 s1 r1 => ⟨G, ow, δ, y, R.grow s1, e2, fun u H2 s2 r2 => ?_⟩⟩
  refine hb H2 v u x y z _ (RA.same s2 r1) r2 e3 fun zv hz rz => ?_
  split at hf
  · obtain rfl := rz.blE
    obtain ⟨w, e4, e5⟩ := bind1 hf
    refine ⟨true, rfl, iteT ⟨G, ow, δ, w, R.grow (s1.trans s2), e4, fun wv H3 s3 r3 => ?_⟩⟩
    refine hb' H3 u wv y w _ _ (RA.same s3 r2) r3 e5 fun z hz rz => ?_
    obtain rfl := rz.blE
    exact ⟨_, rfl, q H3 (s1.trans (s2.trans s3))⟩
  · obtain rfl := rz.blE
    cases hf
    exact ⟨false, rfl, iteF ⟨_, rfl, q H2 (s1.trans s2)⟩⟩
  · cases hf
end
section
variable {X : Cx} {fl : List Fl} {a b : Expr} {f g : FE} {pos : Pos}
theorem RsB.same {K : PySem.W.Frag} {G : Gh} {ow : Ow} {Hb H H' : Hp} {L : List Nat} {v : V} {d : D} (e : Same H H') (h : Rs K G.H0 ow Hb H (.B L) v d) : Rs K G.H0 ow Hb H' (.B L) v d := by
  rcases h with h | ⟨i, hi, a, xs, ds, h1, h2, h3, h4, h5⟩
  · exact .inl (RA.same e h)
  · exact .inr ⟨i, hi, a, xs, ds, h1, h2, h3, e _ _ h4, h5.same e⟩
end
end D3
namespace D3
open PySem PySem.Spec PyProof.Rows L2 My
def tDBT (K : PySem.W.Frag) (fl : List Fl) (f : FA) : TA := fun σ H Q => ∃ G ow δ ds, Rel K fl G ow σ H δ ∧ f δ = some ds ∧ ∀ vs H', Same H H' → (∃ as, RTs K H' vs ds as ∧ as.Nodup ∧ ∀ a ∈ as, H a = none) → Q vs H'
abbrev DBT (X : Cx) (fl : List Fl) (es : List Expr) (f : FA) : Prop := PA X es (tDBT X.K fl f)
theorem RTs.length {K : PySem.W.Frag} {H : Hp} : ∀ {v : List V} {d : List D} {as : List Addr}, RTs K H v d as → v.length = d.length
  | _, _, _, .nil => rfl
  | _, _, _, .cons _ q => by simp [RTs.length q]
section
variable {X : Cx} {fl : List Fl} {e a b c : Expr} {es rest : List Expr} {k : Kd} {f fa fb fc : FE} {ft gt : FT} {pos : Pos}
theorem dbT_nil : DBT X fl [] dNil := PA.imp pa_nil fun σ H Q h => by
  obtain ⟨G, ow, δ, ds, R, hf, q⟩ := h
  cases hf
  exact q [] H (Same.refl H) ⟨[], .nil, .nil, fun _ z => by cases z⟩
theorem dbT_cons {fr : FA} (h : DE X fl .T e f) (hr : DBT X fl es fr) (hs : starEach (e :: es) X.env = (false, eval e X.env) :: starEach es X.env := by exact star_of rfl) : DBT X fl (e :: es) (dCons f fr) := PA.imp (pa_cons h hr hs) fun σ H Q h => by
  obtain ⟨G, ow, δ, ds, R, hf, q⟩ := h
  obtain ⟨d, e1, hf⟩ := bind1 hf
  obtain ⟨r, e2, hf⟩ := bind1 hf
  cases hf
  refine ⟨G, ow, δ, d, R, e1, fun v H1 s1 r1 => ⟨G, ow, δ, r, R.grow s1, e2, fun vs H2 s2 r2 => ?_⟩⟩
  obtain ⟨as, h1, h2, h3⟩ := r1
  obtain ⟨bs, g1, g2, g3⟩ := r2
  refine q _ H2 (s1.trans s2) ⟨as ++ bs, .cons (h1.same s2) g1, List.nodup_append.mpr ⟨h2, g2, fun x hx y hy z => ?_⟩, fun x hx => ?_⟩
  · subst z
    exact h1.tracked x hx (g3 x hy)
  · rcases List.mem_append.mp hx with z | z
    · exact h3 x z
    · exact s1.free (g3 x z)
theorem de_lstT {fa : FA} (h : DBT X fl es fa) : DE X fl .T (.List es pos) (dLst fa) := PE.imp (pe_lst h) fun σ H Q h => by
  obtain ⟨G, ow, δ, d, R, hf, q⟩ := h
  obtain ⟨l, e1, e2⟩ := bind1 hf
  by_cases z : l.length ≤ sizeLine
  · rw [if_pos z] at e2
    cases e2
    refine ⟨G, ow, δ, l, R, e1, fun vs H' s r => ?_⟩
    obtain ⟨as, h1, h2, h3⟩ := r
    refine ⟨by rw [h1.length]; exact z, fun p hp => ?_⟩
    have g := same_new hp (.lst vs)
    refine q _ _ (s.trans g) ⟨p :: as, .lst upd_same (h1.same g), List.nodup_cons.mpr ⟨fun w => h1.tracked p w hp, h2⟩, fun x hx => ?_⟩
    rcases List.mem_cons.mp hx with rfl | w
    · exact s.free hp
    · exact h3 x w
  · rw [if_neg z] at e2
    cases e2
theorem c_C_T (h : DE X fl .C e f) : DE X fl .T e (dN1 f) := de_guard h fun Hb H G ow σ δ v d hp R r => by
  obtain ⟨as, h1, h2, h3⟩ := RA.rt r
  have hl : as.length ≤ 1 := by rw [h2]; exact of_decide_eq_true hp
  refine ⟨as, h1, ?_, h3⟩
  cases as with
  | nil => exact .nil
  | cons x r =>
    cases r with
    | nil => exact List.nodup_cons.mpr ⟨List.not_mem_nil, .nil⟩
    | cons y r => simp at hl
theorem c_T_C (h : DE X fl .T e f) : DE X fl .C e f := de_cast h fun Hb H G ow σ δ v d R r => by
  obtain ⟨as, h1, h2, h3⟩ := r
  exact h1.ra h3
theorem de_varP (i : Nat) (hn : isN fl[i]? = true) {x : Str} (hN : X.N[i]? = some x := by rfl) (hv : Vis X.env.scope x := by first | exact Or.inl rfl | exact Or.inr (Or.inl rfl) | exact Or.inr (Or.inr rfl)) (hd : (x == ("__debug__" : Str)) = false := by decide)
    (hcd : (x == ("__classdict__" : Str)) = false := by decide) : DE X fl .P (.Name x pos) (dVar i) := by
  refine PE.imp (pe_var hN hv hd hcd) fun σ H Q h => ?_
  obtain ⟨G, ow, δ, d, R, hf, q⟩ := h
  obtain ⟨v, h1, h2, _⟩ := R.nr i d hn (dVar_eq hf)
  exact ⟨v, h1, q v H (Same.refl H) (h2.ra fun _ _ => trivial)⟩
theorem de_ixK (hk : isR k = true) (ha : DE X fl k a fa) (hb : DE X fl .P b fb) (hs : PlainIx b) : DE X fl k (.Subscript a b pos) (dOp gIx fa fb) := PE.imp (pe_ix ix_seq ha hb hs) fun σ H Q h => by
  obtain ⟨G, ow, δ, d, R, hf, q⟩ := h
  obtain ⟨x, y, e1, e2, e3⟩ := bind2 hf
  refine ⟨G, ow, δ, x, R, e1, fun v H1 s1 r1 => ⟨G, ow, δ, y, R.grow s1, e2, fun u H2 s2 r2 => ?_⟩⟩
  have q1 := (r1.ra hk).same s2
  unfold gIx at e3
  split at e3
  · next l i =>
    obtain rfl := RA.intE r2
    obtain ⟨p, xs, rfl, hx, hr⟩ := q1.lstE
    obtain ⟨z, ez, rz⟩ := hr.at e3
    exact .inl ⟨p, xs, i, z, rfl, rfl, hx, ez, q z H2 (s1.trans s2) (Rs.of_ra hk rz)⟩
  · next l i =>
    obtain rfl := RA.intE r2
    obtain ⟨p, xs, rfl, hx, hr⟩ := q1.tupE
    obtain ⟨z, ez, rz⟩ := hr.at e3
    exact .inr (.inl ⟨p, xs, i, z, rfl, rfl, hx, ez, q z H2 (s1.trans s2) (Rs.of_ra hk rz)⟩)
  · cases e3
end
section
variable {K : PySem.W.Frag} {fl : List Fl}
def owN (ow : Ow) (i : Nat) (as : List Addr) : Ow := ⟨ow.s, fun j => if j = i then as else ow.n j⟩
theorem owN_eq {ow : Ow} {i : Nat} {as : List Addr} : (owN ow i as).n i = as := if_pos rfl
theorem owN_ne {ow : Ow} {i j : Nat} {as : List Addr} (h : j ≠ i) : (owN ow i as).n j = ow.n j := if_neg h
theorem Rel.setN {G : Gh} {ow : Ow} {σ : St} {H H' : Hp} {δ : DS} {i : Nat} {v : V} {d : D} (R : Rel K fl G ow σ H δ) (s : Same H H') (hfl : fl[i]? = some .N) (hi : i < σ.length) (r : Rs K G.H0 ow H H' .T v d) :
    ∃ ow', Rel K fl G ow' (σ.set i (some v)) H' (δ.set i (some (.d d))) := by
  have R' := R.grow s
  obtain ⟨as, h1, h2, h3⟩ := r
  have no : ∀ a, ow i ≠ some a := fun a z => by
    obtain ⟨_, hz, _⟩ := R.own i a z
    rw [hfl] at hz
    rcases hz with ⟨z, _⟩ | ⟨z, _⟩ <;> cases z
  have sub : ∀ b, okA ow b ∧ H b ≠ none → okA (owN ow i as) b := fun b z => ⟨z.1.1, fun j e => by
    by_cases hj : j = i
    · subst hj
      rw [owN_eq] at e
      exact z.2 (h3 b e)
    · rw [owN_ne hj] at e
      exact z.1.2 j e⟩
  have old : ∀ {v : V} {d : D}, RA K (okA ow) true H v d → RA K (okA (owN ow i as)) true H' v d := fun r => (r.track.imp sub (fun z => z)).same s
  have olds : ∀ {v : List V} {d : List D}, RAs K (okA ow) true H v d → RAs K (okA (owN ow i as)) true H' v d := fun r => (r.track.imp sub (fun z => z)).same s
  refine ⟨owN ow i as, R'.s0, R'.s1, by rw [List.length_set, List.length_set]; exact R.len, fun j a h => ?_, R.inj, R.pin, fun j d' g1 gn g2 => ?_, fun j d' g1 gn g2 g3 => ?_, fun j a h => ?_, fun j j' a h h' => ?_, fun j j' a h => ?_, fun j h => ?_, fun j d' gn g1 => ?_⟩
  · have hj : j ≠ i := fun z => no a (z ▸ h)
    obtain ⟨h0, hf, xs, ds, g1, g2, g3, g4⟩ := R.own j a h
    exact ⟨h0, hf, xs, ds, by rw [List.getElem?_set_ne (Ne.symm hj)]; exact g1, s _ _ g2, olds g3, by rw [List.getElem?_set_ne (Ne.symm hj)]; exact g4⟩
  · rcases set_get g1 with ⟨rfl, e⟩ | ⟨hj, e⟩
    · rw [hfl] at gn; cases gn
    · obtain ⟨v', g3, g4⟩ := R.dat j d' e gn g2
      exact ⟨v', by rw [List.getElem?_set_ne (Ne.symm hj)]; exact g3, old g4⟩
  · rcases set_get g1 with ⟨rfl, e⟩ | ⟨hj, e⟩
    · rw [hfl] at gn; cases gn
    · exact R.oo j d' e gn g2 g3
  · by_cases hj : j = i
    · subst hj
      rw [owN_eq] at h
      exact ⟨R.same0.free (h3 a h), h1.tracked a h, .inl ⟨hfl, R.s1.free (h3 a h)⟩⟩
    · rw [owN_ne hj] at h
      exact R'.nt j a h
  · by_cases hj : j = i
    · by_cases hj' : j' = i
      · rw [hj, hj']
      · subst hj
        rw [owN_eq] at h
        rw [owN_ne hj'] at h'
        exact absurd (h3 a h) (R.nt j' a h').2.1
    · rw [owN_ne hj] at h
      by_cases hj' : j' = i
      · subst hj'
        rw [owN_eq] at h'
        exact absurd (h3 a h') (R.nt j a h).2.1
      · rw [owN_ne hj'] at h'
        exact R.nd j j' a h h'
  · by_cases hj : j = i
    · subst hj
      rw [owN_eq] at h
      exact fun z => by
        obtain ⟨_, _, _, _, _, g2, _⟩ := R.own j' a z
        rw [h3 a h] at g2
        cases g2
    · rw [owN_ne hj] at h
      exact R.ns j j' a h
  · have hj : j ≠ i := fun z => by subst z; rw [hfl] at h; cases h
    rw [owN_ne hj]
    exact R.np j h
  · rcases set_get g1 with ⟨rfl, e⟩ | ⟨hj, e⟩
    · cases e
      exact ⟨v, by rw [List.getElem?_set_self hi], by rw [owN_eq]; exact h1, by rw [owN_eq]; exact h2⟩
    · obtain ⟨v', g3, g4⟩ := R'.nr j d' gn e
      exact ⟨v', by rw [List.getElem?_set_ne (Ne.symm hj)]; exact g3, by rw [owN_ne hj]; exact g4⟩
theorem Rel.mutN {G : Gh} {ow : Ow} {σ : St} {H : Hp} {δ : DS} {i : Nat} {a : Addr} {xs ys : List V} {d : D} {v : V} {as : List Addr} (R : Rel K fl G ow σ H δ) (hfl : fl[i]? = some .N) (hi : i < δ.length) (ha : a ∈ ow.n i) (hx : H a = some (.lst xs)) (hv : σ[i]? = some (some v))
    (hr : RT K (upd H a (.lst ys)) v d as) (hs : ∀ b ∈ as, b ∈ ow.n i) (hd : as.Nodup) : ∃ ow', Rel K fl G ow' σ (upd H a (.lst ys)) (δ.set i (some (.d d))) := by
  have na : ¬ okA ow a := fun z => z.2 i ha
  have hF : G.HF a = none := by
    rcases (R.nt i a ha).2.2 with ⟨_, z⟩ | z
    · exact z
    · rw [hfl] at z; cases z
  have no : ∀ a, ow i ≠ some a := fun a z => by
    obtain ⟨_, hz, _⟩ := R.own i a z
    rw [hfl] at hz
    rcases hz with ⟨z, _⟩ | ⟨z, _⟩ <;> cases z
  have sub : ∀ b, okA ow b → okA (owN ow i as) b := fun b z => ⟨z.1, fun j e => by
    by_cases hj : j = i
    · subst hj
      rw [owN_eq] at e
      exact z.2 j (hs b e)
    · rw [owN_ne hj] at e
      exact z.2 j e⟩
  have tr : ∀ b, H b ≠ none → upd H a (.lst ys) b ≠ none := fun b z => by
    by_cases hb : b = a
    · rw [hb, upd_same]; simp
    · rw [upd_ne hb]; exact z
  refine ⟨owN ow i as, R.s0, fun b o hb => ?_, by rw [List.length_set]; exact R.len, fun j b h => ?_, R.inj, R.pin, fun j d' g1 gn g2 => ?_, fun j d' g1 gn g2 g3 => ?_, fun j b h => ?_, fun j j' b h h' => ?_, fun j j' b h => ?_, fun j h => ?_, fun j d' gn g1 => ?_⟩
  · rw [upd_ne (fun z => by subst z; rw [hF] at hb; cases hb)]
    exact R.s1 b o hb
  · have hj : j ≠ i := fun z => no b (z ▸ h)
    obtain ⟨h0, hf, zs, ds, g1, g2, g3, g4⟩ := R.own j b h
    have hb : b ≠ a := fun z => R.ns i j a ha (z ▸ h)
    exact ⟨h0, hf, zs, ds, g1, by rw [upd_ne hb]; exact g2, (g3.upd hx na).imp sub (fun z => z), by rw [List.getElem?_set_ne (Ne.symm hj)]; exact g4⟩
  · rcases set_get g1 with ⟨rfl, e⟩ | ⟨hj, e⟩
    · rw [hfl] at gn; cases gn
    · obtain ⟨v', g3, g4⟩ := R.dat j d' e gn g2
      exact ⟨v', g3, (g4.upd hx na).imp sub (fun z => z)⟩
  · rcases set_get g1 with ⟨rfl, e⟩ | ⟨hj, e⟩
    · rw [hfl] at gn; cases gn
    · exact R.oo j d' e gn g2 g3
  · by_cases hj : j = i
    · subst hj
      rw [owN_eq] at h
      obtain ⟨g1, g2, g3⟩ := R.nt j b (hs b h)
      exact ⟨g1, tr b g2, g3⟩
    · rw [owN_ne hj] at h
      obtain ⟨g1, g2, g3⟩ := R.nt j b h
      exact ⟨g1, tr b g2, g3⟩
  · have old : ∀ j b, b ∈ (owN ow i as).n j → b ∈ ow.n j := fun j b h => by
      by_cases hj : j = i
      · subst hj; rw [owN_eq] at h; exact hs b h
      · rw [owN_ne hj] at h; exact h
    exact R.nd j j' b (old j b h) (old j' b h')
  · by_cases hj : j = i
    · subst hj; rw [owN_eq] at h; exact R.ns j j' b (hs b h)
    · rw [owN_ne hj] at h; exact R.ns j j' b h
  · have hj : j ≠ i := fun z => by subst z; rw [hfl] at h; cases h
    rw [owN_ne hj]
    exact R.np j h
  · rcases set_get g1 with ⟨rfl, e⟩ | ⟨hj, e⟩
    · cases e
      exact ⟨v, hv, by rw [owN_eq]; exact hr, by rw [owN_eq]; exact hd⟩
    · obtain ⟨v', g3, g4, g5⟩ := R.nr j d' gn e
      exact ⟨v', g3, by rw [owN_ne hj]; exact g4.upd hx (fun z => hj (R.nd j i a z ha)), by rw [owN_ne hj]; exact g5⟩
end
section
variable {K : PySem.W.Frag} {H : Hp}
theorem RTs.snoc {w : V} {d : D} (r : RT K H w d []) : ∀ {vs : List V} {ds : List D} {as : List Addr}, RTs K H vs ds as → RTs K H (vs ++ [w]) (ds ++ [d]) as
  | _, _, _, .nil => by
    have := RTs.cons r (.nil (K := K) (H := H))
    simpa using this
  | _, _, _, .cons e q => .cons e (RTs.snoc r q)
theorem RTs.part {m : List D} : ∀ {vs : List V} {ds : List D} {as : List Addr} {k : Nat}, RTs K H vs ds as → ds[k]? = some (.list m) → ∃ a xs bs, vs[k]? = some (.ref a) ∧ H a = some (.lst xs) ∧ RTs K H xs m bs ∧ a ∈ as ∧ (∀ b ∈ bs, b ∈ as) ∧
    (as.Nodup → a ∉ bs ∧ bs.Nodup ∧ ∀ ys m' bs', RTs K (L2.upd H a (.lst ys)) ys m' bs' → (∀ b ∈ bs', b ∈ bs) → bs'.Nodup → ∃ as', RTs K (L2.upd H a (.lst ys)) vs (ds.set k (.list m')) as' ∧ as'.Nodup ∧ ∀ b ∈ as', b ∈ as)
  | _, _, _, _, .nil, h => by simp at h
  | _, _, _, 0, .cons e q, h => by
    simp at h
    subst h
    cases e with
    | lst hx r =>
      rename_i bs2 a xs as
      refine ⟨a, xs, as, rfl, hx, r, by simp, fun b hb => by simp [hb], fun nd => ?_⟩
      obtain ⟨n1, n2, n3⟩ := List.nodup_append.mp nd
      obtain ⟨n4, n5⟩ := List.nodup_cons.mp n1
      refine ⟨n4, n5, fun ys m' bs' h1 h2 h3 => ⟨(a :: bs') ++ bs2, ?_, ?_, ?_⟩⟩
      · exact .cons (.lst upd_same h1) (RTs.upd hx (fun z => n3 a List.mem_cons_self a z rfl) q)
      · refine List.nodup_append.mpr ⟨List.nodup_cons.mpr ⟨fun z => n4 (h2 a z), h3⟩, n2, fun x hx y hy => ?_⟩
        rcases List.mem_cons.mp hx with rfl | z
        · exact n3 x List.mem_cons_self y hy
        · exact n3 x (List.mem_cons_of_mem _ (h2 x z)) y hy
      · intro b hb
        rcases List.mem_append.mp hb with z | z
        · rcases List.mem_cons.mp z with rfl | z
          · simp
          · simp [h2 b z]
        · simp [z]
  | _, _, _, k + 1, .cons (as := as1) (bs := bs2) e q, h => by
    obtain ⟨a, xs, bs, h1, h2, h3, h4, h5, h6⟩ := RTs.part (k := k) q (by simpa using h)
    refine ⟨a, xs, bs, by simpa using h1, h2, h3, List.mem_append_right _ h4, fun b hb => List.mem_append_right _ (h5 b hb), fun nd => ?_⟩
    obtain ⟨n1, n2, n3⟩ := List.nodup_append.mp nd
    obtain ⟨g1, g2, g3⟩ := h6 n2
    refine ⟨g1, g2, fun ys m' bs' k1 k2 k3 => ?_⟩
    obtain ⟨as', r1, r2, r3⟩ := g3 ys m' bs' k1 k2 k3
    refine ⟨as1 ++ as', .cons (RT.upd h2 (fun z => n3 a z a h4 rfl) e) r1, List.nodup_append.mpr ⟨n1, r2, fun x hx y hy => n3 x hx y (r3 y hy)⟩, fun b hb => ?_⟩
    rcases List.mem_append.mp hb with z | z
    · exact List.mem_append_left _ z
    · exact List.mem_append_right _ (r3 b z)
theorem RT.flat0 {ok : Ok} {pl : Bool} {v : V} {d : D} (hf : flat d = true) (h : RA K ok pl H v d) : RT K H v d [] := by
  obtain ⟨as, h1, _, h3⟩ := RA.rt (RA.flat (ok' := ok0) (pl' := false) hf h)
  cases as with
  | nil => exact h1
  | cons a r => exact (h3 a List.mem_cons_self).elim
end
section
variable {X : Cx} {fl : List Fl} {e ke : Expr} {f fk : FE} {pos : Pos}
theorem ds_setN {i : Nat} {x : Str} {pos' : Pos} (hfl : fl[i]? = some .N) (hN : X.N.Nodup) (hi : X.N[i]? = some x) (hv : X.env.scope.names.lookup x = some .local ∨ X.env.scope.names.lookup x = some .cell) (h : DE X fl .T e f)
    (hs : swapsWith e (some (.Name x pos')) pos.line X.env = pure false := by rfl) (hfn : X.fn x = true ∨ X.env.scope.names.lookup x = some .local := by first | exact .inl rfl | exact .inr rfl) :
    DS1 X fl (.Assign [.Name x pos'] e pos) (sSetl i f) := PS.imp (ps_set (i := i) hN hi hv h hs hfn) fun Dn σ H h => by
  obtain ⟨G, ow, δ, o, R, hf, q⟩ := h
  unfold sSetl at hf
  by_cases hl : i < δ.length
  · rw [if_pos hl] at hf
    obtain ⟨d, e1, e2⟩ := bind1 hf
    cases e2
    refine ⟨G, ow, δ, d, R, e1, fun v H' s r => ?_⟩
    obtain ⟨ow', R'⟩ := R.setN s hfl (slot_lt R hl) r
    exact q ow' _ H' R'
  · rw [if_neg hl] at hf
    cases hf
theorem Rel.part {K : PySem.W.Frag} {G : Gh} {ow : Ow} {σ : St} {H : Hp} {δ : DS} {i : Nat} {x : D} {l m : List D} {n : Nat} (R : Rel K fl G ow σ H δ) (hfl : fl[i]? = some .N) (hx : dVar i δ = some x) (hl : partOf x = some l) (hm : l[n]? = some (.list m)) :
    ∃ p vs a xs, σ[i]? = some (some (.ref p)) ∧ vs.length = l.length ∧ (∀ H', Same H H' → SqL K H' p vs ∨ SqT K H' p vs) ∧ vs[n]? = some (.ref a) ∧ (∀ H', Same H H' → H' a = some (.lst xs)) ∧ xs.length = m.length ∧
      ∀ H', Same H H' → ∃ bs, RTs K H' xs m bs ∧ a ∉ bs ∧ bs.Nodup ∧ ∀ ys m' bs', RTs K (L2.upd H' a (.lst ys)) ys m' bs' → (∀ b ∈ bs', b ∈ bs) → bs'.Nodup → ∃ ow', Rel K fl G ow' σ (L2.upd H' a (.lst ys)) (δ.set i (some (.d (putAt x n (.list m'))))) := by
  have e := dVar_eq hx
  have hi : i < δ.length := by
    rcases Nat.lt_or_ge i δ.length with z | z
    · exact z
    · rw [List.getElem?_eq_none z] at e; cases e
  obtain ⟨v, h1, h2, h3⟩ := R.nr i x (by rw [hfl]; rfl) e
  generalize hN : ow.n i = as at h2 h3
  cases h2 with
  | lst hp r =>
    rename_i p vs ds bs0
    cases hl
    obtain ⟨n1, n2⟩ := List.nodup_cons.mp h3
    obtain ⟨a, xs, bs, g1, g2, g3, g4, g5, g6⟩ := r.part hm
    have pa : p ≠ a := fun z => n1 (z ▸ g4)
    refine ⟨p, vs, a, xs, h1, r.length, fun H' s => .inl (SqL.of (s _ _ hp)), g1, fun H' s => s _ _ g2, g3.length, fun H' s => ?_⟩
    obtain ⟨a', xs', bs', f1, f2, f3, f4, f5, f6⟩ := (r.same s).part hm
    rw [g1] at f1
    cases f1
    rw [s _ _ g2] at f2
    cases f2
    obtain ⟨k1, k2, k3⟩ := f6 n2
    refine ⟨bs', f3, k1, k2, fun ys m' bs'' q1 q2 q3 => ?_⟩
    obtain ⟨as', r1, r2, r3⟩ := k3 ys m' bs'' q1 q2 q3
    refine (R.grow s).mutN hfl hi (by rw [hN]; exact List.mem_cons_of_mem _ g4) (s _ _ g2) h1 (.lst (by rw [upd_ne pa]; exact s _ _ hp) r1) (fun b hb => ?_) (List.nodup_cons.mpr ⟨fun z => n1 (r3 p z), r2⟩)
    rw [hN]
    rcases List.mem_cons.mp hb with rfl | z
    · exact List.mem_cons_self
    · exact List.mem_cons_of_mem _ (r3 b z)
  | tup hp r =>
    rename_i p vs ds
    cases hl
    obtain ⟨a, xs, bs, g1, g2, g3, g4, g5, g6⟩ := r.part hm
    refine ⟨p, vs, a, xs, h1, r.length, fun H' s => .inr (same_tup s hp), g1, fun H' s => s _ _ g2, g3.length, fun H' s => ?_⟩
    obtain ⟨a', xs', bs', f1, f2, f3, f4, f5, f6⟩ := (r.same s).part hm
    rw [g1] at f1
    cases f1
    rw [s _ _ g2] at f2
    cases f2
    obtain ⟨k1, k2, k3⟩ := f6 h3
    refine ⟨bs', f3, k1, k2, fun ys m' bs'' q1 q2 q3 => ?_⟩
    obtain ⟨as', r1, r2, r3⟩ := k3 ys m' bs'' q1 q2 q3
    exact (R.grow s).mutN hfl hi (by rw [hN]; exact g4) (s _ _ g2) h1 (.tup (SqT.upd (s _ _ g2) (same_tup s hp)) r1) (fun b hb => by rw [hN]; exact r3 b hb) r2
  | non => cases hl
  | bl _ => cases hl
  | int _ => cases hl
  | str _ => cases hl
  | dic _ => cases hl
theorem atI_of {vs : List V} {j : Int} {n : Nat} {v : V} (hj : pIx vs.length j = some n) (h : vs[n]? = some v) : atI vs j = some v := by
  unfold atI
  rw [show ixN vs.length j = some n from hj]
  exact h
theorem nMut_inv {g : List D → D → Option (List D)} {i : Nat} {δ : DS} {o : Oc} (h : nMut g i fk f δ = some o) : ∃ y j d l n m m', dVar i δ = some y ∧ fk δ = some (.int j) ∧ f δ = some d ∧ partOf y = some l ∧ pIx l.length j = some n ∧ l[n]? = some (.list m) ∧ g m d = some m' ∧ o = .nx (δ.set i (some (.d (putAt y n (.list m'))))) := by
  obtain ⟨y, e1, h⟩ := bind1 h
  obtain ⟨kd, e2, h⟩ := bind1 h
  obtain ⟨d, e3, h⟩ := bind1 h
  obtain ⟨l, e4, h⟩ := bind1 h
  obtain ⟨j, rfl⟩ : ∃ j, kd = .int j := by cases kd <;> first | exact ⟨_, rfl⟩ | (cases h; done)
  obtain ⟨n, e5, h⟩ := bind1 h
  cases e6 : l[n]? with
  | none => rw [e6] at h; cases h
  | some z =>
    rw [e6] at h
    obtain ⟨m, rfl⟩ : ∃ m, z = .list m := by cases z <;> first | exact ⟨_, rfl⟩ | (cases h; done)
    obtain ⟨m', e7, h⟩ := bind1 h
    cases h
    exact ⟨y, j, d, l, n, m, m', e1, e2, e3, e4, e5, e6, e7, rfl⟩
theorem ds_nApp {i : Nat} {x : Str} {vpos spos apos cpos : Pos} (hfl : fl[i]? = some .N) (hk : DE X fl .P ke fk) (h : DE X fl .P e f) (hN : X.N[i]? = some x) (hsx : PlainIx ke) (hv : Vis X.env.scope x := by first | exact Or.inl rfl | exact Or.inr (Or.inl rfl) | exact Or.inr (Or.inr rfl)) (hd : (x == ("__debug__" : Str)) = false := by decide)
    (hcd : (x == ("__classdict__" : Str)) = false := by decide)
    (hs : swapsWith (.Call (.Attribute (.Subscript (.Name x vpos) ke spos) "append" apos) [e] [] cpos) none pos.line X.env = pure false := by rfl)
    (hbase : attributeBase (.Subscript (.Name x vpos) ke spos) "append" X.env (eval (.Subscript (.Name x vpos) ke spos) X.env) = eval (.Subscript (.Name x vpos) ke spos) X.env := by rfl)
    (hfew : ((backTo cpos (starEach [e] X.env)).all (fun x => !x.1) && (backToKw cpos (keywordEach [] X.env)).all (fun x => x.1.isSome)
      && decide (([e] : List Expr).length + ([] : List Keyword).length + (if ([] : List Keyword).isEmpty then 0 else 1) < 30)) = true := by rfl)
    (hline : (apos.endLine == cpos.line) = true := by rfl) (hst : starEach [e] X.env = (false, eval e X.env) :: starEach [] X.env := by rfl) (hplain : (backTo cpos (starEach [] X.env)).any (·.1) = false := by rfl) :
    DS1 X fl (.Expr (.Call (.Attribute (.Subscript (.Name x vpos) ke spos) "append" apos) [e] [] cpos) pos) (sNApp i fk f) :=
  PS.imp (ps_expr (pe_bm PySem.F.plainAttrs_list PySem.F.slot_list_append PySem.F.type_list_append mt_append (pe_ix ix_seq (pe_var hN hv hd hcd) hk hsx) (pa_cons h pa_nil hst) hbase hfew hline hst hplain) hs) fun Dn σ H hh => by
  obtain ⟨G, ow, δ, o, R, hf, q⟩ := hh
  obtain ⟨y, jj, d, l, n, m, m', e1, e2, e3, e4, e5, em, e6, rfl⟩ := nMut_inv hf
  by_cases hc : flat d = true ∧ m.length < 1000000
  case neg => rw [if_neg hc] at e6; cases e6
  rw [if_pos hc] at e6
  cases e6
  obtain ⟨p, vs, a, xs, c1, c2, c3, c4, c5, c6, c7⟩ := R.part hfl e1 e4 em
  refine ⟨_, c1, G, ow, δ, _, R, e2, fun u H1 s1 r1 => ?_⟩
  obtain rfl := RA.intE r1
  have at1 : atI vs jj = some (.ref a) := atI_of (by rw [c2]; exact e5) c4
  have fin : ∀ w H2, Same H1 H2 → RA X.K ok1 true H2 w d → rAppend (.ref a) [w] H2 fun _ H3 => Dn.nx σ H3 := fun w H2 s2 r2 => by
    obtain ⟨bs, d7, d8, d9, d10⟩ := c7 H2 (s1.trans s2)
    refine ⟨a, xs, w, rfl, rfl, c5 H2 (s1.trans s2), by rw [c6]; exact Nat.lt_trans hc.2 (by decide), ?_⟩
    obtain ⟨ow', R'⟩ := d10 (xs ++ [w]) (m ++ [d]) bs ((RTs.upd (c5 H2 (s1.trans s2)) d8 d7).snoc (RT.upd (c5 H2 (s1.trans s2)) List.not_mem_nil (RT.flat0 hc.1 r2))) (fun b hb => hb) d9
    exact q ow' σ _ R'
  rcases c3 H1 s1 with b3 | b3
  · exact .inl ⟨p, vs, jj, .ref a, rfl, rfl, b3, at1, .inl ⟨rfl, _, SqL.of (c5 H1 s1)⟩, G, ow, δ, d, R.grow s1, e3, fin⟩
  · exact .inr (.inl ⟨p, vs, jj, .ref a, rfl, rfl, b3, at1, .inl ⟨rfl, _, SqL.of (c5 H1 s1)⟩, G, ow, δ, d, R.grow s1, e3, fin⟩)
end
end D3
namespace D3
open PySem
def asSeq : D → Option (List D)
  | .list l => some l
  | .tuple l => some l
  | _ => none
def qSq (x : Option D) : Option (List D) := x.bind asSeq
def fSeq (f : FE) : FA := fun δ => (f δ).bind asSeq
theorem v_sq {f : FE} {δ : DS} : fSeq f δ = qSq (f δ) := rfl
theorem v_sq_l {l : List D} : qSq (some (.list l)) = some l := rfl
def gTupL : D → Option D
  | .list l => some (.tuple l)
  | .tuple l => some (.tuple l)
  | _ => none
def qRL (a : Option D) : Option Oc := match a with
  | some d => some (.ex "" "" d)
  | none => none
def sRetL (fe : FE) : FS := fun δ => (fe δ).bind fun d => some (.ex "" "" d)
theorem v_retL {fe : FE} {δ : DS} : sRetL fe δ = qRL (fe δ) := by
  unfold sRetL qRL
  cases fe δ <;> rfl
theorem v_retL_s {d : D} : qRL (some d) = some (.ex "" "" d) := rfl
def qFnL (o : Option Oc) : Option D := match o with
  | some (.rt d) => some d
  | some (.ex _ _ d) => some d
  | some (.nx _) => some .none
  | _ => none
def fnL (p q : Nat) (b : FS) : List D → Option D := fun ds => if ds.length = p then qFnL (b (ds.map (fun d => some (.d d)) ++ List.replicate q none)) else none
theorem v_fnL {p q : Nat} {b : FS} {ds : List D} : fnL p q b ds = if ds.length = p then qFnL (b (ds.map (fun d => some (.d d)) ++ List.replicate q none)) else none := rfl
theorem v_fnL_ex {c f : Str} {d : D} : qFnL (some (.ex c f d)) = some d := rfl
def clr (T : List Nat) (δ : DS) : DS := δ.mapIdx fun i x => if i ∈ T then none else x
def findD (g : FG) (ft : FT) (δ : DS) : List D → Option Bool
  | [] => some false
  | d :: r => (g d δ).bind fun δ1 => if δ1.length = δ.length then (ft δ1).bind fun b => if b = true then some true else findD g ft δ r else none
def sFind (n : Nat) (fi : FA) (g : FG) (ft : FT) (c : D) (T : List Nat) : FS := fun δ => if δ.length ≤ n then (fi δ).bind fun l => (findD g ft (clr T δ) l).bind fun b => if b = true then some (.rt c) else some (.nx (clr T δ)) else none
end D3
namespace D3
open PySem PySem.Spec PyProof.Rows L2 My
section
variable {X : Cx}
end
section
variable {X : Cx} {fl : List Fl} {e ke : Expr} {f fk : FE} {pos : Pos}
end
section
variable {X : Cx} {fl : List Fl} {a : Expr} {pos p p2 pos2 : Pos} {fa : FA}
end
end D3
namespace D3
open PySem PySem.Spec PyProof.Rows L2 My
section
variable {X : Cx} {pins : List (Addr × Obj)} {σ : L2.St} {H : Hp} {s : Shared}
end
section
variable {X : Cx} {K : PySem.W.Frag}
end
section
variable {X : Cx} {fl : List Fl} {es : List Expr} {pos : Pos}
end
section
variable {X : Cx} {fl : List Fl} {e : Expr} {f : FE}
end
section
variable {X : Cx} {fl : List Fl} {a : Expr} {f : FE} {pos p : Pos}
theorem de_tupL {L : List Nat} (h : DE X fl (.B L) a f) (hg : Gl X "tuple") (hm : X.mg "tuple" = none)
    (he : starEach [a] X.env = (false, eval a X.env) :: starEach [] X.env := by exact star_of rfl) (hpl : (backTo pos (starEach [] X.env)).any (·.1) = false := by rfl) : DE X fl .A (.Call (.Name "tuple" p) [a] [] pos) (dUn gTupL f) :=
  PE.imp (pe_callTy call_tuple_of hg hm boot_tuple (pa_cons h pa_nil he) (by decide) (by decide) he hpl) fun σ H Q h => by
  obtain ⟨G, ow, δ, d, R, hf, q⟩ := h
  obtain ⟨x, e1, e2⟩ := bind1 hf
  refine ⟨G, ow, δ, x, R, e1, fun v H1 s1 r1 => ?_⟩
  unfold gTupL at e2
  split at e2
  · cases e2
    obtain ⟨p, xs, rfl, hx, hr⟩ := B_list r1
    exact ⟨p, xs, rfl, .inl ⟨hx, fun pn hp => q _ _ (s1.trans (same_new hp _)) (.tup (SqT.of upd_same) (hr.same (same_new hp _)))⟩⟩
  · cases e2
    rcases r1 with r1 | ⟨i, hi, a, xs, ds, ho, rfl, e, hx, hr⟩
    · obtain ⟨p, xs, rfl, hx, hr⟩ := r1.tupE
      exact ⟨p, xs, rfl, .inr ⟨hx, q _ _ s1 (.tup hx hr)⟩⟩
    · cases e
  · cases e2
end
section
variable {X : Cx} {fl : List Fl} {a b : Expr} {fa fb : FE} {pos : Pos}
end
end D3
namespace D3
open PySem PySem.Spec PyProof.Rows L2 My
section
variable {X : Cx} {K : PySem.W.Frag}
end
section
variable {X : Cx} {fl : List Fl} {a : Expr} {f : FE} {pos : Pos}
end
def spL (K : PySem.W.Frag) (F : List D → Option D) : Sp := fun vs H Q _ => ∃ ds d, RAs K ok1 true H vs ds ∧ F ds = some d ∧ ∀ v H', Same H H' → RA K ok1 true H' v d → Q v H'
section
variable {X : Cx} {fl : List Fl} {e : Expr} {es : List Expr} {f : FE} {pos p : Pos} {x : Str} {n : Nat} {F : List D → Option D} {fa : FA}
theorem ds_retL (h : DE X fl .P e f) : DS1 X fl (.Return (some e) pos) (sRetL f) := PS.imp (ps_ret h) fun Dn σ H h => by
  obtain ⟨G, ow, δ, o, R, hf, q⟩ := h
  obtain ⟨d, e1, e2⟩ := bind1 hf
  cases e2
  exact ⟨G, ow, δ, d, R, e1, fun v H' s r => q v H' (R.same0.trans s) r⟩
theorem de_callL {ps : List Str} (h : Has X.prog X.w X.K X.mg X.base n x ps (spL X.K F)) (hr : Room n X.A) (ha : DB X fl .P (e :: es) fa) (hg : Gl X x := by rfl) (hdb : (x == ("__debug__" : Str)) = false := by decide)
    (he : starEach (e :: es) X.env = (false, eval e X.env) :: starEach es X.env := by exact star_of rfl) (hpl : (backTo pos (starEach es X.env)).any (·.1) = false := by exact pl_of rfl) :
    DE X fl .P (.Call (.Name x p) (e :: es) [] pos) (dCall F fa) := PE.imp (pe_callH h hr ha hg hdb he hpl) fun σ H Q h => by
  obtain ⟨G, ow, δ, d, R, hf, q⟩ := h
  obtain ⟨ds, e1, e2⟩ := bind1 hf
  refine ⟨G, ow, δ, ds, R, e1, fun vs H' s r => ?_⟩
  show spL X.K F (vs ++ []) H' Q E0
  rw [List.append_nil]
  exact ⟨ds, d, r, e2, fun v H2 s2 r2 => q v H2 (s.trans s2) r2⟩
end
section
variable {P : Program} {w : World} {K : PySem.W.Frag} {mg : Str → Option Value} {base : Heap} {x : Str} {ps N : List Str} {st : Stmt} {k n : Nat} {fs : FS} {fl : List Fl}
theorem fun_okL {f : Addr} {fd : FuncData} (Fn : FunD K x st f fd) (S : FnScope N ps (defScope st)) (hp : ∀ i, i < ps.length → fl[i]? = some .A) (hN : ps.length ≤ N.length)
    (hbody : ∀ (f : Addr) (cdv : Value) (A : Around) (outer : List Env) (s : Shared) (H : Hp) (E : XK), Room k (A.deeper (envOfC x (defScope st) s.heap.objs.size f cdv)) → DSs (cx P w K mg base N x st f cdv A outer s H E) fl (defBody st) fs) :
    FnOk P w K mg base CX0 (k + 1) f fd ps (spL K (fnL ps.length (N.length - ps.length) fs)) := by
  refine Fn.ok S (fun vs H Q E h => ?_) (fun cdv A outer s H vs Q E hr h => ?_)
  · obtain ⟨ds, d, r, hf, _⟩ := h
    unfold fnL at hf
    by_cases z : ds.length = ps.length
    · rw [r.length]; exact z
    · rw [if_neg z] at hf; cases hf
  · obtain ⟨ds, d, r, hf, q⟩ := h
    refine ⟨_, hbody f cdv A outer s H E hr, ?_⟩
    unfold fnL qFnL at hf
    by_cases z : ds.length = ps.length
    · rw [if_pos z] at hf
      split at hf
      · next d' e =>
        cases hf
        exact ⟨_, _, _, _, rel_start ps.length hp z hN r, e, fun v H' s r => q v H' s (RA.imp (fun _ _ => trivial) (fun _ => rfl) r)⟩
      · next c' f' d' e =>
        cases hf
        exact ⟨_, _, _, _, rel_start ps.length hp z hN r, e, fun v H' s r => q v H' s r⟩
      · next δ' e =>
        cases hf
        exact ⟨_, _, _, _, rel_start ps.length hp z hN r, e, fun ow' σ' H' R' => q .non H' R'.same0 .non⟩
      · cases hf
    · rw [if_neg z] at hf; cases hf
theorem dg_okL (Dd : Dg K mg x st ps) (S : FnScope N ps (defScope st)) (hp : ∀ i, i < ps.length → fl[i]? = some .A) (hN : ps.length ≤ N.length)
    (hbody : ∀ (f : Addr) (cdv : Value) (A : Around) (outer : List Env) (s : Shared) (H : Hp) (E : XK), Room k (A.deeper (envOfC x (defScope st) s.heap.objs.size f cdv)) → DSs (cx P w K mg base N x st f cdv A outer s H E) fl (defBody st) fs) :
    Has P w K mg base (k + 1) x ps (spL K (fnL ps.length (N.length - ps.length) fs)) := by
  obtain ⟨f, fd, Fn, b, m⟩ := Dd.ex
  exact ⟨f, fd, fun_okL Fn S hp hN hbody, b, Fn.kp, m⟩
end
section
variable {P : Program} {w : World} {K : PySem.W.Frag} {mg : Str → Option Value} {base : Heap} {x : Str} {ps : List Str} {st : Stmt} {n : Nat}
end
end D3
namespace D3
open PySem PySem.Spec PyProof.Rows L2 My
section
variable {K : PySem.W.Frag} {fl flA : List Fl} {G : Gh} {ow : Ow} {σ σ' : St} {H H1 : Hp} {δ : DS} {T : List Nat}
theorem clr_get {i : Nat} {x : U} (h : (clr T δ)[i]? = some (some x)) : i ∉ T ∧ δ[i]? = some (some x) := by
  unfold clr at h
  rw [List.getElem?_mapIdx] at h
  cases e : δ[i]? with
  | none => rw [e] at h; cases h
  | some y =>
    rw [e, Option.map_some] at h
    by_cases z : i ∈ T
    · rw [if_pos z] at h; cases h
    · rw [if_neg z] at h; exact ⟨z, h⟩
theorem clr_ne {i : Nat} (h : i ∉ T) : (clr T δ)[i]? = δ[i]? := by
  unfold clr
  rw [List.getElem?_mapIdx]
  cases δ[i]? with
  | none => rfl
  | some y => rw [Option.map_some, if_neg h]
theorem clr_len : (clr T δ).length = δ.length := by unfold clr; rw [List.length_mapIdx]
theorem Rel.forget (R : Rel K fl G ow σ H δ) (hT : ∀ i ∈ T, fl[i]? = some .A) (hl : σ'.length = σ.length) (hσ : ∀ j, j ∉ T → σ'[j]? = σ[j]?) : Rel K fl G ow σ' H (clr T δ) := by
  refine ⟨R.s0, R.s1, by rw [clr_len, hl]; exact R.len, fun i a h => ?_, R.inj, R.pin, fun i d h hn ho => ?_, fun i d h hn h2 ho => R.oo i d (clr_get h).2 hn h2 ho, R.nt, R.nd, R.ns, R.np, fun i d hn h => ?_⟩
  · obtain ⟨h0, hf, xs, ds, h1, h2, h3, h4⟩ := R.own i a h
    have ni : i ∉ T := fun z => by
      rw [hT i z] at hf
      rcases hf with ⟨w, _⟩ | ⟨w, _⟩ <;> cases w
    exact ⟨h0, hf, xs, ds, by rw [hσ i ni]; exact h1, h2, h3, by rw [clr_ne ni]; exact h4⟩
  · obtain ⟨ni, e⟩ := clr_get h
    obtain ⟨v, h1, h2⟩ := R.dat i d e hn ho
    exact ⟨v, by rw [hσ i ni]; exact h1, h2⟩
  · obtain ⟨ni, e⟩ := clr_get h
    obtain ⟨v, h1, h2⟩ := R.nr i d hn e
    exact ⟨v, by rw [hσ i ni]; exact h1, h2⟩
theorem Rel.frozen (R : Rel K fl G ow σ H δ) (s : Same H H1) (hA : ∀ i, i < δ.length → flA[i]? = some .A) : Rel K flA ⟨H1, H1, fun _ => none, fun _ => []⟩ ow0 σ H1 δ := by
  have lt : ∀ i d, δ[i]? = some (some (U.d d)) → i < δ.length := fun i d h => by
    rcases Nat.lt_or_ge i δ.length with z | z
    · exact z
    · rw [List.getElem?_eq_none z] at h; cases h
  refine ⟨Same.refl _, Same.refl _, R.len, fun i a h => (by cases h), fun i j a h => (by cases h), fun i h => rfl, fun i d h _ _ => ?_, fun i d h _ h2 _ => absurd (hA i (lt i d h)) h2, fun i a h => (by cases h), fun i j a h => (by cases h), fun i j a h => (by cases h), fun i h => rfl, fun i d hn h => (by rw [hA i (lt i d h)] at hn; cases hn)⟩
  have key : ∃ v, σ[i]? = some (some v) ∧ RA K ok1 true H v d := by
    cases hN : isN fl[i]? with
    | true =>
      obtain ⟨v, h1, h2, _⟩ := R.nr i d hN h
      exact ⟨v, h1, h2.ra fun _ _ => trivial⟩
    | false =>
    cases ho : ow i with
    | none =>
      obtain ⟨v, h1, h2⟩ := R.dat i d h hN ho
      exact ⟨v, h1, h2.imp (fun _ _ => trivial) (fun z => z)⟩
    | some a =>
      obtain ⟨_, _, xs, ds, h1, h2, h3, h4⟩ := R.own i a ho
      rw [h] at h4
      cases h4
      exact ⟨_, h1, .lst h2 trivial (h3.imp (fun _ _ => trivial) (fun z => z))⟩
  obtain ⟨v, h1, h2⟩ := key
  exact ⟨v, h1, (h2.imp (fun _ _ => ⟨fun i z => (by cases z), fun i z => (by cases z)⟩) (fun z => z)).same s⟩
end
def WalkP (K : PySem.W.Frag) (H1 : Hp) (J : It) (l : List D) : Prop := ∀ H2, Same H1 H2 → ∀ i, (∀ d, l[i]? = some d → J.go i H2 ∧ ∀ x H3, J.yld i H2 x H3 → Same H2 H3 ∧ RA K ok1 true H3 x d) ∧ (l.length ≤ i → J.stop i H2)
def tDIP (K : PySem.W.Frag) (fl : List Fl) (fi : FA) : TI := fun σ H R' => ∃ G ow δ l, Rel K fl G ow σ H δ ∧ fi δ = some l ∧ ∀ J H1, Same H H1 → WalkP K H1 J l → R' J H1
section
variable {X : Cx} {fl flA : List Fl} {e : Expr} {es : List Expr} {f : FE} {fa : FA} {pos : Pos}
theorem sql_same {K : PySem.W.Frag} {H H' : Hp} {a : Addr} {xs : List V} (e : Same H H') (h : SqL K H a xs) : SqL K H' a xs := by
  rcases h with (h | ⟨o, h⟩) | h
  · exact .inl (.inl (e _ _ h))
  · exact .inl (.inr ⟨o, e _ _ h⟩)
  · exact .inr h
theorem dip_list {tg : Expr} (h : DE X fl .P e f) : PI X tg e (tDIP X.K fl (fLst f)) := PI.imp (pi_list h) fun σ H R' h => by
  obtain ⟨G, ow, δ, l, R, hf, q⟩ := h
  obtain ⟨d, e1, e2⟩ := bind1 hf
  cases d <;> first | (cases e2; done) | skip
  cases e2
  refine ⟨G, ow, δ, _, R, e1, fun v H1 s r => ?_⟩
  obtain ⟨a, xs, rfl, hx, k4⟩ := RA.lstE r
  refine ⟨a, rfl, ⟨xs, hx⟩, q _ _ s fun H2 s2 i => ?_⟩
  have k3 := sql_same s2 hx
  have k5 := k4.same s2
  refine ⟨fun d hd => ?_, fun hl => ⟨xs, k3, by rw [k5.length]; exact hl⟩⟩
  obtain ⟨y, hy, ry⟩ := k5.get hd
  refine ⟨⟨xs, y, k3, hy⟩, fun x H3 hyl => ?_⟩
  obtain ⟨e, hz⟩ := hyl
  subst e
  have : some y = some x := hy.symm.trans (hz xs k3)
  cases this
  exact ⟨Same.refl _, ry⟩
theorem de_lstP (h : DB X fl .P es fa) : DE X fl .P (.List es pos) (dLst fa) := PE.imp (pe_lst h) fun σ H Q h => by
  obtain ⟨G, ow, δ, d, R, hf, q⟩ := h
  obtain ⟨l, e1, e2⟩ := bind1 hf
  by_cases z : l.length ≤ sizeLine
  · rw [if_pos z] at e2
    cases e2
    refine ⟨G, ow, δ, l, R, e1, fun vs H' s r => ⟨by rw [r.length]; exact z, fun p hp => ?_⟩⟩
    have g := same_new hp (.lst vs)
    exact q _ _ (s.trans g) (.lst upd_same trivial (r.same g))
  · rw [if_neg z] at e2
    cases e2
theorem ds_find {tg iter test cst : Expr} {T : List Nat} {fi : FA} {g : FG} {ft : FT} {c : D} {n : Nat} {ipos rpos : Pos} (hp : PassesOwn (model X.prog X.w) X.A X.env X.xe) (hc : X.calm = true) (hi : PI X tg iter (tDIP X.K fl fi)) (hg : DG X flA T tg g) (ht : DT X flA test ft) (hr : DE X flA .FC cst (dC c)) (hfc : flat c = true)
    (hT : ∀ i ∈ T, fl[i]? = some .A) (hA : ∀ i, i < n → flA[i]? = some .A) (hs : ∀ x, foldedSetIterable iter X.env x = pure x := by intro _; rfl) : DS1 X fl (.For tg iter [.If test [.Return (some cst) rpos] [] ipos] [] pos) (sFind n fi g ft c T) :=
  PS.imp (ps_for hp hc hi hg (pss_one (ps_if ht (pss_one (ps_ret hr)) pss_nil)) hs) fun Dn σ H h => by
  obtain ⟨G, ow, δ, o, R0, hf, q⟩ := h
  unfold sFind at hf
  by_cases hn : δ.length ≤ n
  case neg => rw [if_neg hn] at hf; cases hf
  rw [if_pos hn] at hf
  obtain ⟨l, e1, e2⟩ := bind1 hf
  obtain ⟨b, e3, e4⟩ := bind1 e2
  refine ⟨G, ow, δ, l, R0, e1, fun J H1 s wk => ?_⟩
  have R1 := R0.grow s
  refine ⟨fun i m σ' H' => m = l.length - i ∧ i ≤ l.length ∧ Same H1 H' ∧ σ'.length = σ.length ∧ (∀ j, j ∉ T → σ'[j]? = σ[j]?) ∧ findD g ft (clr T δ) (l.drop i) = some b, ⟨_, rfl, Nat.zero_le _, Same.refl _, rfl, fun _ _ => rfl, by simpa using e3⟩, ?_⟩
  rintro i m σ' H' ⟨rfl, hil, s1, hlen, hσ, hd⟩
  obtain ⟨w1, w2⟩ := wk H' s1 i
  have Rf := R1.forget hT hlen hσ
  by_cases hlt : i < l.length
  · have hdrop : l.drop i = l[i] :: l.drop (i + 1) := List.drop_eq_getElem_cons hlt
    rw [hdrop, findD] at hd
    obtain ⟨δ1, e5, hd⟩ := bind1 hd
    by_cases hl1 : δ1.length = (clr T δ).length
    case neg => rw [if_neg hl1] at hd; cases hd
    rw [if_pos hl1] at hd
    obtain ⟨t, e6, hd⟩ := bind1 hd
    obtain ⟨go, yl⟩ := w1 l[i] (List.getElem?_eq_getElem hlt)
    refine .inr ⟨go, fun σ2 H2 => Same H1 H2 ∧ σ2.length = σ.length ∧ (∀ j, j ∉ T → σ2[j]? = σ[j]?) ∧ findD g ft (clr T δ) (l.drop (i + 1)) = some b, fun σ2 H2 ⟨a1, a2, a3, a4⟩ => ⟨l.length - (i + 1), by omega, rfl, by omega, a1, a2, a3, a4⟩, fun x H3 hy => ?_⟩
    obtain ⟨s3, r3⟩ := yl x H3 hy
    have RZ := Rf.frozen (flA := flA) (s1.trans s3) (fun i hi => hA i (by rw [clr_len] at hi; omega))
    refine ⟨_, ow0, clr T δ, l[i], δ1, RZ, RA.imp (fun _ _ => ⟨fun i z => (by cases z), fun i z => (by cases z)⟩) (fun z => z) r3, e5, fun σ4 R4 same4 => ?_⟩
    refine ⟨_, ow0, δ1, t, R4, e6, fun H5 s5 => ?_⟩
    cases t with
    | true =>
      rw [if_pos rfl] at hd ⊢
      cases hd
      rw [if_pos rfl] at e4
      cases e4
      refine ⟨_, ow0, δ1, c, R4.grow s5, rfl, fun v H6 s6 r6 => ?_⟩
      exact q v H6 ((((R0.same0.trans s).trans (s1.trans s3)).trans s5).trans s6) (RA.flat hfc (Rs.FC_C r6))
    | false =>
      rw [if_neg Bool.false_ne_true] at hd ⊢
      refine ⟨(s1.trans s3).trans s5, ?_, fun j hj => by rw [same4 j hj, hσ j hj], hd⟩
      rw [R4.len, hl1, clr_len, ← R0.len]
  · have e : l.drop i = [] := List.drop_eq_nil_of_le (by omega)
    rw [e, findD] at hd
    cases hd
    rw [if_neg Bool.false_ne_true] at e4
    cases e4
    exact .inl ⟨w2 (by omega), q ow σ' H' (Rf.grow s1)⟩
end
section
variable {X : Cx} {fl : List Fl} {pos : Pos}
def tDict1 (i j : Int) : TE := fun _ H Q => ∀ p, H p = none → Q (.ref p) (upd H p (.dK [(.inl i, .int j)]))
theorem pe_dict1 {i j : Int} {k1 k2} {p1 p2 : Pos} : PE X (.Dict [some (.Constant (.int i) k1 p1)] [.Constant (.int j) k2 p2] pos) (tDict1 i j) := by
  intro pins s σ H Q I h
  refine wpAny_Dict_walk (knd := mixKind X.prog X.w) rfl rfl (by simp) (show 1 ≤ 15 by decide) ?_
  refine pairTrees_cons_walk (wpAny_Constant_int (wpAny_Constant_int (pairTrees_nil_walk ?_)))
  refine ⟨[(.inl i, _)], And.intro (mixKind_int _ _ i _) (And.intro rfl True.intro), Heap.DictOf.new _, fun h' dd' hs => ?_⟩
  refine ⟨.ref s.heap.objs.size, _, I.laid (a := s.heap.objs.size) (o := .dK [(.inl i, .int j)]) (h' := h') (fun b u e => ?_) (Nat.le_refl _) ?_, rfl, h _ (I.hok.fresh (Nat.le_refl _))⟩
  · have hb : b ≠ s.heap.objs.size := Nat.ne_of_lt (Heap.lt_size e)
    exact (hs.2 b hb).trans (Heap.get?_push_of_some _ e)
  · exact ⟨(show 1 ≤ sizeLine by decide), beq_eq_false_iff_ne.mpr (Ne.symm (Nat.ne_of_lt (big I))), _, .cons ⟨rfl, ⟨_, rfl⟩⟩ .nil, dd'⟩
theorem de_dicK {i j : Int} {k1 k2} {p1 p2 : Pos} : DE X fl .T (.Dict [some (.Constant (.int i) k1 p1)] [.Constant (.int j) k2 p2] pos) (dC (.dict [(.int i, .int j)])) := PE.imp pe_dict1 fun σ H Q h => by
  obtain ⟨G, ow, δ, d, R, hf, q⟩ := h
  cases hf
  intro p hp
  exact q _ _ (same_new hp _) ⟨[p], .dic upd_same, List.nodup_cons.mpr ⟨List.not_mem_nil, .nil⟩, fun x hx => by rw [List.mem_singleton.mp hx]; exact hp⟩
end
end D3
namespace D3
open PySem
def qS (o : Option Oc) (b : FS) : Option Oc := match o with
  | some (.nx δ) => b δ
  | some o => some o
  | none => none
def qI (o : Option Bool) (a b : FS) (δ : DS) : Option Oc := match o with
  | some true => a δ
  | some false => b δ
  | none => none
def qO (g : D → D → Option D) (a b : Option D) : Option D := match a, b with
  | some x, some y => g x y
  | _, _ => none
def qU (g : D → Option D) (a : Option D) : Option D := match a with
  | some x => g x
  | none => none
def qC (a : Option D) (r : Option (List D)) : Option (List D) := match a, r with
  | some x, some l => some (x :: l)
  | _, _ => none
def qF (F : List D → Option D) (l : Option (List D)) : Option D := match l with
  | some l => F l
  | none => none
def qR (a : Option D) : Option Oc := match a with
  | some d => some (.rt d)
  | none => none
def qSet (i : Nat) (a : Option D) (δ : DS) : Option Oc := match a with
  | some d => if i < δ.length then some (.nx (δ.set i (some (.d d)))) else none
  | none => none
def qAnd (a : Option D) (fb : FE) (δ : DS) : Option D := match a with
  | some (.bool true) => fb δ
  | some (.bool false) => some (.bool false)
  | _ => none
def qOr (a : Option D) (fb : FE) (δ : DS) : Option D := match a with
  | some (.bool true) => some (.bool true)
  | some (.bool false) => fb δ
  | _ => none
def qN (a : Option D) : Option D := match a with
  | some (.bool b) => some (.bool (!b))
  | _ => none
def qB (a : Option D) : Option Bool := match a with
  | some (.bool b) => some b
  | _ => none
def qTA (a : Option Bool) (b : FT) (δ : DS) : Option Bool := match a with
  | some true => b δ
  | some false => some false
  | none => none
def qTO (a : Option Bool) (b : FT) (δ : DS) : Option Bool := match a with
  | some true => some true
  | some false => b δ
  | none => none
def qTN (a : Option Bool) : Option Bool := match a with
  | some b => some (!b)
  | none => none
def qE (a : Option Bool) (fa fb : FE) (δ : DS) : Option D := match a with
  | some true => fa δ
  | some false => fb δ
  | none => none
def qL (a : Option D) : Option (List D) := match a with
  | some (.list l) => some l
  | _ => none
def qFor (a : Option (List D)) (g : FG) (b : FS) (δ : DS) : Option Oc := match a with
  | some l => forD g b l δ
  | none => none
def qD (a : Option DS) : Option Oc := match a with
  | some δ => some (.nx δ)
  | none => none
def qG (a : Option D) (g : FG) (δ : DS) : Option DS := match a with
  | some d => g d δ
  | none => none
def qGs (a : Option DS) (r : List D → DS → Option DS) (l : List D) : Option DS := match a with
  | some δ => r l δ
  | none => none
def qT (a : Option (List D)) : Option D := match a with
  | some l => if l.length ≤ sizeLine then some (.tuple l) else none
  | none => none
def qK (a : Option (List D)) : Option D := match a with
  | some l => if l.length ≤ sizeLine then some (.list l) else none
  | none => none
def qFl (p : D → Bool) (a : Option D) : Option D := match a with
  | some d => if p d = true then some d else none
  | none => none
def qA (i : Nat) (x a : Option D) (δ : DS) : Option Oc := match x, a with
  | some (.list l), some d => if l.length < 1000000 then some (.nx (δ.set i (some (.d (.list (l ++ [d])))))) else none
  | _, _ => none
def qP (i : Nat) (a x k : Option D) (δ : DS) : Option Oc := match a, x, k with
  | some d, some (.list l), some (.int j) => (pIx l.length j).bind fun n => some (.nx (δ.set i (some (.d (.list (l.set n d))))))
  | _, _, _ => none
def qCh (g' : D → D → Option D) (z : Option D) (y : Option D) (fc : FE) (δ : DS) : Option D := match z with
  | some (.bool true) => qO g' y (fc δ)
  | some (.bool false) => some (.bool false)
  | _ => none
def qFn (o : Option Oc) : Option D := match o with
  | some (.rt d) => some d
  | some (.nx _) => some .none
  | _ => none
def qCo (a : Option (List D)) (g : FG) (c : FT) (e : FE) (t : Nat) (ix : List Nat) (δ : DS) : Option D := match a with
  | some l => if l.length ≤ 100000 then (match compD g c e (capD t ix δ) l with | some r => some (.list r) | none => none) else none
  | none => none
section
variable {a b : FS} {c c' : FT} {fa fb fc : FE} {fr : FA} {δ : DS} {g : D → D → Option D} {h : D → Option D} {F : List D → Option D} {i : Nat} {G : FG} {d : D}
theorem v_seq : sSeq a b δ = qS (a δ) b := by
  unfold sSeq qS
  cases a δ with
  | none => rfl
  | some o => cases o <;> rfl
theorem v_seq_nx {δ' : DS} : qS (some (.nx δ')) b = b δ' := rfl
theorem v_seq_rt : qS (some (.rt d)) b = some (.rt d) := rfl
theorem v_seq_bk {δ' : DS} : qS (some (.bk δ')) b = some (.bk δ') := rfl
theorem v_seq_ct {δ' : DS} : qS (some (.ct δ')) b = some (.ct δ') := rfl
theorem v_nil : sNil δ = some (.nx δ) := rfl
theorem v_bk : sBk δ = some (.bk δ) := rfl
theorem v_ct : sCt δ = some (.ct δ) := rfl
theorem v_if : sIf c a b δ = qI (c δ) a b δ := by
  unfold sIf qI
  cases c δ with
  | none => rfl
  | some t => cases t <;> rfl
theorem v_if_t : qI (some true) a b δ = a δ := rfl
theorem v_if_f : qI (some false) a b δ = b δ := rfl
theorem v_op : dOp g fa fb δ = qO g (fa δ) (fb δ) := by
  unfold dOp qO
  cases fa δ <;> cases fb δ <;> rfl
theorem v_op_s {x y : D} : qO g (some x) (some y) = g x y := rfl
theorem v_un : dUn h fa δ = qU h (fa δ) := by
  unfold dUn qU
  cases fa δ <;> rfl
theorem v_un_s {x : D} : qU h (some x) = h x := rfl
theorem v_lnil : dNil δ = some [] := rfl
theorem v_lcons : dCons fa fr δ = qC (fa δ) (fr δ) := by
  unfold dCons qC
  cases fa δ <;> cases fr δ <;> rfl
theorem v_lcons_s {x : D} {l : List D} : qC (some x) (some l) = some (x :: l) := rfl
theorem v_call : dCall F fr δ = qF F (fr δ) := by
  unfold dCall qF
  cases fr δ <;> rfl
theorem v_call_s {l : List D} : qF F (some l) = F l := rfl
theorem v_ret : sRet fa δ = qR (fa δ) := by
  unfold sRet qR
  cases fa δ <;> rfl
theorem v_ret_s : qR (some d) = some (.rt d) := rfl
theorem v_retN : sRetN δ = some (.rt .none) := rfl
theorem v_set : sSetl i fa δ = qSet i (fa δ) δ := by
  unfold sSetl sSet qSet
  cases fa δ with
  | none => simp
  | some d => rfl
theorem v_set_s : qSet i (some d) δ = if i < δ.length then some (.nx (δ.set i (some (.d d)))) else none := rfl
theorem v_c : dC d δ = some d := rfl
theorem v_and : dAnd fa fb δ = qAnd (fa δ) fb δ := by
  unfold dAnd qAnd
  cases fa δ with
  | none => rfl
  | some x =>
    cases x <;> try rfl
    next b => cases b <;> rfl
theorem v_and_t : qAnd (some (.bool true)) fb δ = fb δ := rfl
theorem v_and_f : qAnd (some (.bool false)) fb δ = some (.bool false) := rfl
theorem v_or : dOr fa fb δ = qOr (fa δ) fb δ := by
  unfold dOr qOr
  cases fa δ with
  | none => rfl
  | some x =>
    cases x <;> try rfl
    next b => cases b <;> rfl
theorem v_or_t : qOr (some (.bool true)) fb δ = some (.bool true) := rfl
theorem v_or_f : qOr (some (.bool false)) fb δ = fb δ := rfl
theorem v_not : dNot fa δ = qN (fa δ) := by
  unfold dNot qN
  cases fa δ with
  | none => rfl
  | some x => cases x <;> rfl
theorem v_not_s {b : Bool} : qN (some (.bool b)) = some (.bool (!b)) := rfl
theorem v_tb : tBool fa δ = qB (fa δ) := by
  unfold tBool qB
  cases fa δ with
  | none => rfl
  | some x => cases x <;> rfl
theorem v_tb_s {b : Bool} : qB (some (.bool b)) = some b := rfl
theorem v_tand : D3.tAnd c c' δ = qTA (c δ) c' δ := by
  unfold D3.tAnd qTA
  cases c δ with
  | none => rfl
  | some t => cases t <;> rfl
theorem v_tand_t : qTA (some true) c δ = c δ := rfl
theorem v_tand_f : qTA (some false) c δ = some false := rfl
theorem v_tor : D3.tOr c c' δ = qTO (c δ) c' δ := by
  unfold D3.tOr qTO
  cases c δ with
  | none => rfl
  | some t => cases t <;> rfl
theorem v_tor_t : qTO (some true) c δ = some true := rfl
theorem v_tor_f : qTO (some false) c δ = c δ := rfl
theorem v_tnot : D3.tNot c δ = qTN (c δ) := by
  unfold D3.tNot qTN
  cases c δ <;> rfl
theorem v_tnot_s {b : Bool} : qTN (some b) = some (!b) := rfl
theorem v_ite : dIf c fa fb δ = qE (c δ) fa fb δ := by
  unfold dIf qE
  cases c δ with
  | none => rfl
  | some t => cases t <;> rfl
theorem v_ite_t : qE (some true) fa fb δ = fa δ := rfl
theorem v_ite_f : qE (some false) fa fb δ = fb δ := rfl
theorem v_lst : fLst fa δ = qL (fa δ) := by
  unfold fLst qL asList
  cases fa δ with
  | none => rfl
  | some x => cases x <;> rfl
theorem v_lst_s {l : List D} : qL (some (.list l)) = some l := rfl
theorem v_for : sFor fr G b δ = qFor (fr δ) G b δ := by
  unfold sFor qFor
  cases fr δ <;> rfl
theorem v_for_s {l : List D} : qFor (some l) G b δ = forD G b l δ := rfl
theorem v_for_nil : forD G b [] δ = some (.nx δ) := rfl
theorem v_asg : sAsg fa G δ = qD (qG (fa δ) G δ) := by
  unfold sAsg qG qD
  cases fa δ with
  | none => rfl
  | some d =>
    dsimp only [Option.bind_some]
    cases G d δ <;> rfl
theorem v_asg_s : qG (some d) G δ = G d δ := rfl
theorem v_asg_d {δ' : DS} : qD (some δ') = some (.nx δ') := rfl
theorem v_gn : gNl i d δ = if i < δ.length then some (δ.set i (some (.d d))) else none := rfl
theorem v_gt {n : Nat} {gs : List D → DS → Option DS} {l : List D} : gTn n gs (.tuple l) δ = if l.length = n then gs l δ else none := rfl
theorem v_gsn : gsNil [] δ = some δ := rfl
theorem v_gsc {gs : List D → DS → Option DS} {l : List D} : gsCons G gs (d :: l) δ = qGs (G d δ) gs l := by
  show (G d δ).bind (fun δ' => gs l δ') = qGs (G d δ) gs l
  cases G d δ <;> rfl
theorem v_gsc_s {gs : List D → DS → Option DS} {l : List D} {δ' : DS} : qGs (some δ') gs l = gs l δ' := rfl
theorem v_tup : dTup fr δ = qT (fr δ) := by
  unfold dTup qT
  cases fr δ <;> rfl
theorem v_tup_s {l : List D} : qT (some l) = if l.length ≤ sizeLine then some (.tuple l) else none := rfl
theorem v_dl : dLst fr δ = qK (fr δ) := by
  unfold dLst qK
  cases fr δ <;> rfl
theorem v_dl_s {l : List D} : qK (some l) = if l.length ≤ sizeLine then some (.list l) else none := rfl
theorem v_flat : dFlat fa δ = qFl flat (fa δ) := by
  unfold dFlat qFl
  cases fa δ <;> rfl
theorem v_fl1 : dFl1 fa δ = qFl fl1 (fa δ) := by
  unfold dFl1 qFl
  cases fa δ <;> rfl
theorem v_fl_s {p : D → Bool} : qFl p (some d) = if p d = true then some d else none := rfl
theorem v_app : sApp i fa δ = qA i (dVar i δ) (fa δ) δ := by
  unfold sApp qA
  cases dVar i δ with
  | none => rfl
  | some x =>
    cases fa δ with
    | none => cases x <;> rfl
    | some d => cases x <;> rfl
theorem v_app_s {l : List D} : qA i (some (.list l)) (some d) δ = if l.length < 1000000 then some (.nx (δ.set i (some (.d (.list (l ++ [d])))))) else none := rfl
theorem v_put {fk : FE} : sPut i fk fa δ = qP i (fa δ) (dVar i δ) (fk δ) δ := by
  unfold sPut qP
  cases fa δ with
  | none => rfl
  | some d =>
    cases dVar i δ with
    | none => rfl
    | some x =>
      cases fk δ with
      | none => cases x <;> rfl
      | some k => cases x <;> cases k <;> rfl
theorem v_put_s {l : List D} {j : Int} : qP i (some d) (some (.list l)) (some (.int j)) δ = (pIx l.length j).bind fun n => some (.nx (δ.set i (some (.d (.list (l.set n d)))))) := rfl
theorem v_chain {g' : D → D → Option D} : dChain g g' fa fb fc δ = qCh g' (qO g (fa δ) (fb δ)) (fb δ) fc δ := by
  unfold dChain qCh qO
  cases fa δ with
  | none => rfl
  | some x =>
    cases fb δ with
    | none => rfl
    | some y =>
      dsimp only [Option.bind_some]
      cases g x y with
      | none => rfl
      | some z =>
        cases z <;> try rfl
        next b =>
        cases b with
        | false => rfl
        | true => dsimp only [Option.bind_some]; cases fc δ <;> rfl
theorem v_chain_t {g' : D → D → Option D} {y : Option D} : qCh g' (some (.bool true)) y fc δ = qO g' y (fc δ) := rfl
theorem v_chain_f {g' : D → D → Option D} {y : Option D} : qCh g' (some (.bool false)) y fc δ = some (.bool false) := rfl
theorem v_fn {p q : Nat} {ds : List D} : fnD p q b ds = if ds.length = p then qFn (b (ds.map (fun d => some (.d d)) ++ List.replicate q none)) else none := by
  unfold fnD qFn
  rfl
theorem v_fn_rt : qFn (some (.rt d)) = some d := rfl
theorem v_fn_nx {δ' : DS} : qFn (some (.nx δ')) = some .none := rfl
theorem v_comp {t : Nat} {ix : List Nat} : dComp fr G c fa t ix δ = qCo (fr δ) G c fa t ix δ := by
  unfold dComp qCo
  cases fr δ with
  | none => rfl
  | some l =>
    dsimp only [Option.bind_some]
    by_cases z : l.length ≤ 100000
    · rw [if_pos z, if_pos z]
      cases compD G c fa (capD t ix δ) l <;> rfl
    · rw [if_neg z, if_neg z]
theorem v_comp_s {t : Nat} {ix : List Nat} {l : List D} : qCo (some l) G c fa t ix δ = if l.length ≤ 100000 then (match compD G c fa (capD t ix δ) l with | some r => some (.list r) | none => none) else none := rfl
theorem v_yes : D3.tYes δ = some true := rfl
theorem v_var0 {r : DS} {x : D} : dVar 0 (some (.d x) :: r) = some x := rfl
theorem v_varS {r : DS} {y : Option U} : dVar (i + 1) (y :: r) = dVar i r := rfl
end
section
variable {i j : Int} {l m : List D} {d : D}
theorem n_add : gAdd (.int i) (.int j) = some (.int (i + j)) := rfl
theorem n_sub : gSub (.int i) (.int j) = some (.int (i - j)) := rfl
theorem n_lt : gLt (.int i) (.int j) = some (.bool (decide (i < j))) := rfl
theorem n_le : gLe (.int i) (.int j) = some (.bool (decide (i ≤ j))) := rfl
theorem n_gt : gGt (.int i) (.int j) = some (.bool (decide (j < i))) := rfl
theorem n_ge : gGe (.int i) (.int j) = some (.bool (decide (j ≤ i))) := rfl
theorem n_eqI : gEq (.int i) (.int j) = some (.bool (decide (i = j))) := rfl
theorem n_neI : gNe (.int i) (.int j) = some (.bool (!decide (i = j))) := rfl
theorem n_len : gLen [.list l] = some (.int l.length) := rfl
theorem n_lenT : gLen [.tuple l] = some (.int l.length) := rfl
theorem intsD_map : ∀ ns : List Int, intsD (ns.map .int) = some ns
  | [] => rfl
  | n :: r => by rw [List.map_cons, intsD, intsD_map r]; rfl
theorem n_sum {ns : List Int} : gSum [.list (ns.map .int)] = some (.int ns.sum) := by
  show (intsD (ns.map .int)).map _ = _
  rw [intsD_map]
  rfl
theorem n_abs : gAbs [.int i] = some (.int (if i < 0 then -i else i)) := rfl
theorem n_max : gMax2 [.int i, .int j] = some (.int (if j > i then j else i)) := rfl
theorem n_min : gMin2 [.int i, .int j] = some (.int (if j < i then j else i)) := rfl
theorem n_neg : gNeg (.int i) = some (.int (-i)) := rfl
theorem n_ix : gIx (.list l) (.int i) = pAt l i := rfl
theorem n_ixT : gIx (.tuple l) (.int i) = pAt l i := rfl
theorem n_cat : gCat (.list l) (.list m) = if l.length + m.length ≤ 1000000 then some (.list (l ++ m)) else none := rfl
theorem n_list : gList (.list l) = some (.list l) := rfl
theorem n_listT : gList (.tuple l) = some (.list l) := rfl
theorem n_at0 : pAt (d :: l) 0 = some d := by
  unfold pAt pIx
  rw [if_pos (by decide), if_pos (by simp)]
  rfl
end
def qPar (i j : Nat) (a : Option (List D)) (δ : DS) : Option Oc := match a with
  | some l => match l with
    | [x, y] => if i < δ.length ∧ j < δ.length then some (.nx ((δ.set i (some (.d x))).set j (some (.d y)))) else none
    | _ => none
  | none => none
def qRng1 (a : Option (List D)) : Option (List D) := match a with
  | some l => match l with
    | [.int j] => if rngG j = true then some (rngD 0 j) else none
    | _ => none
  | none => none
def qRng2 (a : Option (List D)) : Option (List D) := match a with
  | some l => match l with
    | [.int i, .int j] => if (rngG i && rngG j) = true then some (rngD i j) else none
    | _ => none
  | none => none
def qSl (x : Option D) (a b : Option (Option Int)) : Option D := match x, a, b with
  | some (.list l), some a, some b => some (.list (cutD l a b))
  | _, _, _ => none
def qOP (x : Option D) : Option (Option Int) := match x with
  | some (.int i) => some (some i)
  | _ => none
def qEn (x : Option D) : Option (List D) := match x with
  | some (.list l) => some (enumD l)
  | _ => none
section
variable {a b : FS} {fa : FE} {fr : FA} {δ : DS} {i j : Nat} {g : FG}
theorem v_par : sPar i j fr δ = qPar i j (fr δ) δ := by
  unfold sPar qPar
  cases fr δ with
  | none => rfl
  | some l => rfl
theorem v_par_s {x y : D} : qPar i j (some [x, y]) δ = if i < δ.length ∧ j < δ.length then some (.nx ((δ.set i (some (.d x))).set j (some (.d y)))) else none := rfl
theorem v_rng1 : fRng1 fr δ = qRng1 (fr δ) := by
  unfold fRng1 qRng1
  cases fr δ with
  | none => rfl
  | some l => rfl
theorem rng1 {k : Int} (h : -(2 ^ 62) ≤ k) (h2 : k < 2 ^ 62) : qRng1 (some [.int k]) = some (rngD 0 k) := by
  show (if rngG k = true then some (rngD 0 k) else none) = _
  rw [if_pos]
  unfold rngG
  rw [decide_eq_true h, decide_eq_true h2]
  rfl
theorem v_rng2 : fRng2 fr δ = qRng2 (fr δ) := by
  unfold fRng2 qRng2
  cases fr δ with
  | none => rfl
  | some l => rfl
theorem rng2 {i k : Int} (h : -(2 ^ 62) ≤ k) (h2 : k < 2 ^ 62) (h3 : -(2 ^ 62) ≤ i) (h4 : i < 2 ^ 62) : qRng2 (some [.int i, .int k]) = some (rngD i k) := by
  show (if (rngG i && rngG k) = true then some (rngD i k) else none) = _
  rw [if_pos]
  unfold rngG
  rw [decide_eq_true h, decide_eq_true h2, decide_eq_true h3, decide_eq_true h4]
  rfl
theorem v_sl {lo hi : FO} : dSl fa lo hi δ = qSl (fa δ) (lo δ) (hi δ) := by
  unfold dSl qSl
  cases fa δ with
  | none => rfl
  | some x =>
    dsimp only [Option.bind_some]
    cases lo δ with
    | none => cases x <;> rfl
    | some p =>
      dsimp only [Option.bind_some]
      cases hi δ with
      | none => cases x <;> rfl
      | some r => cases x <;> rfl
theorem v_sl_s {l : List D} {p r : Option Int} : qSl (some (.list l)) (some p) (some r) = some (.list (cutD l p r)) := rfl
theorem v_oN : oNone δ = some none := rfl
theorem v_oP : oPart fa δ = qOP (fa δ) := by
  unfold oPart qOP
  cases fa δ with
  | none => rfl
  | some x => cases x <;> rfl
theorem v_oP_s {k : Int} : qOP (some (.int k)) = some (some k) := rfl
theorem v_enum : fEnum fa δ = qEn (fa δ) := by
  unfold fEnum qEn
  cases fa δ with
  | none => rfl
  | some x => cases x <;> rfl
theorem v_enum_s {l : List D} : qEn (some (.list l)) = some (enumD l) := rfl
theorem for_inv (Inv : Nat → DS → Prop) : ∀ (l : List D) (δ : DS), Inv 0 δ → (∀ i d δ, l[i]? = some d → Inv i δ → ∃ δ1 δ', g d δ = some δ1 ∧ (b δ1 = some (.nx δ') ∨ b δ1 = some (.ct δ')) ∧ Inv (i + 1) δ') → ∃ δ', forD g b l δ = some (.nx δ') ∧ Inv l.length δ' := by
  have key : ∀ (l : List D) (k : Nat) (δ : DS), Inv k δ → (∀ i d δ, l[i]? = some d → Inv (k + i) δ → ∃ δ1 δ', g d δ = some δ1 ∧ (b δ1 = some (.nx δ') ∨ b δ1 = some (.ct δ')) ∧ Inv (k + i + 1) δ') → ∃ δ', forD g b l δ = some (.nx δ') ∧ Inv (k + l.length) δ' := by
    intro l
    induction l with
    | nil => exact fun k δ h _ => ⟨δ, rfl, h⟩
    | cons d r ih =>
      intro k δ h hs
      obtain ⟨δ1, δ', e1, e2, e3⟩ := hs 0 d δ rfl h
      obtain ⟨δ2, e4, e5⟩ := ih (k + 1) δ' e3 fun i d' δ'' hd hi => by
        have := hs (i + 1) d' δ'' (by simpa using hd) (by rw [show k + (i + 1) = k + 1 + i by omega]; exact hi)
        rw [show k + (i + 1) + 1 = k + 1 + i + 1 by omega] at this
        exact this
      refine ⟨δ2, ?_, by rw [List.length_cons, show k + (r.length + 1) = k + 1 + r.length by omega]; exact e5⟩
      rw [forD, e1, Option.bind_some]
      rcases e2 with e2 | e2
      · rw [e2]; exact e4
      · rw [e2]; exact e4
  intro l δ h hs
  have := key l 0 δ h fun i d δ hd hi => by
    have := hs i d δ hd (by rw [Nat.zero_add] at hi; exact hi)
    rw [Nat.zero_add]
    exact this
  rw [Nat.zero_add] at this
  exact this
end
def qX (a : Option D) (δ : DS) : Option Oc := match a with
  | some _ => some (.nx δ)
  | none => none
theorem v_expr {fa : FE} {δ : DS} : sExpr fa δ = qX (fa δ) δ := by
  unfold sExpr qX
  cases fa δ <;> rfl
theorem v_expr_s {d : D} {δ : DS} : qX (some d) δ = some (.nx δ) := rfl
theorem v_chain3 {g g' g'' : D → D → Option D} {fa fb fc fd : FE} {δ : DS} : dChain3 g g' g'' fa fb fc fd δ = qAnd (qO g (fa δ) (fb δ)) (dChain g' g'' fb fc fd) δ := by
  unfold dChain3 qAnd dChain qO
  cases fa δ with
  | none => rfl
  | some x =>
    cases fb δ with
    | none => rfl
    | some y =>
      dsimp only [Option.bind_some]
      cases g x y with
      | none => rfl
      | some z =>
        cases z <;> try rfl
        next b => cases b <;> rfl
def qZ (a b : Option D) : Option (List D) := match a, b with
  | some (.list l), some (.list m) => some (zipD l m)
  | _, _ => none
theorem v_zip {f g : FE} {δ : DS} : fZip f g δ = qZ (f δ) (g δ) := by
  unfold fZip qZ
  cases f δ with
  | none => rfl
  | some x =>
    cases g δ with
    | none => cases x <;> rfl
    | some y => cases x <;> cases y <;> rfl
theorem v_zip_s {l m : List D} : qZ (some (.list l)) (some (.list m)) = some (zipD l m) := rfl
theorem v_n1 {fa : FE} {δ : DS} : dN1 fa δ = qFl (fun d => decide (nl d ≤ 1)) (fa δ) := by
  unfold dN1 qFl
  cases fa δ <;> rfl
theorem nApp_of {i n : Nat} {fk f : FE} {δ : DS} {l m : List D} {d : D} (h1 : dVar i δ = some (.list l)) (h2 : fk δ = some (.int (n : Int))) (h3 : f δ = some d) (h4 : l[n]? = some (.list m)) (h5 : flat d = true) (h6 : m.length < 1000000) :
    sNApp i fk f δ = some (.nx (δ.set i (some (.d (.list (l.set n (.list (m ++ [d])))))))) := by
  have hn : n < l.length := by
    rcases Nat.lt_or_ge n l.length with z | z
    · exact z
    · rw [List.getElem?_eq_none z] at h4; cases h4
  unfold sNApp nMut
  rw [h1, Option.bind_some, h2, Option.bind_some, h3, Option.bind_some]
  show (pIx l.length (n : Int)).bind _ = _
  have : pIx l.length (n : Int) = some n := by
    unfold pIx
    rw [if_pos (by omega), if_pos (by omega)]
    rfl
  rw [this, Option.bind_some, h4]
  show (if flat d = true ∧ m.length < 1000000 then some (m ++ [d]) else none).bind _ = _
  rw [if_pos ⟨h5, h6⟩]
  rfl
theorem f_non : flat .none = true := rfl
theorem f_bl {b : Bool} : flat (.bool b) = true := rfl
theorem f_int {i : Int} : flat (.int i) = true := rfl
theorem f_str {x : Str} : flat (.str x) = true := rfl
theorem f_lst {l : List D} : flat (.list l) = false := rfl
theorem f_tup {l : List D} : flat (.tuple l) = flats l := rfl
theorem f_nil : flats [] = true := rfl
theorem f_cons {d : D} {l : List D} : flats (d :: l) = (flat d && flats l) := rfl
theorem f1_non : fl1 .none = true := rfl
theorem f1_bl {b : Bool} : fl1 (.bool b) = true := rfl
theorem f1_int {i : Int} : fl1 (.int i) = true := rfl
theorem f1_str {x : Str} : fl1 (.str x) = true := rfl
theorem f1_lst {l : List D} : fl1 (.list l) = flats l := rfl
theorem f1_tup {l : List D} : fl1 (.tuple l) = flats l := rfl
theorem u_is {c : String} {d : D} : gIs c d = some (.bool (isT c (tyD d))) := rfl
theorem u_isN {d : D} : gIsN d = some (.bool (isNone d)) := rfl
theorem u_notN {d : D} : gNotN d = some (.bool (!isNone d)) := rfl
theorem n_non : isNone .none = true := rfl
theorem n_bl {b : Bool} : isNone (.bool b) = false := rfl
theorem n_int {i : Int} : isNone (.int i) = false := rfl
theorem n_str {x : Str} : isNone (.str x) = false := rfl
theorem n_lst {l : List D} : isNone (.list l) = false := rfl
theorem n_tup {l : List D} : isNone (.tuple l) = false := rfl
theorem n_dic {l : List (D × D)} : isNone (.dict l) = false := rfl
def EVL := And.intro @f_non <| And.intro @f_bl <| And.intro @f_int <| And.intro @f_str <| And.intro @f_lst <| And.intro @f_tup <| And.intro @f_nil <| And.intro @f_cons <| And.intro @f1_non <| And.intro @f1_bl <| And.intro @f1_int <| And.intro @f1_str <| And.intro @f1_lst <| And.intro @f1_tup <| And.intro @u_is <| And.intro @u_isN <| And.intro @u_notN <| And.intro @n_non <| And.intro @n_bl <| And.intro @n_int <| And.intro @n_str <| And.intro @n_lst <| And.intro @n_tup <| And.intro @n_dic <| And.intro @List.length_cons.{0} <| And.intro @List.length_nil.{0} <| And.intro @List.map_cons.{0, 0} <| And.intro @List.map_nil.{0, 0} <| And.intro @List.replicate_succ.{0} <| And.intro @List.replicate_zero.{0} <| And.intro @List.cons_append.{0} <| And.intro @List.nil_append.{0} <| And.intro @List.append_nil.{0} <| And.intro @List.set_cons_zero.{0} <| And.intro @List.set_cons_succ.{0} <| And.intro @Nat.zero_add <| And.intro @if_true.{1} <| And.intro @decide_true <| And.intro @decide_false <| And.intro @Int.cast_ofNat_Int <| And.intro @Bool.not_true <| And.intro @Bool.not_false <| @Bool.and_self
def EV := And.intro EVL <| And.intro @v_n1 <| And.intro @v_zip <| And.intro @v_zip_s <| And.intro @v_expr <| And.intro @v_expr_s <| And.intro @v_chain3 <| And.intro @v_seq (And.intro @v_seq_nx (And.intro @v_seq_rt (And.intro @v_seq_bk (And.intro @v_seq_ct (And.intro @v_nil (And.intro @v_bk (And.intro @v_ct (And.intro @v_if (And.intro @v_if_t (And.intro @v_if_f (And.intro @v_op (And.intro @v_op_s (And.intro @v_un (And.intro @v_un_s (And.intro @v_lnil (And.intro @v_lcons (And.intro @v_lcons_s (And.intro @v_call (And.intro @v_call_s (And.intro @v_ret (And.intro @v_ret_s (And.intro @v_retN (And.intro @v_set (And.intro @v_set_s (And.intro @v_c (And.intro @v_and (And.intro @v_and_t (And.intro @v_and_f (And.intro @v_or (And.intro @v_or_t (And.intro @v_or_f (And.intro @v_not (And.intro @v_not_s (And.intro @v_tb (And.intro @v_tb_s (And.intro @v_tand (And.intro @v_tand_t (And.intro @v_tand_f (And.intro @v_tor (And.intro @v_tor_t (And.intro @v_tor_f (And.intro @v_tnot (And.intro @v_tnot_s (And.intro @v_ite (And.intro @v_ite_t (And.intro @v_ite_f (And.intro @v_lst (And.intro @v_lst_s (And.intro @v_for (And.intro @v_for_s (And.intro @v_for_nil (And.intro @v_asg (And.intro @v_asg_s (And.intro @v_asg_d (And.intro @v_gn (And.intro @v_gt (And.intro @v_gsn (And.intro @v_gsc (And.intro @v_gsc_s (And.intro @v_tup (And.intro @v_tup_s (And.intro @v_dl (And.intro @v_dl_s (And.intro @v_flat (And.intro @v_fl1 (And.intro @v_fl_s (And.intro @v_app (And.intro @v_app_s (And.intro @v_put (And.intro @v_put_s (And.intro @v_chain (And.intro @v_chain_t (And.intro @v_chain_f (And.intro @v_fn (And.intro @v_fn_rt (And.intro @v_fn_nx (And.intro @v_comp (And.intro @v_comp_s (And.intro @v_yes (And.intro @v_var0 (And.intro @v_varS (And.intro @n_add (And.intro @n_sub (And.intro @n_lt (And.intro @n_le (And.intro @n_gt (And.intro @n_ge (And.intro @n_eqI (And.intro @n_neI (And.intro @n_len (And.intro @n_lenT (And.intro @n_abs (And.intro @n_max (And.intro @n_min (And.intro @n_neg (And.intro @n_ix (And.intro @n_ixT (And.intro @n_cat (And.intro @n_list (And.intro @n_listT (And.intro @n_at0 (And.intro @v_par (And.intro @v_par_s (And.intro @v_rng1 (And.intro @v_rng2 (And.intro @v_sl (And.intro @v_sl_s (And.intro @v_oN (And.intro @v_oP (And.intro @v_oP_s (And.intro @v_enum @v_enum_s)))))))))))))))))))))))))))))))))))))))))))))))))))))))))))))))))))))))))))))))))))))))))))))))))))))))))))))))
end D3
namespace My
def cellF (ns : List Int) (i : Int) : Int :=
  if i < (ns.length : Int) then ns.getD i.toNat 0 % 1000000007
  else if ns = [] then 7919 * i + 5000011
  else ns.getD (i * 7 % (ns.length : Int)).toNat 0 % 1000000007 + 7919 * i
def divs (n : Int) : Nat → Int
  | 0 => n
  | k + 1 => divs n k / 1000003
def drawF (c i k m : Int) : Int :=
  (((c + 65537 * i + 3) * (1299709 + 15485863 * k) % 2147483629 * ((c + 65537 * i + 3) * (1299709 + 15485863 * k) % 2147483629) % 1500450271 + 104729) *
    ((c + 65537 * i + 3) * (1299709 + 15485863 * k) % 2147483629 * ((c + 65537 * i + 3) * (1299709 + 15485863 * k) % 2147483629) % 1500450271 + 104729)) % 715827883 / 64 % m
def partF (ns : List Int) (i k m : Int) : Int :=
  if i < (ns.length : Int) ∧ 10 ^ 40 ≤ ns.getD i.toNat 0 ∧ 0 < divs (ns.getD i.toNat 0) k.toNat then divs (ns.getD i.toNat 0) k.toNat % 1000003 % m
  else drawF (cellF ns i) i k m
theorem partF_range (ns : List Int) (i k : Int) {m : Int} (h : 0 < m) : 0 ≤ partF ns i k m ∧ partF ns i k m < m := by
  unfold partF drawF
  split
  · exact ⟨Int.emod_nonneg _ (by omega), Int.emod_lt_of_pos _ h⟩
  · exact ⟨Int.emod_nonneg _ (by omega), Int.emod_lt_of_pos _ h⟩
theorem partF_hit {ns : List Int} {i k m : Int} (h1 : i < (ns.length : Int)) (h2 : 10 ^ 40 ≤ ns.getD i.toNat 0) (h3 : 0 < divs (ns.getD i.toNat 0) k.toNat) :
    partF ns i k m = divs (ns.getD i.toNat 0) k.toNat % 1000003 % m := by
  unfold partF
  rw [if_pos ⟨h1, h2, h3⟩]
theorem partF_miss {ns : List Int} {i k m : Int} (h : ¬ (i < (ns.length : Int) ∧ 10 ^ 40 ≤ ns.getD i.toNat 0 ∧ 0 < divs (ns.getD i.toNat 0) k.toNat)) :
    partF ns i k m = drawF (cellF ns i) i k m := by
  unfold partF
  rw [if_neg h]
def gcdI (a b : Int) : Int := ((Nat.gcd a.natAbs b.natAbs : Nat) : Int)
theorem gcdI_zero {a : Int} (h : 0 ≤ a) : gcdI a 0 = a := by
  unfold gcdI
  simp
  omega
theorem gcdI_step {a b : Int} (ha : 0 ≤ a) (hb : 0 < b) : gcdI b (a % b) = gcdI a b := by
  unfold gcdI
  have e : (a % b).natAbs = a.natAbs % b.natAbs := by
    rw [Int.natAbs_emod_of_nonneg ha]
  rw [e, Nat.gcd_comm b.natAbs, ← Nat.gcd_rec b.natAbs a.natAbs, Nat.gcd_comm]
theorem gcdI_abs (a b : Int) : gcdI (if a < 0 then -a else a) (if b < 0 then -b else b) = gcdI a b := by
  unfold gcdI
  have e : ∀ c : Int, (if c < 0 then -c else c).natAbs = c.natAbs := fun c => by split <;> omega
  rw [e, e]
end My
namespace Com
open PySem D3
noncomputable def F_is_whole : List D → Option D := fnD 1 0 (sRet (dAnd (dUn (gIs "int") (dVar 0)) (dNot (dUn (gIs "bool") (dVar 0)))))
noncomputable def F_greatest_divisor : List D → Option D := fnD 2 1 (sSeq (sWhile (tBool (dOp gNe (dVar 1) (dC (.int 0)))) (sSeq (sSetl 2 (dOp gMod (dVar 0) (dVar 1)))
    (sSeq (sSetl 0 (dVar 1))
    (sSetl 1 (dVar 2)))))
    (sRet (dFlat (dVar 0))))
noncomputable def F_lowest : List D → Option D := fnD 2 1 (sSeq (sSetl 2 (dCall F_greatest_divisor (dCons (dCall gAbs (dCons (dVar 0) (dNil))) (dCons (dCall gAbs (dCons (dVar 1) (dNil))) (dNil)))))
    (sSeq (sIf (tBool (dOp gLt (dVar 1) (dC (.int 0)))) (sSetl 2 (dUn gNeg (dVar 2))) (sNil))
    (sRet (dTup (dCons (dOp gDiv (dVar 0) (dVar 2)) (dCons (dOp gDiv (dVar 1) (dVar 2)) (dNil)))))))
noncomputable def F_ratio : List D → Option D := fnD 2 0 (sSeq (sIf (D3.tOr (D3.tNot (tBool (dCall F_is_whole (dCons (dVar 0) (dNil))))) (D3.tNot (tBool (dCall F_is_whole (dCons (dVar 1) (dNil)))))) ((fun _ => none)) (sNil))
    (sSeq (sIf (tBool (dOp gEq (dVar 1) (dC (.int 0)))) ((fun _ => none)) (sNil))
    (sRet (dCall F_lowest (dCons (dVar 0) (dCons (dVar 1) (dNil)))))))
noncomputable def F__law_cell : List D → Option D := fnD 2 0 (sSeq (sIf (tBool (dOp gLt (dVar 1) (dCall gLen (dCons (dVar 0) (dNil))))) (sRet (dOp gMod (dOp gIx (dVar 0) (dVar 1)) (dC (.int 1000000007)))) (sNil))
    (sSeq (sIf (tBool (dOp gEq (dVar 0) (dLst (dNil)))) (sRet (dOp gAdd (dOp gMul (dC (.int 7919)) (dVar 1)) (dC (.int 5000011)))) (sNil))
    (sRet (dOp gAdd (dOp gMod (dOp gIx (dVar 0) (dOp gMod (dOp gMul (dVar 1) (dC (.int 7))) (dCall gLen (dCons (dVar 0) (dNil))))) (dC (.int 1000000007))) (dOp gMul (dC (.int 7919)) (dVar 1))))))
noncomputable def F__law_part : List D → Option D := fnD 4 2 (sSeq (sIf (D3.tAnd (tBool (dOp gLt (dVar 1) (dCall gLen (dCons (dVar 0) (dNil))))) (tBool (dOp gGe (dOp gIx (dVar 0) (dVar 1)) (dOp gPow (dC (.int 10)) (dC (.int 40)))))) (sSeq (sSetl 4 (dOp gIx (dVar 0) (dVar 1)))
    (sSeq (sFor (fRng1 (dCons (dVar 2) (dNil))) (gNl 5) (sSetl 4 (dOp gDiv (dVar 4) (dC (.int 1000003)))))
    (sIf (tBool (dOp gGt (dVar 4) (dC (.int 0)))) (sRet (dOp gMod (dOp gMod (dVar 4) (dC (.int 1000003))) (dVar 3))) (sNil)))) (sNil))
    (sSeq (sSetl 4 (dOp gMod (dOp gMul (dOp gAdd (dOp gAdd (dCall F__law_cell (dCons (dVar 0) (dCons (dVar 1) (dNil)))) (dOp gMul (dC (.int 65537)) (dVar 1))) (dC (.int 3))) (dOp gAdd (dC (.int 1299709)) (dOp gMul (dC (.int 15485863)) (dVar 2)))) (dC (.int 2147483629))))
    (sSeq (sSetl 4 (dOp gAdd (dOp gMod (dOp gMul (dVar 4) (dVar 4)) (dC (.int 1500450271))) (dC (.int 104729))))
    (sRet (dOp gMod (dOp gDiv (dOp gMod (dOp gMul (dVar 4) (dVar 4)) (dC (.int 715827883))) (dC (.int 64))) (dVar 3))))))
noncomputable def F__law_whole : List D → Option D := fnD 1 0 (sRet (dAnd (dUn (gIs "int") (dVar 0)) (dNot (dUn (gIs "bool") (dVar 0)))))
noncomputable def F__law_divisor : List D → Option D := fnD 2 0 (sSeq (sWhile (tBool (dOp gGt (dVar 1) (dC (.int 0)))) (sPar 0 1 (dCons (dVar 1) (dCons (dOp gMod (dVar 0) (dVar 1)) (dNil)))))
    (sRet (dFlat (dVar 0))))
noncomputable def F_all_whole : List D → Option D := fnD 1 0 (sRet (dCall gAll (dCons (dComp (fLst (dVar 0)) (gNl 0) (tYes) (dCall F_is_whole (dCons (dVar 0) (dNil))) 1 []) (dNil))))
noncomputable def F_holds : List D → Option D := fnD 2 0 (sRet (dChain gLe gLt (dOp gIx (dVar 0) (dC (.int 0))) (dVar 1) (dOp gIx (dVar 0) (dC (.int 1)))))
noncomputable def F_with_row : List D → Option D := fnD 3 3 (sSeq (sSetl 3 (dOp gRep (dLst (dCons (dC (.int 0)) (dNil))) (dOp gAdd (dCall gLen (dCons (dVar 0) (dNil))) (dVar 1))))
    (sSeq (sFor (fEnum (dVar 0)) (gTn 2 (gsCons (gNl 4) (gsCons (gNl 5) (gsNil)))) (sSeq (sPut 3 (dVar 4) (dOp gAdd (dOp gIx (dVar 3) (dVar 4)) (dOp gMul (dVar 5) (dOp gSub (dOp gIx (dVar 2) (dC (.int 1))) (dOp gIx (dVar 2) (dC (.int 0)))))))
    (sPut 3 (dOp gAdd (dVar 4) (dVar 1)) (dOp gAdd (dOp gIx (dVar 3) (dOp gAdd (dVar 4) (dVar 1))) (dOp gMul (dVar 5) (dOp gIx (dVar 2) (dC (.int 0))))))))
    (sRet (dFl1 (dVar 3)))))
noncomputable def F_all_weights : List D → Option D := fnD 1 3 (sSeq (sSetl 1 (dLst (dCons (dC (.int 1)) (dNil))))
    (sSeq (sFor (fLst (dVar 0)) (gTn 2 (gsCons (gNl 2) (gsCons (gNl 3) (gsNil)))) (sSetl 1 (dFl1 (dCall F_with_row (dCons (dVar 1) (dCons (dVar 2) (dCons (dVar 3) (dNil))))))))
    (sRet (dFl1 (dVar 1)))))
noncomputable def F_common_bottom : List D → Option D := fnD 1 3 (sSeq (sSetl 1 (dC (.int 1)))
    (sSeq (sFor (fLst (dVar 0)) (gTn 2 (gsCons (gNl 2) (gsCons (gNl 3) (gsNil)))) (sSetl 1 (dOp gMul (dVar 1) (dOp gIx (dVar 3) (dC (.int 1))))))
    (sRet (dFlat (dVar 1)))))
noncomputable def F__law_low : List D → Option D := fnD 2 1 (sSeq (sSetl 2 (dCall F__law_divisor (dCons (dVar 0) (dCons (dVar 1) (dNil)))))
    (sRet (dTup (dCons (dOp gDiv (dVar 0) (dVar 2)) (dCons (dOp gDiv (dVar 1) (dVar 2)) (dNil))))))
noncomputable def F__law_is_ratio : List D → Option D := fnD 1 0 (sSeq (sIf (D3.tOr (D3.tNot (tBool (dUn (gIs "tuple") (dVar 0)))) (tBool (dOp gNe (dCall gLen (dCons (dVar 0) (dNil))) (dC (.int 2))))) (sRet (dC (.bool false))) (sNil))
    (sRet (dAnd (dCall F__law_whole (dCons (dOp gIx (dVar 0) (dC (.int 0))) (dNil))) (dCall F__law_whole (dCons (dOp gIx (dVar 0) (dC (.int 1))) (dNil))))))
noncomputable def F__law_chance : List D → Option D := fnD 2 2 (sSeq (sSetl 2 (dCall F__law_part (dCons (dVar 0) (dCons (dVar 1) (dCons (dC (.int 2)) (dCons (dC (.int 8)) (dNil)))))))
    (sSeq (sIf (tBool (dOp gLt (dVar 2) (dC (.int 2)))) (sRet (dTup (dCons (dFlat (dVar 2)) (dCons (dC (.int 1)) (dNil))))) (sNil))
    (sSeq (sSetl 3 (dOp gAdd (dC (.int 1)) (dCall F__law_part (dCons (dVar 0) (dCons (dVar 1) (dCons (dC (.int 3)) (dCons (dOp gIx (dLst (dCons (dC (.int 100)) (dCons (dC (.int 100)) (dCons (dC (.int 6)) (dNil))))) (dOp gMod (dVar 2) (dC (.int 3)))) (dNil))))))))
    (sRet (dCall F__law_low (dCons (dCall F__law_part (dCons (dVar 0) (dCons (dVar 1) (dCons (dC (.int 4)) (dCons (dOp gAdd (dVar 3) (dC (.int 1))) (dNil)))))) (dCons (dVar 3) (dNil))))))))
noncomputable def F_is_whole_list : List D → Option D := fnD 1 0 (sRet (dAnd (dUn (gIs "list") (dVar 0)) (dCall F_all_whole (dCons (dVar 0) (dNil)))))
noncomputable def F_nights_of : List D → Option D := fnD 1 0 (sRet (dTup (dCons (dFlat (dOp gIx (dVar 0) (dC (.int 0)))) (dCons (dFlat (dOp gIx (dVar 0) (dC (.int 1)))) (dNil)))))
noncomputable def F_comers_above : List D → Option D := fnD 2 0 (sRet (dCall F_ratio (dCons (dCall gSum (dCons (dSl (dCall F_all_weights (dCons (dVar 0) (dNil))) (oPart (dOp gAdd (dVar 1) (dC (.int 1)))) oNone) (dNil))) (dCons (dCall F_common_bottom (dCons (dVar 0) (dNil))) (dNil)))))
noncomputable def F_is_ladder : List D → Option D := fnD 1 0 (sSeq (sIf (D3.tOr (D3.tNot (tBool (dCall F_is_whole_list (dCons (dVar 0) (dNil))))) (D3.tNot (tBool (dChain gLe gLe (dC (.int 1)) (dCall gLen (dCons (dVar 0) (dNil))) (dC (.int 4)))))) (sRet (dC (.bool false))) (sNil))
    (sRet (dAnd (dOp gGe (dCall gMinL (dCons (dVar 0) (dNil))) (dC (.int 0))) (dOp gLe (dCall gSum (dCons (dVar 0) (dNil))) (dC (.int 12))))))
noncomputable def F_rooms_from : List D → Option D := fnD 2 0 (sRet (dCall gSum (dCons (dSl (dVar 0) (oPart (dOp gSub (dVar 1) (dC (.int 1)))) oNone) (dNil))))
noncomputable def F_chance_at : List D → Option D := fnD 4 1 (sSeq (sSetl 4 (dComp (fLst (dVar 0)) (gNl 0) (D3.tAnd (tBool (dOp gGe (dOp gIx (dVar 0) (dC (.int 2))) (dVar 1))) (tBool (dCall F_holds (dCons (dCall F_nights_of (dCons (dVar 0) (dNil))) (dCons (dVar 2) (dNil)))))) (dFlat (dTup (dCons (dC (.int 1)) (dCons (dOp gIx (dVar 0) (dC (.int 3))) (dNil))))) 1 [2, 1]))
    (sRet (dCall F_comers_above (dCons (dVar 4) (dCons (dCall F_rooms_from (dCons (dVar 3) (dCons (dVar 2) (dNil)))) (dNil))))))
noncomputable def F__law_ladder : List D → Option D := fnD 2 4 (sSeq (sSetl 2 (dLst (dNil)))
    (sSeq (sSetl 3 (dC (.int 12)))
    (sSeq (sSetl 4 (dOp gIx (dLst (dCons (dLst (dCons (dC (.int 0)) (dCons (dC (.int 1)) (dCons (dC (.int 1)) (dCons (dC (.int 2)) (dCons (dC (.int 3)) (dCons (dC (.int 5)) (dNil)))))))) (dCons (dLst (dCons (dC (.int 0)) (dCons (dC (.int 12)) (dCons (dC (.int 6)) (dCons (dC (.int 4)) (dCons (dC (.int 3)) (dCons (dC (.int 12)) (dNil)))))))) (dNil)))) (dCall gInt (dCons (dOp gEq (dCall F__law_part (dCons (dVar 0) (dCons (dVar 1) (dCons (dC (.int 5)) (dCons (dC (.int 4)) (dNil)))))) (dC (.int 1))) (dNil)))))
    (sSeq (sFor (fRng1 (dCons (dOp gAdd (dC (.int 1)) (dCall F__law_part (dCons (dVar 0) (dCons (dVar 1) (dCons (dC (.int 0)) (dCons (dC (.int 4)) (dNil))))))) (dNil))) (gNl 5) (sSeq (sApp 2 (dCall gMin2 (dCons (dVar 3) (dCons (dOp gIx (dVar 4) (dCall F__law_part (dCons (dVar 0) (dCons (dVar 1) (dCons (dOp gAdd (dC (.int 1)) (dVar 5)) (dCons (dC (.int 6)) (dNil))))))) (dNil)))))
    (sSetl 3 (dOp gSub (dVar 3) (dOp gIx (dVar 2) (dUn gNeg (dC (.int 1))))))))
    (sRet (dFl1 (dVar 2)))))))
noncomputable def F__law_base : List D → Option D := fnD 2 0 (sSeq (sIf (tBool (dOp gEq (dCall F__law_part (dCons (dVar 0) (dCons (dVar 1) (dCons (dC (.int 11)) (dCons (dC (.int 5)) (dNil)))))) (dC (.int 1)))) (sRet (dTup (dCons (dCall F__law_part (dCons (dVar 0) (dCons (dVar 1) (dCons (dC (.int 6)) (dCons (dC (.int 280)) (dNil)))))) (dCons (dC (.int 60)) (dCons (dC (.int 40)) (dNil)))))) (sNil))
    (sRet (dTup (dCons (dFlat (dOp gIx (dLst (dCons (dC (.int 0)) (dCons (dC (.int 385)) (dCons (dCall F__law_part (dCons (dVar 0) (dCons (dVar 1) (dCons (dC (.int 6)) (dCons (dC (.int 380)) (dNil)))))) (dNil))))) (dCall F__law_part (dCons (dVar 0) (dCons (dVar 1) (dCons (dC (.int 5)) (dCons (dC (.int 3)) (dNil)))))))) (dCons (dC (.int 9)) (dCons (dC (.int 7)) (dNil)))))))
noncomputable def F__law_stay : List D → Option D := fnD 5 2 (sSeq (sSetl 5 (dCall gMin2 (dCons (dC (.int 399)) (dCons (dOp gAdd (dVar 4) (dCall F__law_part (dCons (dVar 0) (dCons (dVar 1) (dCons (dVar 2) (dCons (dOp gIx (dLst (dCons (dC (.int 3)) (dCons (dC (.int 9)) (dCons (dC (.int 24)) (dCons (dC (.int 60)) (dNil)))))) (dVar 3)) (dNil))))))) (dNil)))))
    (sSeq (sSetl 6 (dOp gAdd (dC (.int 1)) (dCall F__law_part (dCons (dVar 0) (dCons (dVar 1) (dCons (dOp gAdd (dVar 2) (dC (.int 1))) (dCons (dOp gIx (dLst (dCons (dC (.int 2)) (dCons (dC (.int 6)) (dCons (dC (.int 24)) (dCons (dC (.int 60)) (dNil)))))) (dCall F__law_part (dCons (dVar 0) (dCons (dVar 1) (dCons (dOp gAdd (dVar 2) (dC (.int 2))) (dCons (dC (.int 4)) (dNil))))))) (dNil))))))))
    (sRet (dTup (dCons (dFlat (dVar 5)) (dCons (dCall gMin2 (dCons (dC (.int 400)) (dCons (dOp gAdd (dVar 5) (dVar 6)) (dNil)))) (dCons (dC (.none)) (dNil))))))))
noncomputable def F__law_chance_at : List D → Option D := fnD 4 9 (sSeq (sSetl 4 (dLst (dCons (dC (.int 1)) (dNil))))
    (sSeq (sSetl 5 (dC (.int 1)))
    (sSeq (sFor (fLst (dVar 0)) (gTn 4 (gsCons (gNl 6) (gsCons (gNl 7) (gsCons (gNl 8) (gsCons (gNl 9) (gsNil)))))) (sIf (D3.tAnd (tBool (dOp gLe (dVar 6) (dVar 1))) (D3.tAnd (tBool (dOp gLt (dVar 1) (dVar 7))) (tBool (dOp gLe (dVar 2) (dVar 8))))) (sSeq (sSetl 10 (dOp gCat (dLst (dCons (dC (.int 0)) (dNil))) (dComp (fLst (dVar 4)) (gNl 0) (tYes) (dOp gMul (dVar 0) (dOp gIx (dVar 1) (dC (.int 0)))) 1 [9])))
    (sSeq (sSetl 11 (dOp gCat (dComp (fLst (dVar 4)) (gNl 0) (tYes) (dOp gMul (dVar 0) (dOp gSub (dOp gIx (dVar 1) (dC (.int 1))) (dOp gIx (dVar 1) (dC (.int 0))))) 1 [9]) (dLst (dCons (dC (.int 0)) (dNil)))))
    (sSeq (sSetl 4 (dComp (fRng1 (dCons (dCall gLen (dCons (dVar 10) (dNil))) (dNil))) (gNl 0) (tYes) (dOp gAdd (dOp gIx (dVar 1) (dVar 0)) (dOp gIx (dVar 2) (dVar 0))) 1 [10, 11]))
    (sSetl 5 (dOp gMul (dVar 5) (dOp gIx (dVar 9) (dC (.int 1)))))))) (sNil)))
    (sSeq (sSetl 12 (dCall gSum (dCons (dComp (fRng1 (dCons (dCall gLen (dCons (dVar 3) (dNil))) (dNil))) (gNl 0) (tBool (dOp gGe (dOp gAdd (dVar 0) (dC (.int 1))) (dVar 2))) (dFlat (dOp gIx (dVar 1) (dVar 0))) 1 [3, 2]) (dNil))))
    (sRet (dCall F__law_low (dCons (dCall gSum (dCons (dComp (fRng1 (dCons (dCall gLen (dCons (dVar 4) (dNil))) (dNil))) (gNl 0) (tBool (dOp gGt (dVar 0) (dVar 2))) (dFlat (dOp gIx (dVar 1) (dVar 0))) 1 [4, 12]) (dNil))) (dCons (dVar 5) (dNil)))))))))
noncomputable def F__law_odd : List D → Option D := fnD 2 4 (sSeq (sSetl 2 (dCall F__law_part (dCons (dVar 0) (dCons (dC (.int 1)) (dCons (dC (.int 1)) (dCons (dCall gLen (dCons (dVar 1) (dNil))) (dNil)))))))
    (sSeq (sSetl 3 (dOp gIx (dLst (dCons (dUn gNeg (dC (.int 1))) (dCons (dC (.none)) (dCons (dC (.bool true)) (dCons (dC (.bool false)) (dCons (dTup (dCons (dC (.int 1)) (dCons (dC (.int 1)) (dNil)))) (dCons (dC (.str "2")) (dCons (dC (.int 13)) (dCons (dLst (dCons (dC (.int 1)) (dNil))) (dNil)))))))))) (dCall F__law_part (dCons (dVar 0) (dCons (dC (.int 1)) (dCons (dC (.int 2)) (dCons (dC (.int 8)) (dNil))))))))
    (sSeq (sSetl 4 (dOp gCat (dOp gCat (dSl (dVar 1) oNone (oPart (dVar 2))) (dLst (dCons (dVar 3) (dNil)))) (dSl (dVar 1) (oPart (dOp gAdd (dVar 2) (dC (.int 1)))) oNone)))
    (sSeq (sSetl 5 (dLst (dCons (dVar 4) (dCons (dLst (dNil)) (dCons (dLst (dCons (dC (.int 1)) (dCons (dC (.int 1)) (dCons (dC (.int 1)) (dCons (dC (.int 1)) (dCons (dC (.int 1)) (dNil))))))) (dCons (dLst (dCons (dC (.int 5)) (dCons (dC (.int 5)) (dCons (dC (.int 3)) (dNil))))) (dCons (dUn gTupL (dVar 1)) (dCons (dC (.none)) (dCons (dC (.int 3)) (dCons (dC (.str "12")) (dNil)))))))))))
    (sRet (dFl1 (dOp gCat (dVar 5) (dLst (dCons (dC (.dict [(.int 0, .int 1)])) (dCons (dOp gCat (dVar 1) (dLst (dCons (dOp gSub (dC (.int 13)) (dCall gSum (dCons (dVar 1) (dNil)))) (dNil)))) (dCons (dLst (dCons (dC (.int 0)) (dCons (dC (.int 0)) (dCons (dC (.int 0)) (dCons (dC (.int 0)) (dCons (dC (.int 0)) (dNil))))))) (dCons (dLst (dCons (dC (.int 4)) (dCons (dC (.int 3)) (dCons (dC (.int 3)) (dCons (dC (.int 3)) (dNil)))))) (dCons (dLst (dCons (dC (.int 13)) (dNil))) (dNil))))))))))))))
noncomputable def F__law_is : List D → Option D := fnD 2 0 (sRet (dAnd (dUn (gIs "bool") (dVar 0)) (dOp gEq (dVar 0) (dVar 1))))
end Com
namespace Com
open PySem D3 My
theorem pAt_ints {ns : List Int} {i : Int} (h0 : 0 ≤ i) (h1 : i < ns.length) : pAt (ns.map PyData.int) i = some (.int (ns.getD i.toNat 0)) := by
  unfold pAt pIx
  rw [List.length_map, if_pos h0, if_pos h1, Option.bind_some, List.getElem?_map]
  have h : i.toNat < ns.length := by omega
  rw [List.getElem?_eq_getElem h]
  simp [List.getD, h]
theorem pAt_nat {l : List D} {k : Nat} : pAt l (k : Int) = l[k]? := by
  unfold pAt pIx
  rw [if_pos (by omega)]
  by_cases h : k < l.length
  · rw [if_pos (by omega), Option.bind_some]
    simp
  · rw [if_neg (by omega), List.getElem?_eq_none (by omega)]
    rfl
theorem at0 {a : D} {l : List D} : pAt (a :: l) 0 = some a := pAt_nat (k := 0)
theorem at1 {a b : D} {l : List D} : pAt (a :: b :: l) 1 = some b := pAt_nat (k := 1)
theorem modP {i j : Int} (h : 0 < j) : gMod (.int i) (.int j) = some (.int (i % j)) := by
  show (if decide (j ≠ 0) = true then some (PyData.int (i.fmod j)) else none) = _
  rw [if_pos (decide_eq_true (by omega)), Int.fmod_eq_emod_of_nonneg i (by omega)]
theorem small_lt {j : Int} (h : j.natAbs < 2 ^ 64) : j.natAbs < 2 ^ 9000 := Nat.lt_of_lt_of_le h (Nat.pow_le_pow_right (by decide) (by decide))
theorem divB {i j : Int} (h : 0 < j) (h2 : j.natAbs < 2 ^ 9000) : gDiv (.int i) (.int j) = some (.int (i / j)) := by
  show (if divG i j = true then some (PyData.int (i.fdiv j)) else none) = _
  have e : divG i j = true := by
    unfold divG
    rw [Bool.and_eq_true]
    exact ⟨decide_eq_true (by omega), decide_eq_true h2⟩
  rw [if_pos e, Int.fdiv_eq_ediv_of_nonneg i (by omega)]
theorem divP {i j : Int} (h : 0 < j) (h2 : j < 18446744073709551616) : gDiv (.int i) (.int j) = some (.int (i / j)) := divB h (small_lt (by omega))
theorem mulL {i j : Int} (h1 : -18446744073709551616 < i) (h2 : i < 18446744073709551616) : gMul (.int i) (.int j) = some (.int (i * j)) := by
  show (if mulG i j = true then some (PyData.int (i * j)) else none) = _
  have e : mulG i j = true := by
    unfold mulG
    rw [decide_eq_true (show i.natAbs < 2 ^ 64 by omega)]
    rfl
  rw [if_pos e]
theorem mulR {i j : Int} (h1 : -18446744073709551616 < j) (h2 : j < 18446744073709551616) : gMul (.int i) (.int j) = some (.int (i * j)) := by
  show (if mulG i j = true then some (PyData.int (i * j)) else none) = _
  have e : mulG i j = true := by
    unfold mulG
    rw [decide_eq_true (show j.natAbs < 2 ^ 64 by omega), Bool.or_true]
    rfl
  rw [if_pos e]
theorem mulB {i j : Int} (h1 : i.natAbs < 2 ^ 9000) (h2 : j.natAbs < 2 ^ 9000) : gMul (.int i) (.int j) = some (.int (i * j)) := by
  show (if mulG i j = true then some (PyData.int (i * j)) else none) = _
  have p : (2 : Nat) ^ 9000 ≤ 2 ^ 30000 := Nat.pow_le_pow_right (by decide) (by decide)
  have e : mulG i j = true := by
    unfold mulG
    rw [decide_eq_true (Nat.lt_of_lt_of_le h1 p), decide_eq_true (Nat.lt_of_lt_of_le h2 p)]
    simp
  rw [if_pos e]
theorem pow40 : gPow (.int 10) (.int 40) = some (.int (10 ^ 40)) := rfl
theorem sz {n : Nat} (h : n ≤ 1000000) : n ≤ sizeLine := Nat.le_trans h (by decide)
theorem shaped_ints (ns : List Int) : SeqAt.shaped (.list (ns.map PyData.int)) = true := by
  have h1 : ∀ ns : List Int, PyData.canLayAll0 (ns.map PyData.int) = true := fun ns => by
    induction ns with
    | nil => rfl
    | cons a r ih => simp [PyData.canLayAll0, PyData.canLay0, ih]
  have h2 : ∀ ns : List Int, PyData.depthAll (ns.map PyData.int) ≤ 1 := fun ns => by
    induction ns with
    | nil => simp [PyData.depthAll]
    | cons a r ih => simp [PyData.depthAll, PyData.depth]; omega
  unfold SeqAt.shaped
  rw [Bool.and_eq_true]
  refine ⟨by simp [PyData.canLay0, h1], decide_eq_true ?_⟩
  have := h2 ns
  simp only [PyData.depth]
  omega
theorem eq_empty (ns : List Int) : gEq (.list (ns.map PyData.int)) (.list []) = some (.bool (decide (ns = []))) := by
  unfold gEq
  rw [shaped_ints ns]
  cases ns with
  | nil => rfl
  | cons a r => rfl
theorem cell_spec {ns : List Int} {i : Int} (h0 : 0 ≤ i) : F__law_cell [.list (ns.map .int), .int i] = some (.int (cellF ns i)) := by
  unfold F__law_cell cellF
  by_cases h : i < (ns.length : Int)
  · rw [if_pos h]
    simp only [EV, reduceIte, Nat.reduceAdd, Nat.reduceLT, Nat.reduceLeDiff, Nat.reduceEqDiff, Int.reduceEq, Int.reduceLT, Int.reduceLE, List.length_map, decide_eq_true h, pAt_ints h0 h, modP (show (0 : Int) < 1000000007 by decide)]
  · rw [if_neg h]
    by_cases hn : ns = []
    · rw [if_pos hn]
      simp only [EV, reduceIte, Nat.reduceAdd, Nat.reduceLT, Nat.reduceLeDiff, Nat.reduceEqDiff, Int.reduceEq, Int.reduceLT, Int.reduceLE, List.length_map, decide_eq_false h, eq_empty, decide_eq_true hn, Nat.zero_le, mulL (show (-18446744073709551616 : Int) < 7919 by decide) (show (7919 : Int) < 18446744073709551616 by decide)]
    · rw [if_neg hn]
      have hl : 0 < ns.length := by
        cases ns with
        | nil => exact absurd rfl hn
        | cons _ _ => simp
      have h7 : 0 ≤ i * 7 % (ns.length : Int) := Int.emod_nonneg _ (by omega)
      have h8 : i * 7 % (ns.length : Int) < (ns.length : Int) := Int.emod_lt_of_pos _ (by omega)
      simp only [EV, reduceIte, Nat.reduceAdd, Nat.reduceLT, Nat.reduceLeDiff, Nat.reduceEqDiff, Int.reduceEq, Int.reduceLT, Int.reduceLE, List.length_map, decide_eq_false h, eq_empty, decide_eq_false hn, Nat.zero_le, mulL (show (-18446744073709551616 : Int) < 7919 by decide) (show (7919 : Int) < 18446744073709551616 by decide), mulR (show (-18446744073709551616 : Int) < 7 by decide) (show (7 : Int) < 18446744073709551616 by decide), modP (show (0 : Int) < 1000000007 by decide), modP (show (0 : Int) < ns.length by omega), pAt_ints h7 h8]
theorem divs_loop {l : D} {i k m : D} (n : Int) : ∀ (js : List D) (c : Nat) (y : Option U), (∀ j ∈ js, ∃ x, j = .int x) → ∃ y', forD (gNl 5) (sSetl 4 (dOp gDiv (dVar 4) (dC (.int 1000003)))) js [some (.d l), some (.d i), some (.d k), some (.d m), some (.d (.int (divs n c))), y] =
    some (.nx [some (.d l), some (.d i), some (.d k), some (.d m), some (.d (.int (divs n (c + js.length)))), y'])
  | [], c, y, _ => ⟨y, rfl⟩
  | j :: js, c, y, h => by
    obtain ⟨y', e⟩ := divs_loop (l := l) (i := i) (k := k) (m := m) n js (c + 1) (some (.d j)) fun j' hj => h j' (List.mem_cons_of_mem _ hj)
    refine ⟨y', ?_⟩
    rw [forD]
    simp only [EV, reduceIte, Nat.reduceAdd, Nat.reduceLT, Nat.reduceLeDiff, Nat.reduceEqDiff, Int.reduceEq, Int.reduceLT, Int.reduceLE, divP (show (0 : Int) < 1000003 by decide) (show (1000003 : Int) < 18446744073709551616 by decide), Option.bind_some]
    rw [show c + (js.length + 1) = c + 1 + js.length by omega, ← e]
    rfl
theorem rngD_ints (lo hi : Int) : ∀ j ∈ rngD lo hi, ∃ x, j = .int x := by
  intro j hj
  unfold rngD at hj
  obtain ⟨k, _, rfl⟩ := List.mem_map.mp hj
  exact ⟨_, rfl⟩
theorem part_spec {ns : List Int} {i k m : Int} (h0 : 0 ≤ i) (hk0 : 0 ≤ k) (hk : k ≤ 1000) (hm : 0 < m) : F__law_part [.list (ns.map .int), .int i, .int k, .int m] = some (.int (partF ns i k m)) := by
  have rest : ∀ x y : Option U, qFn ((sSeq (sSetl 4 (dOp gMod (dOp gMul (dOp gAdd (dOp gAdd (dCall F__law_cell (dCons (dVar 0) (dCons (dVar 1) (dNil)))) (dOp gMul (dC (.int 65537)) (dVar 1))) (dC (.int 3))) (dOp gAdd (dC (.int 1299709)) (dOp gMul (dC (.int 15485863)) (dVar 2)))) (dC (.int 2147483629))))
    (sSeq (sSetl 4 (dOp gAdd (dOp gMod (dOp gMul (dVar 4) (dVar 4)) (dC (.int 1500450271))) (dC (.int 104729))))
    (sRet (dOp gMod (dOp gDiv (dOp gMod (dOp gMul (dVar 4) (dVar 4)) (dC (.int 715827883))) (dC (.int 64))) (dVar 3))))) [some (.d (.list (ns.map .int))), some (.d (.int i)), some (.d (.int k)), some (.d (.int m)), x, y]) = some (.int (drawF (cellF ns i) i k m)) := by
    intro x y
    have b1 : 0 ≤ (cellF ns i + 65537 * i + 3) * (1299709 + 15485863 * k) % 2147483629 := Int.emod_nonneg _ (by decide)
    have b2 : (cellF ns i + 65537 * i + 3) * (1299709 + 15485863 * k) % 2147483629 < 2147483629 := Int.emod_lt_of_pos _ (by decide)
    have b3 : 0 ≤ (cellF ns i + 65537 * i + 3) * (1299709 + 15485863 * k) % 2147483629 * ((cellF ns i + 65537 * i + 3) * (1299709 + 15485863 * k) % 2147483629) % 1500450271 := Int.emod_nonneg _ (by decide)
    have b4 : (cellF ns i + 65537 * i + 3) * (1299709 + 15485863 * k) % 2147483629 * ((cellF ns i + 65537 * i + 3) * (1299709 + 15485863 * k) % 2147483629) % 1500450271 < 1500450271 := Int.emod_lt_of_pos _ (by decide)
    simp only [EV, reduceIte, Nat.reduceAdd, Nat.reduceLT, Nat.reduceLeDiff, Nat.reduceEqDiff, Int.reduceEq, Int.reduceLT, Int.reduceLE, cell_spec h0, mulL (show (-18446744073709551616 : Int) < 65537 by decide) (show (65537 : Int) < 18446744073709551616 by decide), mulL (show (-18446744073709551616 : Int) < 15485863 by decide) (show (15485863 : Int) < 18446744073709551616 by decide),
      mulR (i := cellF ns i + 65537 * i + 3) (show (-18446744073709551616 : Int) < 1299709 + 15485863 * k by omega) (show 1299709 + 15485863 * k < (18446744073709551616 : Int) by omega), modP (show (0 : Int) < 2147483629 by decide)]
    simp only [mulL (show (-18446744073709551616 : Int) < (cellF ns i + 65537 * i + 3) * (1299709 + 15485863 * k) % 2147483629 by omega) (show (cellF ns i + 65537 * i + 3) * (1299709 + 15485863 * k) % 2147483629 < (18446744073709551616 : Int) by omega)]
    simp only [EV, reduceIte, Nat.reduceAdd, Nat.reduceLT, Nat.reduceLeDiff, Nat.reduceEqDiff, Int.reduceEq, Int.reduceLT, Int.reduceLE, modP (show (0 : Int) < 1500450271 by decide)]
    rw [mulL (by omega) (by omega)]
    simp only [EV, reduceIte, Nat.reduceAdd, Nat.reduceLT, Nat.reduceLeDiff, Nat.reduceEqDiff, Int.reduceEq, Int.reduceLT, Int.reduceLE, modP (show (0 : Int) < 715827883 by decide), divP (show (0 : Int) < 64 by decide) (show (64 : Int) < 18446744073709551616 by decide), modP hm]
    rfl
  unfold F__law_part
  rw [v_fn]
  simp only [EV, reduceIte, Nat.reduceAdd, Nat.reduceLT, Nat.reduceLeDiff, Nat.reduceEqDiff, Int.reduceEq, Int.reduceLT, Int.reduceLE]
  by_cases h : i < (ns.length : Int)
  · by_cases h2 : 10 ^ 40 ≤ ns.getD i.toNat 0
    · simp only [EV, reduceIte, Nat.reduceAdd, Nat.reduceLT, Nat.reduceLeDiff, Nat.reduceEqDiff, Int.reduceEq, Int.reduceLT, Int.reduceLE, List.length_map, decide_eq_true h, pAt_ints h0 h, pow40, decide_eq_true h2]
      obtain ⟨y', e⟩ := divs_loop (l := .list (ns.map .int)) (i := .int i) (k := .int k) (m := .int m) (ns.getD i.toNat 0) (rngD 0 k) 0 none (rngD_ints 0 k)
      have el : 0 + (rngD 0 k).length = k.toNat := by simp [rngD]
      rw [el] at e
      have e' : forD (gNl 5) (sSetl 4 (dOp gDiv (dVar 4) (dC (.int 1000003)))) (rngD 0 k) [some (.d (.list (ns.map .int))), some (.d (.int i)), some (.d (.int k)), some (.d (.int m)), some (.d (.int (ns.getD i.toNat 0))), none] =
        some (.nx [some (.d (.list (ns.map .int))), some (.d (.int i)), some (.d (.int k)), some (.d (.int m)), some (.d (.int (divs (ns.getD i.toNat 0) k.toNat))), y']) := e
      rw [rng1 (by omega) (by omega)]
      simp only [EV, reduceIte, Nat.reduceAdd, Nat.reduceLT, Nat.reduceLeDiff, Nat.reduceEqDiff, Int.reduceEq, Int.reduceLT, Int.reduceLE, e']
      by_cases h3 : 0 < divs (ns.getD i.toNat 0) k.toNat
      · simp only [EV, reduceIte, Nat.reduceAdd, Nat.reduceLT, Nat.reduceLeDiff, Nat.reduceEqDiff, Int.reduceEq, Int.reduceLT, Int.reduceLE, decide_eq_true h3, modP (show (0 : Int) < 1000003 by decide), modP hm]
        rw [partF_hit h h2 h3]
      · simp only [EV, reduceIte, Nat.reduceAdd, Nat.reduceLT, Nat.reduceLeDiff, Nat.reduceEqDiff, Int.reduceEq, Int.reduceLT, Int.reduceLE, decide_eq_false h3]
        rw [partF_miss (fun z => h3 z.2.2)]
        have := rest (some (.d (.int (divs (ns.getD i.toNat 0) k.toNat)))) y'
        simp only [EV, reduceIte, Nat.reduceAdd, Nat.reduceLT, Nat.reduceLeDiff, Nat.reduceEqDiff, Int.reduceEq, Int.reduceLT, Int.reduceLE] at this
        exact this
    · simp only [EV, reduceIte, Nat.reduceAdd, Nat.reduceLT, Nat.reduceLeDiff, Nat.reduceEqDiff, Int.reduceEq, Int.reduceLT, Int.reduceLE, List.length_map, decide_eq_true h, pAt_ints h0 h, pow40, decide_eq_false h2]
      rw [partF_miss (fun z => h2 z.2.1)]
      have := rest none none
      simp only [EV, reduceIte, Nat.reduceAdd, Nat.reduceLT, Nat.reduceLeDiff, Nat.reduceEqDiff, Int.reduceEq, Int.reduceLT, Int.reduceLE] at this
      exact this
  · simp only [EV, reduceIte, Nat.reduceAdd, Nat.reduceLT, Nat.reduceLeDiff, Nat.reduceEqDiff, Int.reduceEq, Int.reduceLT, Int.reduceLE, List.length_map, decide_eq_false h]
    rw [partF_miss (fun z => h z.1)]
    have := rest none none
    simp only [EV, reduceIte, Nat.reduceAdd, Nat.reduceLT, Nat.reduceLeDiff, Nat.reduceEqDiff, Int.reduceEq, Int.reduceLT, Int.reduceLE] at this
    exact this
end Com
namespace Com
open PySem D3 My
theorem cEx {α : Type} {g : FG} {c : FT} {e : FE} {δ : DS} (f : α → D) (P : α → Prop) : ∀ l : List D, (∀ d ∈ l, ∃ δ1 x, g d δ = some δ1 ∧ c δ1 = some true ∧ P x ∧ e δ1 = some (f x)) → ∃ xs : List α, xs.length = l.length ∧ (∀ x ∈ xs, P x) ∧ compD g c e δ l = some (xs.map f)
  | [], _ => ⟨[], rfl, (fun _ h => by cases h), rfl⟩
  | d :: r, hs => by
    obtain ⟨δ1, x, e1, e2, hp, e3⟩ := hs d List.mem_cons_self
    obtain ⟨xs, l1, h1, e4⟩ := cEx f P r fun x hx => hs x (List.mem_cons_of_mem _ hx)
    refine ⟨x :: xs, by simp [l1], fun y hy => ?_, ?_⟩
    · rcases List.mem_cons.mp hy with rfl | z
      · exact hp
      · exact h1 y z
    · rw [compD, e1, Option.bind_some, e2, Option.bind_some, if_pos rfl, e3, Option.bind_some, e4]
      rfl
theorem cFil {α : Type} {g : FG} {c : FT} {e : FE} {δ : DS} (f : α → D) (p : α → Bool) (h : α → D) : ∀ l : List α, (∀ s ∈ l, ∃ δ1, g (f s) δ = some δ1 ∧ c δ1 = some (p s) ∧ (p s = true → e δ1 = some (h s))) → compD g c e δ (l.map f) = some ((l.filter p).map h)
  | [], _ => rfl
  | s :: r, hs => by
    obtain ⟨δ1, e1, e2, e3⟩ := hs s List.mem_cons_self
    have ih := cFil f p h r fun x hx => hs x (List.mem_cons_of_mem _ hx)
    rw [List.map_cons, compD, e1, Option.bind_some, e2, Option.bind_some]
    by_cases c : p s = true
    · rw [if_pos c, e3 c, Option.bind_some, ih, List.filter_cons, if_pos c]
      rfl
    · rw [if_neg c, ih, List.filter_cons, if_neg c]
theorem cMap {α : Type} {g : FG} {c : FT} {e : FE} {δ : DS} (f : α → D) (h : α → D) : ∀ l : List α, (∀ s ∈ l, ∃ δ1, g (f s) δ = some δ1 ∧ c δ1 = some true ∧ e δ1 = some (h s)) → compD g c e δ (l.map f) = some (l.map h)
  | [], _ => rfl
  | s :: r, hs => by
    obtain ⟨δ1, e1, e2, e3⟩ := hs s List.mem_cons_self
    rw [List.map_cons, compD, e1, Option.bind_some, e2, Option.bind_some, if_pos rfl, e3, Option.bind_some, cMap f h r fun x hx => hs x (List.mem_cons_of_mem _ hx)]
    rfl
theorem flats_all {α : Type} (f : α → D) (h : ∀ a, flat (f a) = true) : ∀ l : List α, flats (l.map f) = true
  | [] => rfl
  | a :: r => by rw [List.map_cons, flats, h, flats_all f h r]; rfl
theorem flats_ints (l : List Int) : flats (l.map PyData.int) = true := flats_all _ (fun _ => rfl) l
theorem at2 {a b c : D} {l : List D} : pAt (a :: b :: c :: l) 2 = some c := pAt_nat (k := 2)
theorem at3 {a b c d : D} {l : List D} : pAt (a :: b :: c :: d :: l) 3 = some d := pAt_nat (k := 3)
theorem rng_len {m : Int} : (rngD 0 m).length = m.toNat := by unfold rngD; rw [List.length_map, List.length_range, Int.sub_zero]
theorem rng_map (m : Int) : rngD 0 m = (List.range m.toNat).map fun k : Nat => PyData.int (k : Int) := by
  unfold rngD
  rw [Int.sub_zero]
  apply List.map_congr_left
  intro k _
  rw [Int.zero_add]
theorem cutDr {l : List D} {k : Int} (h : 0 ≤ k) : cutD l (some k) none = l.drop k.toNat := by
  unfold cutD
  have e : pSx l.length 0 (some k) = min k.toNat l.length := by
    show (if k < 0 then _ else _) = _
    rw [if_neg (by omega)]
  rw [e, show pSx l.length l.length none = l.length from rfl]
  by_cases c : k.toNat ≤ l.length
  · rw [show min k.toNat l.length = k.toNat by omega, List.take_of_length_le (by rw [List.length_drop]; omega)]
  · rw [show min k.toNat l.length = l.length by omega, List.drop_of_length_le (by omega), List.drop_of_length_le (by omega)]
    simp
theorem cutTk {l : List D} {k : Int} (h : 0 ≤ k) : cutD l none (some k) = l.take k.toNat := by
  unfold cutD
  have e : pSx l.length l.length (some k) = min k.toNat l.length := by
    show (if k < 0 then _ else _) = _
    rw [if_neg (by omega)]
  rw [e, show pSx l.length 0 none = 0 from rfl, List.drop_zero, Nat.sub_zero, List.take_eq_take_iff]
  omega
theorem isList : D3.isT "list" "list" = true := rfl
mutual
theorem eqv_refl : ∀ d : D, d.canLay0 = true → PyData.eqv d d = true
  | .none, _ => by simp [PyData.eqv]
  | .bool b, _ => by simp [PyData.eqv]
  | .int i, _ => by simp [PyData.eqv]
  | .str x, _ => by simp [PyData.eqv]
  | .list l, h => by
    have := eqvAll_refl l (by simpa [PyData.canLay0] using h)
    simpa [PyData.eqv] using this
  | .tuple l, h => by
    have := eqvAll_refl l (by simpa [PyData.canLay0] using h)
    simpa [PyData.eqv] using this
  | .dict l, h => by simp [PyData.canLay0] at h
theorem eqvAll_refl : ∀ l : List D, PyData.canLayAll0 l = true → PyData.eqvAll l l = true
  | [], _ => by simp [PyData.eqvAll]
  | d :: r, h => by
    rw [PyData.canLayAll0, Bool.and_eq_true] at h
    rw [PyData.eqvAll, eqv_refl d h.1, eqvAll_refl r h.2]
    rfl
end
def ly (n : Nat) (d : D) : Prop := d.canLay0 = true ∧ d.depth ≤ n
def lys (n : Nat) (l : List D) : Prop := PyData.canLayAll0 l = true ∧ PyData.depthAll l ≤ n
theorem ly_le {n m : Nat} {d : D} (h : ly n d) (l : n ≤ m) : ly m d := ⟨h.1, Nat.le_trans h.2 l⟩
theorem lys_nil {n : Nat} : lys n [] := ⟨by simp [PyData.canLayAll0], by simp [PyData.depthAll]⟩
theorem lys_cons {n : Nat} {d : D} {l : List D} (h : ly n d) (q : lys n l) : lys n (d :: l) :=
  ⟨by rw [PyData.canLayAll0, h.1, q.1]; rfl, by have := h.2; have := q.2; simp only [PyData.depthAll]; omega⟩
theorem lys_map {α : Type} {n : Nat} (f : α → D) (h : ∀ a, ly n (f a)) : ∀ l : List α, lys n (l.map f)
  | [] => lys_nil
  | a :: r => lys_cons (h a) (lys_map f h r)
theorem ly_list {n : Nat} {l : List D} (h : lys n l) : ly (n + 1) (.list l) := ⟨by simp [PyData.canLay0, h.1], by have := h.2; simp only [PyData.depth]; omega⟩
theorem ly_tup {n : Nat} {l : List D} (h : lys n l) : ly (n + 1) (.tuple l) := ⟨by simp [PyData.canLay0, h.1], by have := h.2; simp only [PyData.depth]; omega⟩
theorem ly_int {n : Nat} {i : Int} : ly (n + 1) (.int i) := ⟨rfl, by simp [PyData.depth]⟩
theorem ly_shaped {d : D} (h : ly 60 d) : SeqAt.shaped d = true := by
  unfold SeqAt.shaped
  rw [Bool.and_eq_true]
  exact ⟨h.1, decide_eq_true (by have := h.2; omega)⟩
theorem eq_self {d : D} (h : ly 60 d) : gEq d d = some (.bool true) := by
  unfold gEq
  rw [ly_shaped h, eqv_refl d h.1]
  rfl
theorem ne_self {d : D} (h : ly 60 d) : gNe d d = some (.bool false) := by
  unfold gNe
  rw [ly_shaped h, eqv_refl d h.1]
  rfl
end Com
namespace Com
open PySem D3 My
theorem gcd_loop : ∀ (m : Nat) (a b : Int) (x : Option U), 0 ≤ a → 0 ≤ b → b.toNat ≤ m → ∃ x' n, whileD (tBool (dOp gNe (dVar 1) (dC (.int 0)))) (sSeq (sSetl 2 (dOp gMod (dVar 0) (dVar 1))) (sSeq (sSetl 0 (dVar 1)) (sSetl 1 (dVar 2)))) n [some (.d (.int a)), some (.d (.int b)), x] =
    some (.nx [some (.d (.int (gcdI a b))), some (.d (.int 0)), x']) := by
  intro m
  induction m with
  | zero =>
    intro a b x ha hb hm
    obtain rfl : b = 0 := by omega
    refine ⟨x, 1, ?_⟩
    rw [whileD]
    simp only [EV, reduceIte, Nat.reduceAdd, Nat.reduceLT, Nat.reduceLeDiff, Nat.reduceEqDiff, Int.reduceEq, Int.reduceLT, Int.reduceLE]
    rw [gcdI_zero ha]
    rfl
  | succ m ih =>
    intro a b x ha hb hm
    by_cases h : b = 0
    · subst h
      refine ⟨x, 1, ?_⟩
      rw [whileD]
      simp only [EV, reduceIte, Nat.reduceAdd, Nat.reduceLT, Nat.reduceLeDiff, Nat.reduceEqDiff, Int.reduceEq, Int.reduceLT, Int.reduceLE]
      rw [gcdI_zero ha]
      rfl
    · have hb' : 0 < b := by omega
      have h1 : 0 ≤ a % b := Int.emod_nonneg _ (by omega)
      have h2 : a % b < b := Int.emod_lt_of_pos _ hb'
      obtain ⟨x', n, e⟩ := ih b (a % b) (some (.d (.int (a % b)))) hb h1 (by omega)
      refine ⟨x', n + 1, ?_⟩
      rw [whileD]
      simp only [EV, reduceIte, Nat.reduceAdd, Nat.reduceLT, Nat.reduceLeDiff, Nat.reduceEqDiff, Int.reduceEq, Int.reduceLT, Int.reduceLE, decide_eq_false h, Option.bind_some, modP hb']
      rw [← gcdI_step ha hb', ← e]
theorem gcd_spec {a b : Int} (ha : 0 ≤ a) (hb : 0 ≤ b) : F_greatest_divisor [.int a, .int b] = some (.int (gcdI a b)) := by
  unfold F_greatest_divisor
  simp only [EV, reduceIte, Nat.reduceAdd, Nat.reduceLT, Nat.reduceLeDiff, Nat.reduceEqDiff, Int.reduceEq, Int.reduceLT, Int.reduceLE]
  obtain ⟨x', n, e⟩ := gcd_loop b.toNat a b none ha hb (Nat.le_refl _)
  rw [sWhile_of e]
  simp only [EV, reduceIte, Nat.reduceAdd, Nat.reduceLT, Nat.reduceLeDiff, Nat.reduceEqDiff, Int.reduceEq, Int.reduceLT, Int.reduceLE]
def rD (r : Rat) : D := .tuple [.int r.num, .int r.den]
def q (t b : Int) : Rat := mkRat t b.toNat
theorem gcd_pos {t b : Int} (h : 0 < b) : 0 < gcdI t b := by
  unfold gcdI
  have : 0 < Nat.gcd t.natAbs b.natAbs := Nat.gcd_pos_of_pos_right _ (by omega)
  omega
theorem gcd_le {t b : Int} (h : 0 < b) : gcdI t b ≤ b := by
  unfold gcdI
  have : Nat.gcd t.natAbs b.natAbs ≤ b.natAbs := Nat.gcd_le_right _ (by omega)
  omega
theorem q_num {t b : Int} (h : 0 < b) : (q t b).num = t / gcdI t b := by
  unfold q gcdI
  rw [Rat.num_mkRat, if_neg (by omega), Nat.gcd_comm]
  have e : b.natAbs = b.toNat := by omega
  rw [e]
theorem q_den {t b : Int} (h : 0 < b) : ((q t b).den : Int) = b / gcdI t b := by
  unfold q gcdI
  rw [Rat.den_mkRat, if_neg (by omega), Nat.gcd_comm]
  have e : b.natAbs = b.toNat := by omega
  rw [e]
  rw [Int.natCast_ediv]
  congr 1
  omega
theorem natAbs_lt {b c : Int} (h0 : 0 ≤ c) (h : c ≤ b) {n : Nat} (hb : b.natAbs < n) : c.natAbs < n := by omega
theorem lowest_spec {t b : Int} (h : 0 < b) (hb : b.natAbs < 2 ^ 9000) : F_lowest [.int t, .int b] = some (rD (q t b)) := by
  have g0 := gcd_pos (t := t) h
  have g1 := gcd_le (t := t) h
  have e1 : 0 ≤ (if t < 0 then -t else t) := by split <;> omega
  have e2 : 0 ≤ (if b < 0 then -b else b) := by split <;> omega
  unfold F_lowest
  simp only [EV, reduceIte, Nat.reduceAdd, Nat.reduceLT, Nat.reduceLeDiff, Nat.reduceEqDiff, Int.reduceEq, Int.reduceLT, Int.reduceLE, gcd_spec e1 e2, gcdI_abs, decide_eq_false (show ¬ b < 0 by omega), divB g0 (natAbs_lt (by omega) g1 hb), sz (show 2 ≤ 1000000 by decide)]
  unfold rD
  rw [q_num h, q_den h]
theorem whole_int (i : Int) : F_is_whole [.int i] = some (.bool true) := by
  unfold F_is_whole
  simp only [EV, reduceIte, Nat.reduceAdd, Nat.reduceLT, Nat.reduceLeDiff, Nat.reduceEqDiff, Int.reduceEq, Int.reduceLT, Int.reduceLE, tyD, D3.isT]
  rfl
theorem ratio_spec {t b : Int} (h : 0 < b) (hb : b.natAbs < 2 ^ 9000) : F_ratio [.int t, .int b] = some (rD (q t b)) := by
  unfold F_ratio
  simp only [EV, reduceIte, Nat.reduceAdd, Nat.reduceLT, Nat.reduceLeDiff, Nat.reduceEqDiff, Int.reduceEq, Int.reduceLT, Int.reduceLE, whole_int, decide_eq_false (show ¬ b = 0 by omega), lowest_spec h hb]
end Com
namespace Com
open PySem D3 My
def sm (k : Nat) (x : Int) : Prop := x.natAbs < 2 ^ k
theorem sm_le {k l : Nat} {x : Int} (h : sm k x) (hl : k ≤ l) : sm l x := Nat.lt_of_lt_of_le h (Nat.pow_le_pow_right (by decide) hl)
theorem sm_mul {k l : Nat} {x y : Int} (h : sm k x) (h' : sm l y) : sm (k + l) (x * y) := by
  unfold sm at *
  rw [Int.natAbs_mul, Nat.pow_add]
  exact Nat.mul_lt_mul'' h h'
theorem sm_of {k : Nat} {x y : Int} (h : sm k y) (h0 : 0 ≤ x) (h1 : x ≤ y) : sm k x := by
  unfold sm at *
  omega
theorem mulS {i j : Int} (h1 : sm 4000 i) (h2 : sm 4000 j) : gMul (.int i) (.int j) = some (.int (i * j)) := mulB (sm_le h1 (by decide)) (sm_le h2 (by decide))
theorem ldiv_loop : ∀ (m : Nat) (a b : Int), 0 ≤ a → 0 ≤ b → b.toNat ≤ m → ∃ n, whileD (tBool (dOp gGt (dVar 1) (dC (.int 0)))) (sPar 0 1 (dCons (dVar 1) (dCons (dOp gMod (dVar 0) (dVar 1)) (dNil)))) n [some (.d (.int a)), some (.d (.int b))] =
    some (.nx [some (.d (.int (gcdI a b))), some (.d (.int 0))]) := by
  intro m
  induction m with
  | zero =>
    intro a b ha hb hm
    obtain rfl : b = 0 := by omega
    refine ⟨1, ?_⟩
    rw [whileD]
    simp only [EV, reduceIte, Nat.reduceAdd, Nat.reduceLT, Nat.reduceLeDiff, Nat.reduceEqDiff, Int.reduceEq, Int.reduceLT, Int.reduceLE]
    rw [gcdI_zero ha]
    rfl
  | succ m ih =>
    intro a b ha hb hm
    by_cases h : b = 0
    · subst h
      refine ⟨1, ?_⟩
      rw [whileD]
      simp only [EV, reduceIte, Nat.reduceAdd, Nat.reduceLT, Nat.reduceLeDiff, Nat.reduceEqDiff, Int.reduceEq, Int.reduceLT, Int.reduceLE]
      rw [gcdI_zero ha]
      rfl
    · have hb' : 0 < b := by omega
      have h1 : 0 ≤ a % b := Int.emod_nonneg _ (by omega)
      have h2 : a % b < b := Int.emod_lt_of_pos _ hb'
      obtain ⟨n, e⟩ := ih b (a % b) hb h1 (by omega)
      refine ⟨n + 1, ?_⟩
      rw [whileD]
      simp only [EV, reduceIte, Nat.reduceAdd, Nat.reduceLT, Nat.reduceLeDiff, Nat.reduceEqDiff, Int.reduceEq, Int.reduceLT, Int.reduceLE, decide_eq_true hb', Option.bind_some, modP hb', and_self]
      rw [← gcdI_step ha hb', ← e]
theorem ldiv_spec {a b : Int} (ha : 0 ≤ a) (hb : 0 ≤ b) : F__law_divisor [.int a, .int b] = some (.int (gcdI a b)) := by
  unfold F__law_divisor
  simp only [EV, reduceIte, Nat.reduceAdd, Nat.reduceLT, Nat.reduceLeDiff, Nat.reduceEqDiff, Int.reduceEq, Int.reduceLT, Int.reduceLE]
  obtain ⟨n, e⟩ := ldiv_loop b.toNat a b ha hb (Nat.le_refl _)
  rw [sWhile_of e]
  simp only [EV, reduceIte, Nat.reduceAdd, Nat.reduceLT, Nat.reduceLeDiff, Nat.reduceEqDiff, Int.reduceEq, Int.reduceLT, Int.reduceLE]
theorem low_spec {t b : Int} (ht : 0 ≤ t) (h : 0 < b) (hb : sm 4000 b) : F__law_low [.int t, .int b] = some (rD (q t b)) := by
  have g0 := gcd_pos (t := t) h
  have g1 := gcd_le (t := t) h
  unfold F__law_low
  simp only [EV, reduceIte, Nat.reduceAdd, Nat.reduceLT, Nat.reduceLeDiff, Nat.reduceEqDiff, Int.reduceEq, Int.reduceLT, Int.reduceLE, ldiv_spec ht (Int.le_of_lt h), divB g0 (natAbs_lt (by omega) g1 (sm_le hb (show 4000 ≤ 9000 by decide))), sz (show 2 ≤ 1000000 by decide)]
  unfold rD
  rw [q_num h, q_den h]
def chOk (p : Rat) : Prop := 0 ≤ p.num ∧ p.num ≤ p.den ∧ p.den ≤ 100
theorem q_ok {t b : Int} (h0 : 0 ≤ t) (h1 : t ≤ b) (hb : 0 < b) (h2 : b ≤ 100) : chOk (q t b) := by
  have g0 := gcd_pos (t := t) hb
  have en := q_num (t := t) hb
  have ed := q_den (t := t) hb
  refine ⟨by rw [en]; exact Int.ediv_nonneg h0 (by omega), by rw [en, ed]; exact Int.ediv_le_ediv g0 h1, ?_⟩
  have : b / gcdI t b ≤ b := Int.ediv_le_self _ (by omega)
  omega
theorem q_int (n : Int) : rD (q n 1) = .tuple [.int n, .int 1] := by
  have en := q_num (t := n) (b := 1) (by decide)
  have ed := q_den (t := n) (b := 1) (by decide)
  have g1 := gcd_le (t := n) (b := 1) (by decide)
  have g0 := gcd_pos (t := n) (b := 1) (by decide)
  have g : gcdI n 1 = 1 := by omega
  unfold rD
  rw [en, ed, g]
  simp
theorem chance_spec (ns : List Int) {i : Int} (h0 : 0 ≤ i) : ∃ p, chOk p ∧ F__law_chance [.list (ns.map .int), .int i] = some (rD p) := by
  have r := partF_range ns i 2 (m := 8) (by decide)
  unfold F__law_chance
  simp only [EV, reduceIte, Nat.reduceAdd, Nat.reduceLT, Nat.reduceLeDiff, Nat.reduceEqDiff, Int.reduceEq, Int.reduceLT, Int.reduceLE, part_spec (ns := ns) h0 (show (0 : Int) ≤ 2 by decide) (show (2 : Int) ≤ 1000 by decide) (show (0 : Int) < 8 by decide)]
  generalize partF ns i 2 8 = x at *
  by_cases h : x < 2
  · refine ⟨q x 1, q_ok r.1 (by omega) (by decide) (by decide), ?_⟩
    simp only [EV, reduceIte, Nat.reduceAdd, Nat.reduceLT, Nat.reduceLeDiff, Nat.reduceEqDiff, Int.reduceEq, Int.reduceLT, Int.reduceLE, decide_eq_true h, sz (show 2 ≤ 1000000 by decide)]
    rw [q_int]
  · have h3 : 0 ≤ x % 3 := Int.emod_nonneg _ (by decide)
    have h4 : x % 3 < 3 := Int.emod_lt_of_pos _ (by decide)
    have hv : ∃ v, 0 < v ∧ v ≤ 100 ∧ pAt [PyData.int 100, PyData.int 100, PyData.int 6] (x % 3) = some (.int v) := by
      have : x % 3 = 0 ∨ x % 3 = 1 ∨ x % 3 = 2 := by omega
      rcases this with e | e | e
      · exact ⟨100, by decide, by decide, by rw [e]; rfl⟩
      · exact ⟨100, by decide, by decide, by rw [e]; rfl⟩
      · exact ⟨6, by decide, by decide, by rw [e]; rfl⟩
    obtain ⟨v, v0, v1, ev⟩ := hv
    have r3 := partF_range ns i 3 (m := v) v0
    simp only [EV, reduceIte, Nat.reduceAdd, Nat.reduceLT, Nat.reduceLeDiff, Nat.reduceEqDiff, Int.reduceEq, Int.reduceLT, Int.reduceLE, decide_eq_false h, sz (show 3 ≤ 1000000 by decide), modP (show (0 : Int) < 3 by decide), ev, part_spec (ns := ns) h0 (show (0 : Int) ≤ 3 by decide) (show (3 : Int) ≤ 1000 by decide) v0]
    generalize partF ns i 3 v = y at *
    have r4 := partF_range ns i 4 (m := 1 + y + 1) (by omega)
    simp only [EV, reduceIte, Nat.reduceAdd, Nat.reduceLT, Nat.reduceLeDiff, Nat.reduceEqDiff, Int.reduceEq, Int.reduceLT, Int.reduceLE, part_spec (ns := ns) (m := 1 + y + 1) h0 (show (0 : Int) ≤ 4 by decide) (show (4 : Int) ≤ 1000 by decide) (by omega)]
    generalize partF ns i 4 (1 + y + 1) = z at *
    have s1 : sm 4000 (1 + y) := by
      unfold sm
      exact Nat.lt_of_lt_of_le (show (1 + y).natAbs < 2 ^ 8 by omega) (Nat.pow_le_pow_right (by decide) (by decide))
    refine ⟨q z (1 + y), q_ok r4.1 (by omega) (by omega) (by omega), ?_⟩
    rw [low_spec r4.1 (by omega) s1]
    simp only [EV, reduceIte, Nat.reduceAdd, Nat.reduceLT, Nat.reduceLeDiff, Nat.reduceEqDiff, Int.reduceEq, Int.reduceLT, Int.reduceLE]
abbrev Row := Int × Rat
def rowD (r : Row) : D := .tuple [.int r.1, rD r.2]
def rowOk (r : Row) : Prop := 1 ≤ r.1 ∧ r.1 ≤ 4 ∧ chOk r.2
end Com
namespace Com
open PySem D3 My
def tabI (N : Nat) (f : Nat → Int) : List D := (List.range N).map fun j => .int (f j)
theorem tabI_len (N : Nat) (f : Nat → Int) : (tabI N f).length = N := by simp [tabI]
theorem tabI_get {N k : Nat} (f : Nat → Int) (h : k < N) : (tabI N f)[k]? = some (.int (f k)) := by
  unfold tabI
  rw [List.getElem?_map, List.getElem?_range h]
  rfl
theorem tabI_set (N k : Nat) (f : Nat → Int) (v : Int) : (tabI N f).set k (.int v) = tabI N (fun j => if j = k then v else f j) := by
  apply List.ext_getElem?
  intro n
  rw [List.getElem?_set]
  by_cases hk : k = n
  · subst hk
    rw [if_pos rfl, tabI_len]
    by_cases h : k < N
    · rw [if_pos h, tabI_get _ h, if_pos rfl]
    · rw [if_neg h, List.getElem?_eq_none (by rw [tabI_len]; omega)]
  · rw [if_neg hk]
    by_cases h : n < N
    · rw [tabI_get _ h, tabI_get _ h, if_neg (fun z => hk z.symm)]
    · rw [List.getElem?_eq_none (by rw [tabI_len]; omega), List.getElem?_eq_none (by rw [tabI_len]; omega)]
theorem tabI_congr {N : Nat} {f g : Nat → Int} (h : ∀ j, j < N → f j = g j) : tabI N f = tabI N g := by
  unfold tabI
  apply List.map_congr_left
  intro j hj
  rw [h j (List.mem_range.mp hj)]
theorem tabI_zero (n : Nat) : (List.replicate n [PyData.int 0]).flatten = tabI n (fun _ => 0) := by
  induction n with
  | zero => rfl
  | succ n ih =>
    rw [List.replicate_succ', List.flatten_append, ih]
    unfold tabI
    rw [List.range_succ, List.map_append]
    rfl
theorem tabI_flat (N : Nat) (f : Nat → Int) : flats (tabI N f) = true := by
  unfold tabI
  generalize List.range N = l
  induction l with
  | nil => rfl
  | cons a r ih => simp [flats, flat, ih]
theorem pIx_nat {n k : Nat} (h : k < n) : pIx n (k : Int) = some k := by
  unfold pIx
  rw [if_pos (by omega), if_pos (by omega)]
  rfl
def stepW (w : Nat → Int) (m : Int) (p : Rat) : Nat → Int := fun j => w j * (p.den - p.num) + (if m.toNat ≤ j then w (j - m.toNat) * p.num else 0)
def partW (w : Nat → Int) (m : Int) (p : Rat) (i : Nat) : Nat → Int := fun j => (if j < i then w j * (p.den - p.num) else 0) + (if m.toNat ≤ j ∧ j - m.toNat < i then w (j - m.toNat) * p.num else 0)
theorem partW_step {w : Nat → Int} {m : Int} {p : Rat} {i : Nat} (hm : 1 ≤ m) (j : Nat) :
    (if j = i + m.toNat then (if i + m.toNat = i then partW w m p i i + w i * (p.den - p.num) else partW w m p i (i + m.toNat)) + w i * p.num else if j = i then partW w m p i i + w i * (p.den - p.num) else partW w m p i j) = partW w m p (i + 1) j := by
  have hM : 0 < m.toNat := by omega
  unfold partW
  by_cases h1 : j = i + m.toNat
  · subst h1
    rw [if_pos rfl, if_neg (show ¬ i + m.toNat = i by omega), if_neg (show ¬ i + m.toNat < i by omega), if_neg (show ¬ (m.toNat ≤ i + m.toNat ∧ i + m.toNat - m.toNat < i) by omega), if_neg (show ¬ i + m.toNat < i + 1 by omega), if_pos (show m.toNat ≤ i + m.toNat ∧ i + m.toNat - m.toNat < i + 1 by omega), show i + m.toNat - m.toNat = i by omega]
    omega
  · rw [if_neg h1]
    by_cases h2 : j = i
    · subst h2
      rw [if_pos rfl, if_neg (show ¬ j < j by omega), if_pos (show j < j + 1 by omega)]
      by_cases h3 : m.toNat ≤ j
      · rw [if_pos (show m.toNat ≤ j ∧ j - m.toNat < j by omega), if_pos (show m.toNat ≤ j ∧ j - m.toNat < j + 1 by omega)]
        omega
      · rw [if_neg (show ¬ (m.toNat ≤ j ∧ j - m.toNat < j) by omega), if_neg (show ¬ (m.toNat ≤ j ∧ j - m.toNat < j + 1) by omega)]
        omega
    · rw [if_neg h2]
      have e1 : (j < i) ↔ (j < i + 1) := by omega
      have e2 : (m.toNat ≤ j ∧ j - m.toNat < i) ↔ (m.toNat ≤ j ∧ j - m.toNat < i + 1) := by omega
      simp only [e1, e2]
theorem with_row_spec {N : Nat} {w : Nat → Int} {m : Int} {p : Rat} (hN : N ≤ 1000) (hm : 1 ≤ m) (hm4 : m ≤ 4) (hw : ∀ j, sm 3000 (w j)) (hz : ∀ j, N ≤ j → w j = 0) (hp : chOk p) :
    F_with_row [.list (tabI N w), .int m, rD p] = some (.list (tabI (N + m.toNat) (stepW w m p))) := by
  obtain ⟨p0, p1, p2⟩ := hp
  have sp : sm 4000 p.num := by unfold sm; exact Nat.lt_of_lt_of_le (show p.num.natAbs < 2 ^ 8 by omega) (Nat.pow_le_pow_right (by decide) (by decide))
  have sp' : sm 4000 (p.den - p.num) := by unfold sm; exact Nat.lt_of_lt_of_le (show ((p.den : Int) - p.num).natAbs < 2 ^ 8 by omega) (Nat.pow_le_pow_right (by decide) (by decide))
  unfold F_with_row rD
  simp only [EV, reduceIte, Nat.reduceAdd, Nat.reduceLT, Nat.reduceLeDiff, Nat.reduceEqDiff, Int.reduceEq, Int.reduceLT, Int.reduceLE, tabI_len, sz (show 1 ≤ 1000000 by decide)]
  have er : gRep (.list [.int 0]) (.int (N + m)) = some (.list (tabI (N + m.toNat) (fun _ => 0))) := by
    show (if [PyData.int 0].length * ((N : Int) + m).toNat ≤ 1000000 ∧ -(2 ^ 63) ≤ (N : Int) + m ∧ (N : Int) + m < 2 ^ 63 then some (PyData.list (List.replicate ((N : Int) + m).toNat [PyData.int 0]).flatten) else none) = _
    rw [if_pos (by simp only [List.length_cons, List.length_nil]; omega), tabI_zero, show ((N : Int) + m).toNat = N + m.toNat by omega]
  simp only [EV, reduceIte, Nat.reduceAdd, Nat.reduceLT, Nat.reduceLeDiff, Nat.reduceEqDiff, Int.reduceEq, Int.reduceLT, Int.reduceLE, er]
  obtain ⟨δ', e, x, y, rfl⟩ := for_inv (g := gTn 2 (gsCons (gNl 4) (gsCons (gNl 5) (gsNil)))) (b := (sSeq (sPut 3 (dVar 4) (dOp gAdd (dOp gIx (dVar 3) (dVar 4)) (dOp gMul (dVar 5) (dOp gSub (dOp gIx (dVar 2) (dC (.int 1))) (dOp gIx (dVar 2) (dC (.int 0)))))))
    (sPut 3 (dOp gAdd (dVar 4) (dVar 1)) (dOp gAdd (dOp gIx (dVar 3) (dOp gAdd (dVar 4) (dVar 1))) (dOp gMul (dVar 5) (dOp gIx (dVar 2) (dC (.int 0))))))))
    (fun i δ => ∃ x y, δ = [some (.d (.list (tabI N w))), some (.d (.int m)), some (.d (.tuple [.int p.num, .int p.den])), some (.d (.list (tabI (N + m.toNat) (partW w m p i)))), x, y]) (enumD (tabI N w))
    [some (.d (.list (tabI N w))), some (.d (.int m)), some (.d (.tuple [.int p.num, .int p.den])), some (.d (.list (tabI (N + m.toNat) (fun _ => 0)))), none, none]
    ⟨none, none, by
      have : tabI (N + m.toNat) (fun _ => 0) = tabI (N + m.toNat) (partW w m p 0) := tabI_congr fun j _ => by
        unfold partW
        rw [if_neg (by omega), if_neg (by omega)]
        rfl
      rw [this]⟩ (by
      rintro i d δ hd ⟨x, y, rfl⟩
      unfold enumD at hd
      rw [List.getElem?_mapIdx] at hd
      by_cases hi : i < N
      · rw [tabI_get _ hi] at hd
        cases hd
        have hi1 : i < N + m.toNat := by omega
        have hi2 : i + m.toNat < N + m.toNat := by omega
        have g1 : ∀ f : Nat → Int, pAt (tabI (N + m.toNat) f) (i : Int) = some (.int (f i)) := fun f => by rw [pAt_nat, tabI_get _ hi1]
        have em : (i : Int) + m = ((i + m.toNat : Nat) : Int) := by omega
        have g2 : ∀ f : Nat → Int, pAt (tabI (N + m.toNat) f) ((i : Int) + m) = some (.int (f (i + m.toNat))) := fun f => by rw [em, pAt_nat, tabI_get _ hi2]
        have x1 : pIx (N + m.toNat) (i : Int) = some i := pIx_nat hi1
        have x2 : pIx (N + m.toNat) ((i : Int) + m) = some (i + m.toNat) := by rw [em]; exact pIx_nat hi2
        refine ⟨_, _, rfl, .inl ?_, some (.d (.int (i : Int))), some (.d (.int (w i))), rfl⟩
        simp only [EV, reduceIte, Nat.reduceAdd, Nat.reduceLT, Nat.reduceLeDiff, Nat.reduceEqDiff, Int.reduceEq, Int.reduceLT, Int.reduceLE, g1, at0, at1, mulS (sm_le (hw i) (show 3000 ≤ 4000 by decide)) sp', tabI_len, x1, Option.bind_some, tabI_set]
        simp only [EV, reduceIte, Nat.reduceAdd, Nat.reduceLT, Nat.reduceLeDiff, Nat.reduceEqDiff, Int.reduceEq, Int.reduceLT, Int.reduceLE, g2, mulS (sm_le (hw i) (show 3000 ≤ 4000 by decide)) sp, x2, tabI_len, Option.bind_some, tabI_set]
        rw [tabI_congr (N := N + m.toNat) fun j _ => partW_step (w := w) (p := p) (i := i) hm j]
      · rw [List.getElem?_eq_none (by rw [tabI_len]; omega)] at hd
        cases hd)
  rw [e]
  have el : (enumD (tabI N w)).length = N := by simp [enumD, tabI]
  have ef : tabI (N + m.toNat) (partW w m p (enumD (tabI N w)).length) = tabI (N + m.toNat) (stepW w m p) := tabI_congr fun j hj => by
    rw [el]
    unfold partW stepW
    congr 1
    · by_cases h : j < N
      · rw [if_pos h]
      · rw [if_neg h, hz j (by omega), Int.zero_mul]
    · by_cases h : m.toNat ≤ j
      · rw [if_pos h, if_pos ⟨h, by omega⟩]
      · rw [if_neg h, if_neg (fun z => h z.1)]
  simp only [EV, reduceIte, Nat.reduceAdd, Nat.reduceLT, Nat.reduceLeDiff, Nat.reduceEqDiff, Int.reduceEq, Int.reduceLT, Int.reduceLE, ef, tabI_flat]
structure Tb where
  N : Nat
  w : Nat → Int
  B : Int
def tb0 : Tb := ⟨1, fun j => if j = 0 then 1 else 0, 1⟩
def tbS (t : Tb) (r : Row) : Tb := ⟨t.N + r.1.toNat, stepW t.w r.1 r.2, t.B * r.2.den⟩
def tbOf (rs : List Row) : Tb := rs.foldl tbS tb0
theorem tbOf_snoc (rs : List Row) (r : Row) : tbOf (rs ++ [r]) = tbS (tbOf rs) r := by
  unfold tbOf
  rw [List.foldl_append]
  rfl
def sumTo (f : Nat → Int) : Nat → Int
  | 0 => 0
  | n + 1 => sumTo f n + f n
theorem sumTo_add (f g : Nat → Int) : ∀ n, sumTo (fun j => f j + g j) n = sumTo f n + sumTo g n
  | 0 => rfl
  | n + 1 => by simp only [sumTo, sumTo_add f g n]; omega
theorem sumTo_mul (f : Nat → Int) (c : Int) : ∀ n, sumTo (fun j => f j * c) n = sumTo f n * c
  | 0 => by simp [sumTo]
  | n + 1 => by simp only [sumTo, sumTo_mul f c n, Int.add_mul]
theorem sumTo_zero {f : Nat → Int} {N : Nat} (h : ∀ j, N ≤ j → f j = 0) : ∀ k, sumTo f (N + k) = sumTo f N
  | 0 => rfl
  | k + 1 => by
    rw [show N + (k + 1) = N + k + 1 by omega, sumTo, sumTo_zero h k, h (N + k) (by omega)]
    omega
theorem sumTo_shift (f : Nat → Int) (M : Nat) : ∀ n, sumTo (fun j => if M ≤ j then f (j - M) else 0) (n + M) = sumTo f n
  | 0 => by
    have : ∀ k, k ≤ M → sumTo (fun j => if M ≤ j then f (j - M) else 0) k = 0 := fun k => by
      induction k with
      | zero => exact fun _ => rfl
      | succ k ih => intro h; rw [sumTo, ih (by omega), if_neg (by omega)]; rfl
    rw [Nat.zero_add, this M (Nat.le_refl _)]
    rfl
  | n + 1 => by
    rw [show n + 1 + M = n + M + 1 by omega, sumTo, sumTo_shift f M n, if_pos (by omega), show n + M - M = n by omega]
    rfl
structure TbOk (t : Tb) (k : Nat) : Prop where
  B0 : 0 < t.B
  Bs : sm (7 * k + 1) t.B
  w0 : ∀ j, 0 ≤ t.w j
  wB : ∀ j, t.w j ≤ t.B
  wz : ∀ j, t.N ≤ j → t.w j = 0
  N1 : 1 ≤ t.N
  N4 : t.N ≤ 1 + 4 * k
  sum : sumTo t.w t.N = t.B
theorem tb0_ok : TbOk tb0 0 := ⟨by decide, by unfold sm; decide, fun j => by show 0 ≤ if j = 0 then (1 : Int) else 0; split <;> decide, fun j => by show (if j = 0 then (1 : Int) else 0) ≤ 1; split <;> decide,
  fun j (hj : 1 ≤ j) => by show (if j = 0 then (1 : Int) else 0) = 0; rw [if_neg (by omega)], Nat.le_refl _, Nat.le_refl _, rfl⟩
theorem tbS_ok {t : Tb} {k : Nat} {r : Row} (h : TbOk t k) (hr : rowOk r) : TbOk (tbS t r) (k + 1) := by
  obtain ⟨m, p⟩ := r
  obtain ⟨h1, h2, p0, p1, p2⟩ := hr
  dsimp only at h1 h2 p0 p1 p2
  have den : (0 : Int) < p.den := by have := p.den_nz; omega
  have nn : ∀ j, 0 ≤ t.w j * (p.den - p.num) := fun j => Int.mul_nonneg (h.w0 j) (by omega)
  have nm : ∀ j, 0 ≤ t.w j * p.num := fun j => Int.mul_nonneg (h.w0 j) p0
  refine ⟨Int.mul_pos h.B0 den, ?_, fun j => ?_, fun j => ?_, fun j hj => ?_, ?_, ?_, ?_⟩
  · have e : sm 7 (p.den : Int) := by unfold sm; have : (2 : Nat) ^ 7 = 128 := rfl; omega
    have := sm_mul h.Bs e
    rw [show 7 * (k + 1) + 1 = 7 * k + 1 + 7 by omega]
    exact this
  · show 0 ≤ stepW t.w m p j
    unfold stepW
    have := nn j
    split
    · have := nm (j - m.toNat); omega
    · omega
  · show stepW t.w m p j ≤ t.B * p.den
    unfold stepW
    have a1 : t.w j * (p.den - p.num) ≤ t.B * (p.den - p.num) := Int.mul_le_mul_of_nonneg_right (h.wB j) (by omega)
    have a3 : t.B * (p.den - p.num) + t.B * p.num = t.B * p.den := by rw [← Int.mul_add]; congr 1; omega
    have a4 : 0 ≤ t.B * p.num := Int.mul_nonneg (Int.le_of_lt h.B0) p0
    split
    · have a2 : t.w (j - m.toNat) * p.num ≤ t.B * p.num := Int.mul_le_mul_of_nonneg_right (h.wB _) p0
      omega
    · omega
  · have hj' : t.N + m.toNat ≤ j := hj
    show stepW t.w m p j = 0
    unfold stepW
    rw [h.wz j (by omega), if_pos (by omega), h.wz (j - m.toNat) (by omega)]
    omega
  · show 1 ≤ t.N + m.toNat
    have := h.N1
    omega
  · show t.N + m.toNat ≤ 1 + 4 * (k + 1)
    have := h.N4
    omega
  · show sumTo (stepW t.w m p) (t.N + m.toNat) = t.B * p.den
    have e1 : sumTo (stepW t.w m p) (t.N + m.toNat) = sumTo (fun j => t.w j * (p.den - p.num)) (t.N + m.toNat) + sumTo (fun j => if m.toNat ≤ j then (fun i => t.w i * p.num) (j - m.toNat) else 0) (t.N + m.toNat) := sumTo_add _ _ _
    rw [e1, sumTo_shift (fun i => t.w i * p.num) m.toNat t.N, sumTo_zero (fun j hj => by rw [h.wz j hj, Int.zero_mul]) m.toNat, sumTo_mul, sumTo_mul, h.sum, ← Int.mul_add]
    congr 1
    omega
theorem tbOf_go : ∀ (rs : List Row) (t : Tb) (k : Nat), TbOk t k → (∀ r ∈ rs, rowOk r) → TbOk (rs.foldl tbS t) (k + rs.length)
  | [], _, _, h, _ => h
  | r :: rs, t, k, h, hr => by
    have := tbOf_go rs (tbS t r) (k + 1) (tbS_ok h (hr r List.mem_cons_self)) fun x hx => hr x (List.mem_cons_of_mem _ hx)
    rw [List.length_cons, show k + (rs.length + 1) = k + 1 + rs.length by omega]
    exact this
theorem tbOf_ok {rs : List Row} (h : ∀ r ∈ rs, rowOk r) : TbOk (tbOf rs) rs.length := by
  have := tbOf_go rs tb0 0 tb0_ok h
  rw [Nat.zero_add] at this
  exact this
theorem all_weights_spec {rs : List Row} (h : ∀ r ∈ rs, rowOk r) (hl : rs.length ≤ 64) : F_all_weights [.list (rs.map rowD)] = some (.list (tabI (tbOf rs).N (tbOf rs).w)) := by
  unfold F_all_weights
  simp only [EV, reduceIte, Nat.reduceAdd, Nat.reduceLT, Nat.reduceLeDiff, Nat.reduceEqDiff, Int.reduceEq, Int.reduceLT, Int.reduceLE, sz (show 1 ≤ 1000000 by decide)]
  have i0 : [PyData.int 1] = tabI tb0.N tb0.w := rfl
  obtain ⟨δ', e, x, y, rfl⟩ := for_inv (g := gTn 2 (gsCons (gNl 2) (gsCons (gNl 3) (gsNil)))) (b := (sSetl 1 (dFl1 (dCall F_with_row (dCons (dVar 1) (dCons (dVar 2) (dCons (dVar 3) (dNil))))))))
    (fun i δ => ∃ x y, δ = [some (.d (.list (rs.map rowD))), some (.d (.list (tabI (tbOf (rs.take i)).N (tbOf (rs.take i)).w))), x, y]) (rs.map rowD)
    [some (.d (.list (rs.map rowD))), some (.d (.list [.int 1])), none, none] ⟨none, none, by rw [i0]; rfl⟩ (by
      rintro i d δ hd ⟨x, y, rfl⟩
      rw [List.getElem?_map] at hd
      cases hr : rs[i]? with
      | none => rw [hr] at hd; cases hd
      | some r =>
        rw [hr] at hd
        cases hd
        have hi : i < rs.length := by
          rcases Nat.lt_or_ge i rs.length with z | z
          · exact z
          · rw [List.getElem?_eq_none z] at hr; cases hr
        have hok := h r (List.mem_of_getElem? hr)
        have T := tbOf_ok (rs := rs.take i) fun x hx => h x (List.mem_of_mem_take hx)
        have ll : (rs.take i).length = i := by rw [List.length_take]; omega
        rw [ll] at T
        have es : rs.take (i + 1) = rs.take i ++ [r] := by rw [List.take_add_one, hr]; rfl
        have sB : sm 3000 (tbOf (rs.take i)).B := sm_le T.Bs (by omega)
        have ew := with_row_spec (N := (tbOf (rs.take i)).N) (w := (tbOf (rs.take i)).w) (m := r.1) (p := r.2) (by have := T.N4; omega) hok.1 hok.2.1 (fun j => sm_of sB (T.w0 j) (T.wB j)) T.wz hok.2.2
        refine ⟨_, _, rfl, .inl ?_, some (.d (.int r.1)), some (.d (rD r.2)), rfl⟩
        simp only [EV, reduceIte, Nat.reduceAdd, Nat.reduceLT, Nat.reduceLeDiff, Nat.reduceEqDiff, Int.reduceEq, Int.reduceLT, Int.reduceLE, ew, tabI_flat]
        rw [es, tbOf_snoc]
        rfl)
  rw [e, List.length_map, List.take_length]
  simp only [EV, reduceIte, Nat.reduceAdd, Nat.reduceLT, Nat.reduceLeDiff, Nat.reduceEqDiff, Int.reduceEq, Int.reduceLT, Int.reduceLE, tabI_flat]
theorem common_bottom_spec {rs : List Row} (h : ∀ r ∈ rs, rowOk r) (hl : rs.length ≤ 64) : F_common_bottom [.list (rs.map rowD)] = some (.int (tbOf rs).B) := by
  unfold F_common_bottom
  simp only [EV, reduceIte, Nat.reduceAdd, Nat.reduceLT, Nat.reduceLeDiff, Nat.reduceEqDiff, Int.reduceEq, Int.reduceLT, Int.reduceLE]
  obtain ⟨δ', e, x, y, rfl⟩ := for_inv (g := gTn 2 (gsCons (gNl 2) (gsCons (gNl 3) (gsNil)))) (b := (sSetl 1 (dOp gMul (dVar 1) (dOp gIx (dVar 3) (dC (.int 1))))))
    (fun i δ => ∃ x y, δ = [some (.d (.list (rs.map rowD))), some (.d (.int (tbOf (rs.take i)).B)), x, y]) (rs.map rowD)
    [some (.d (.list (rs.map rowD))), some (.d (.int 1)), none, none] ⟨none, none, rfl⟩ (by
      rintro i d δ hd ⟨x, y, rfl⟩
      rw [List.getElem?_map] at hd
      cases hr : rs[i]? with
      | none => rw [hr] at hd; cases hd
      | some r =>
        rw [hr] at hd
        cases hd
        have hi : i < rs.length := by
          rcases Nat.lt_or_ge i rs.length with z | z
          · exact z
          · rw [List.getElem?_eq_none z] at hr; cases hr
        have hok := h r (List.mem_of_getElem? hr)
        have T := tbOf_ok (rs := rs.take i) fun x hx => h x (List.mem_of_mem_take hx)
        have ll : (rs.take i).length = i := by rw [List.length_take]; omega
        rw [ll] at T
        have es : rs.take (i + 1) = rs.take i ++ [r] := by rw [List.take_add_one, hr]; rfl
        have sB : sm 3000 (tbOf (rs.take i)).B := sm_le T.Bs (by omega)
        have sd : sm 4000 (r.2.den : Int) := by
          unfold sm
          have := hok.2.2.2.2
          exact Nat.lt_of_lt_of_le (show ((r.2.den : Nat) : Int).natAbs < 2 ^ 8 by omega) (Nat.pow_le_pow_right (by decide) (by decide))
        refine ⟨_, _, rfl, .inl ?_, some (.d (.int r.1)), some (.d (rD r.2)), rfl⟩
        unfold rD
        simp only [EV, reduceIte, Nat.reduceAdd, Nat.reduceLT, Nat.reduceLeDiff, Nat.reduceEqDiff, Int.reduceEq, Int.reduceLT, Int.reduceLE, at1, mulS (sm_le sB (show 3000 ≤ 4000 by decide)) sd]
        rw [es, tbOf_snoc]
        rfl)
  rw [e, List.length_map, List.take_length]
  simp only [EV, reduceIte, Nat.reduceAdd, Nat.reduceLT, Nat.reduceLeDiff, Nat.reduceEqDiff, Int.reduceEq, Int.reduceLT, Int.reduceLE]
end Com
namespace Com
open PySem D3 My
theorem flat_rD (r : Rat) : flat (rD r) = true := rfl
end Com
namespace Com
open PySem D3 My
structure bd (k : Nat) (a : Rat) : Prop where
  n : sm k a.num
  d : sm k (a.den : Int)
def sumR (l : List Rat) : Rat := l.foldl (· + ·) 0
end Com
namespace Com
open PySem D3 My
theorem sumTo_le {f g : Nat → Int} : ∀ n, (∀ j, j < n → f j ≤ g j) → sumTo f n ≤ sumTo g n
  | 0, _ => Int.le_refl _
  | n + 1, h => by
    have := sumTo_le n fun j hj => h j (by omega)
    have := h n (by omega)
    simp only [sumTo]
    omega
theorem sumTo_nn {f : Nat → Int} : ∀ n, (∀ j, j < n → 0 ≤ f j) → 0 ≤ sumTo f n
  | 0, _ => Int.le_refl _
  | n + 1, h => by
    have := sumTo_nn n fun j hj => h j (by omega)
    have := h n (by omega)
    simp only [sumTo]
    omega
theorem drop_sum (w : Nat → Int) (k : Nat) : ∀ N, (((List.range N).map w).drop k).sum = sumTo (fun j => if k ≤ j then w j else 0) N
  | 0 => by simp [sumTo]
  | N + 1 => by
    rw [List.range_succ, List.map_append, sumTo]
    by_cases c : k ≤ N
    · rw [List.drop_append_of_le_length (by rw [List.length_map, List.length_range]; exact c), List.sum_append, drop_sum w k N, if_pos c]
      simp
    · rw [if_neg c, List.drop_of_length_le (by simp; omega), ← drop_sum w k N, List.drop_of_length_le (by simp; omega)]
      rfl
theorem tabI_ints (N : Nat) (f : Nat → Int) : tabI N f = ((List.range N).map f).map .int := by
  unfold tabI
  rw [List.map_map]
  rfl
def tl (u : Nat → Int) (M a : Nat) : Int := sumTo (fun j => if a ≤ j then u j else 0) M
def tlI (t : Tb) (x : Int) : Int := tl t.w t.N (x + 1).toNat
theorem tlI_b {t : Tb} {k : Nat} (T : TbOk t k) (x : Int) : 0 ≤ tlI t x ∧ tlI t x ≤ t.B := by
  unfold tlI tl
  constructor
  · refine sumTo_nn _ fun j _ => ?_
    have := T.w0 j
    show 0 ≤ if (x + 1).toNat ≤ j then t.w j else 0
    split <;> omega
  · rw [← T.sum]
    refine sumTo_le _ fun j _ => ?_
    have := T.w0 j
    show (if (x + 1).toNat ≤ j then t.w j else 0) ≤ _
    split <;> omega
abbrev Sy := Int × Int × Int × Rat
def syD (s : Sy) : D := .tuple [.int s.1, .int s.2.1, .int s.2.2.1, rD s.2.2.2]
def syOk (s : Sy) : Prop := chOk s.2.2.2
def hy (n k : Int) (s : Sy) : Bool := decide (k ≤ s.2.2.1) && (decide (s.1 ≤ n) && decide (n < s.2.1))
def rowsAt (ss : List Sy) (n k : Int) : List Row := (ss.filter (hy n k)).map fun s => (1, s.2.2.2)
def rmF (lad : List Int) (k : Int) : Int := (lad.drop (k - 1).toNat).sum
def tbAt (ss : List Sy) (n k : Int) : Tb := tbOf (rowsAt ss n k)
def tpI (ss : List Sy) (lad : List Int) (n k : Int) : Int := tlI (tbAt ss n k) (rmF lad k)
def chR (ss : List Sy) (lad : List Int) (n k : Int) : Rat := q (tpI ss lad n k) (tbAt ss n k).B
theorem rowsAt_ok {ss : List Sy} (h : ∀ s ∈ ss, syOk s) (n k : Int) : ∀ r ∈ rowsAt ss n k, rowOk r := fun r hr => by
  obtain ⟨s, hs, rfl⟩ := List.mem_map.mp hr
  exact ⟨(by decide : (1 : Int) ≤ 1), (by decide : (1 : Int) ≤ 4), h s (List.mem_filter.mp hs).1⟩
theorem rowsAt_len (ss : List Sy) (n k : Int) : (rowsAt ss n k).length ≤ ss.length := by
  unfold rowsAt
  rw [List.length_map]
  exact List.length_filter_le _ _
theorem tbAt_ok {ss : List Sy} (h : ∀ s ∈ ss, syOk s) (n k : Int) : TbOk (tbAt ss n k) (rowsAt ss n k).length := tbOf_ok (rowsAt_ok h n k)
theorem syN_spec (s : Sy) : F_nights_of [syD s] = some (.tuple [.int s.1, .int s.2.1]) := by
  unfold F_nights_of syD
  simp only [EV, reduceIte, Nat.reduceAdd, Nat.reduceLT, Nat.reduceLeDiff, Nat.reduceEqDiff, Int.reduceEq, Int.reduceLT, Int.reduceLE, at0, at1, sz (show 2 ≤ 1000000 by decide)]
theorem hold_spec (a b n : Int) : F_holds [.tuple [.int a, .int b], .int n] = some (.bool (decide (a ≤ n) && decide (n < b))) := by
  unfold F_holds
  by_cases c : a ≤ n
  · simp only [EV, reduceIte, Nat.reduceAdd, Nat.reduceLT, Nat.reduceLeDiff, Nat.reduceEqDiff, Int.reduceEq, Int.reduceLT, Int.reduceLE, at0, at1, decide_eq_true c, Bool.true_and]
  · simp only [EV, reduceIte, Nat.reduceAdd, Nat.reduceLT, Nat.reduceLeDiff, Nat.reduceEqDiff, Int.reduceEq, Int.reduceLT, Int.reduceLE, at0, at1, decide_eq_false c, Bool.false_and]
theorem rooms_from_spec {lad : List Int} {k : Int} (h : 1 ≤ k) : F_rooms_from [.list (lad.map .int), .int k] = some (.int (rmF lad k)) := by
  unfold F_rooms_from
  simp only [EV, reduceIte, Nat.reduceAdd, Nat.reduceLT, Nat.reduceLeDiff, Nat.reduceEqDiff, Int.reduceEq, Int.reduceLT, Int.reduceLE, cutDr (l := lad.map .int) (k := k - 1) (by omega)]
  rw [← List.map_drop, n_sum]
  simp only [EV, reduceIte, Nat.reduceAdd, Nat.reduceLT, Nat.reduceLeDiff, Nat.reduceEqDiff, Int.reduceEq, Int.reduceLT, Int.reduceLE]
  rfl
theorem comers_above_spec {rs : List Row} (h : ∀ r ∈ rs, rowOk r) (hl : rs.length ≤ 64) {x : Int} (hx : 0 ≤ x) : F_comers_above [.list (rs.map rowD), .int x] = some (rD (q (tlI (tbOf rs) x) (tbOf rs).B)) := by
  have T := tbOf_ok h
  have ds : gSum [.list ((tabI (tbOf rs).N (tbOf rs).w).drop (x + 1).toNat)] = some (.int (tlI (tbOf rs) x)) := by
    rw [tabI_ints, ← List.map_drop, n_sum, drop_sum]
    rfl
  unfold F_comers_above
  simp only [EV, reduceIte, Nat.reduceAdd, Nat.reduceLT, Nat.reduceLeDiff, Nat.reduceEqDiff, Int.reduceEq, Int.reduceLT, Int.reduceLE, all_weights_spec h hl, common_bottom_spec h hl, cutDr (l := tabI (tbOf rs).N (tbOf rs).w) (k := x + 1) (by omega), ds]
  rw [ratio_spec T.B0 (sm_le T.Bs (by omega))]
  simp only [EV, reduceIte, Nat.reduceAdd, Nat.reduceLT, Nat.reduceLeDiff, Nat.reduceEqDiff, Int.reduceEq, Int.reduceLT, Int.reduceLE]
theorem rmF_nn {lad : List Int} (h : ∀ r ∈ lad, 0 ≤ r) (k : Int) : 0 ≤ rmF lad k := by
  unfold rmF
  have : ∀ l : List Int, (∀ r ∈ l, 0 ≤ r) → 0 ≤ l.sum := fun l => by
    induction l with
    | nil => intro _; exact Int.le_refl _
    | cons a r ih =>
      intro h
      have := ih fun x hx => h x (List.mem_cons_of_mem _ hx)
      have := h a List.mem_cons_self
      rw [List.sum_cons]
      omega
  exact this _ fun r hr => h r (List.mem_of_mem_drop hr)
theorem chance_at_spec {ss : List Sy} {lad : List Int} (h : ∀ s ∈ ss, syOk s) (hl : ss.length ≤ 64) (lp : ∀ r ∈ lad, 0 ≤ r) {n k : Int} (hk : 1 ≤ k) : F_chance_at [.list (ss.map syD), .int n, .int k, .list (lad.map .int)] = some (rD (chR ss lad n k)) := by
  have C := cFil (g := (gNl 0)) (c := (D3.tAnd (tBool (dOp gGe (dOp gIx (dVar 0) (dC (.int 2))) (dVar 1))) (tBool (dCall F_holds (dCons (dCall F_nights_of (dCons (dVar 0) (dNil))) (dCons (dVar 2) (dNil))))))) (e := (dFlat (dTup (dCons (dC (.int 1)) (dCons (dOp gIx (dVar 0) (dC (.int 3))) (dNil)))))) (δ := [none, some (.d (.int k)), some (.d (.int n))]) syD (hy n k) (fun s => rowD (1, s.2.2.2)) ss (fun s _ => by
    refine ⟨[some (.d (syD s)), some (.d (.int k)), some (.d (.int n))], rfl, ?_, fun _ => ?_⟩
    · have i2 : gIx (syD s) (.int 2) = some (.int s.2.2.1) := by unfold syD; exact at2
      unfold hy
      by_cases c : k ≤ s.2.2.1
      · simp only [EV, reduceIte, Nat.reduceAdd, Nat.reduceLT, Nat.reduceLeDiff, Nat.reduceEqDiff, Int.reduceEq, Int.reduceLT, Int.reduceLE, i2, decide_eq_true c, syN_spec, hold_spec, Bool.true_and]
      · simp only [EV, reduceIte, Nat.reduceAdd, Nat.reduceLT, Nat.reduceLeDiff, Nat.reduceEqDiff, Int.reduceEq, Int.reduceLT, Int.reduceLE, i2, decide_eq_false c, Bool.false_and]
    · have i3 : gIx (syD s) (.int 3) = some (rD s.2.2.2) := by unfold syD; exact at3
      simp only [EV, reduceIte, Nat.reduceAdd, Nat.reduceLT, Nat.reduceLeDiff, Nat.reduceEqDiff, Int.reduceEq, Int.reduceLT, Int.reduceLE, i3, sz (show 2 ≤ 1000000 by decide), flat_rD]
      rfl)
  have ca : ∀ a b c d e : Option U, capD 1 [2, 1] [a, b, c, d, e] = [none, c, b] := fun _ _ _ _ _ => rfl
  have er : ((ss.filter (hy n k)).map fun s => rowD (1, s.2.2.2)) = (rowsAt ss n k).map rowD := by unfold rowsAt; rw [List.map_map]; rfl
  rw [er] at C
  have cs := comers_above_spec (rowsAt_ok h n k) (Nat.le_trans (rowsAt_len ss n k) hl) (rmF_nn lp k)
  unfold F_chance_at
  simp only [EV, reduceIte, Nat.reduceAdd, Nat.reduceLT, Nat.reduceLeDiff, Nat.reduceEqDiff, Int.reduceEq, Int.reduceLT, Int.reduceLE, List.length_map, show ss.length ≤ 100000 by omega, ca, C, rooms_from_spec hk, cs]
  rfl
end Com
namespace Com
open PySem D3 My
theorem rng_get {hi : Int} {i : Nat} {d : D} (h : (rngD 0 hi)[i]? = some d) : (i : Int) < hi ∧ d = .int (i : Int) := by
  unfold rngD at h
  rw [List.getElem?_map] at h
  by_cases hi' : i < (hi - 0).toNat
  · rw [List.getElem?_range hi'] at h
    cases h
    refine ⟨by omega, ?_⟩
    show PyData.int (0 + (i : Int)) = _
    rw [Int.zero_add]
  · rw [List.getElem?_eq_none (by simpa using hi')] at h
    cases h
def over (ts : List Rat) (ρ : Rat) (n : Nat) : Bool := decide (ρ.num * (sumR (ts.drop (n + 1))).den < (sumR (ts.drop (n + 1))).num * ρ.den)
end Com
namespace Com
open PySem D3 My
def r6 (x : Int) : Prop := 0 ≤ x ∧ x < 1000000
end Com
namespace Com
open PySem D3 My
end Com
namespace Com
open PySem D3 My
end Com
namespace K25
open PySem D3
noncomputable abbrev F_is_whole : List D → Option D := Com.F_is_whole
noncomputable abbrev F_all_whole : List D → Option D := Com.F_all_whole
noncomputable abbrev F_is_whole_list : List D → Option D := Com.F_is_whole_list
noncomputable abbrev F_greatest_divisor : List D → Option D := Com.F_greatest_divisor
noncomputable abbrev F_lowest : List D → Option D := Com.F_lowest
noncomputable abbrev F_ratio : List D → Option D := Com.F_ratio
noncomputable abbrev F_nights_of : List D → Option D := Com.F_nights_of
noncomputable abbrev F_holds : List D → Option D := Com.F_holds
noncomputable abbrev F_with_row : List D → Option D := Com.F_with_row
noncomputable abbrev F_all_weights : List D → Option D := Com.F_all_weights
noncomputable abbrev F_common_bottom : List D → Option D := Com.F_common_bottom
noncomputable abbrev F_comers_above : List D → Option D := Com.F_comers_above
noncomputable abbrev F_is_ladder : List D → Option D := Com.F_is_ladder
noncomputable abbrev F_rooms_from : List D → Option D := Com.F_rooms_from
noncomputable abbrev F_chance_at : List D → Option D := Com.F_chance_at
noncomputable abbrev F__law_cell : List D → Option D := Com.F__law_cell
noncomputable abbrev F__law_part : List D → Option D := Com.F__law_part
noncomputable abbrev F__law_whole : List D → Option D := Com.F__law_whole
noncomputable abbrev F__law_divisor : List D → Option D := Com.F__law_divisor
noncomputable abbrev F__law_low : List D → Option D := Com.F__law_low
noncomputable abbrev F__law_is_ratio : List D → Option D := Com.F__law_is_ratio
noncomputable abbrev F__law_chance : List D → Option D := Com.F__law_chance
noncomputable abbrev F__law_ladder : List D → Option D := Com.F__law_ladder
noncomputable abbrev F__law_base : List D → Option D := Com.F__law_base
noncomputable def F__law_stay : List D → Option D := fnD 4 2 (sSeq (sSetl 4 (dOp gAdd (dOp gIx (dVar 2) (dC (.int 0))) (dCall F__law_part (dCons (dVar 0) (dCons (dVar 1) (dCons (dC (.int 0)) (dCons (dOp gIx (dVar 2) (dC (.int 1))) (dNil))))))))
    (sSeq (sSetl 5 (dOp gAdd (dOp gAdd (dVar 4) (dC (.int 1))) (dCall F__law_part (dCons (dVar 0) (dCons (dVar 1) (dCons (dC (.int 1)) (dCons (dOp gIx (dVar 2) (dC (.int 2))) (dNil))))))))
    (sRet (dTup (dCons (dFlat (dVar 4)) (dCons (dFlat (dVar 5)) (dCons (dOp gAdd (dC (.int 1)) (dCall F__law_part (dCons (dVar 0) (dCons (dVar 1) (dCons (dC (.int 7)) (dCons (dVar 3) (dNil))))))) (dCons (dCall F__law_chance (dCons (dVar 0) (dCons (dVar 1) (dNil)))) (dNil)))))))))
noncomputable abbrev F__law_chance_at : List D → Option D := Com.F__law_chance_at
noncomputable def F__law_odd : List D → Option D := fnL 2 4 (sSeq (sSetl 2 (dCall F__law_part (dCons (dVar 0) (dCons (dC (.int 1)) (dCons (dC (.int 1)) (dCons (dCall gLen (dCons (dVar 1) (dNil))) (dNil)))))))
    (sSeq (sSetl 3 (dOp gIx (dLst (dCons (dUn gNeg (dC (.int 1))) (dCons (dC (.none)) (dCons (dC (.bool true)) (dCons (dC (.bool false)) (dCons (dTup (dCons (dC (.int 1)) (dCons (dC (.int 1)) (dNil)))) (dCons (dC (.str "2")) (dCons (dC (.int 13)) (dCons (dLst (dCons (dC (.int 1)) (dNil))) (dNil)))))))))) (dCall F__law_part (dCons (dVar 0) (dCons (dC (.int 1)) (dCons (dC (.int 2)) (dCons (dC (.int 8)) (dNil))))))))
    (sSeq (sSetl 4 (dOp gCat (dOp gCat (dSl (dVar 1) oNone (oPart (dVar 2))) (dLst (dCons (dVar 3) (dNil)))) (dSl (dVar 1) (oPart (dOp gAdd (dVar 2) (dC (.int 1)))) oNone)))
    (sSeq (sSetl 5 (dLst (dCons (dVar 4) (dCons (dLst (dNil)) (dCons (dLst (dCons (dC (.int 1)) (dCons (dC (.int 1)) (dCons (dC (.int 1)) (dCons (dC (.int 1)) (dCons (dC (.int 1)) (dNil))))))) (dCons (dLst (dCons (dC (.int 5)) (dCons (dC (.int 5)) (dCons (dC (.int 3)) (dNil))))) (dCons (dUn gTupL (dVar 1)) (dCons (dC (.none)) (dCons (dC (.int 3)) (dCons (dC (.str "12")) (dNil)))))))))))
    (sRetL (dOp gCat (dVar 5) (dLst (dCons (dC (.dict [(.int 0, .int 1)])) (dCons (dOp gCat (dVar 1) (dLst (dCons (dOp gSub (dC (.int 13)) (dCall gSum (dCons (dVar 1) (dNil)))) (dNil)))) (dCons (dLst (dCons (dC (.int 0)) (dCons (dC (.int 0)) (dCons (dC (.int 0)) (dCons (dC (.int 0)) (dCons (dC (.int 0)) (dNil))))))) (dCons (dLst (dCons (dC (.int 4)) (dCons (dC (.int 3)) (dCons (dC (.int 3)) (dCons (dC (.int 3)) (dNil)))))) (dCons (dLst (dCons (dC (.int 13)) (dNil))) (dNil)))))))))))))
noncomputable abbrev F__law_is : List D → Option D := Com.F__law_is
noncomputable def F_law : List D → Option D := fnD 1 10 (sSeq (sSetl 1 (dCall F__law_ladder (dCons (dVar 0) (dCons (dC (.int 0)) (dNil)))))
    (sSeq (sSetl 2 (dCall F__law_base (dCons (dVar 0) (dCons (dC (.int 1)) (dNil)))))
    (sSeq (sSetl 3 (dCall F__law_part (dCons (dVar 0) (dCons (dC (.int 1)) (dCons (dC (.int 0)) (dCons (dC (.int 11)) (dNil)))))))
    (sSeq (sIf (tBool (dOp gEq (dCall F__law_part (dCons (dVar 0) (dCons (dC (.int 1)) (dCons (dC (.int 3)) (dCons (dC (.int 4)) (dNil)))))) (dC (.int 1)))) (sSetl 3 (dC (.int 24))) (sNil))
    (sSeq (sSetl 4 (dComp (fRng1 (dCons (dVar 3) (dNil))) (gNl 0) (tYes) (dCall F__law_stay (dCons (dVar 1) (dCons (dOp gAdd (dC (.int 2)) (dVar 0)) (dCons (dVar 2) (dCons (dCall gLen (dCons (dVar 3) (dNil))) (dNil)))))) 1 [0, 2, 1]))
    (sSeq (sSetl 5 (dLst (dCons (dN1 (dFl1 (dUn gList (dVar 4)))) (dCons (dN1 (dFl1 (dUn gList (dVar 1)))) (dNil)))))
    (sSeq (sFor (fLst (dLst (dCons (dOp gAdd (dOp gIx (dVar 2) (dC (.int 0))) (dCall F__law_part (dCons (dVar 0) (dCons (dC (.int 1)) (dCons (dC (.int 4)) (dCons (dOp gAdd (dOp gIx (dVar 2) (dC (.int 1))) (dC (.int 6))) (dNil))))))) (dCons (dOp gAdd (dOp gIx (dVar 2) (dC (.int 0))) (dC (.int 4))) (dNil))))) (gNl 6) (sFor (fRng2 (dCons (dC (.int 1)) (dCons (dOp gAdd (dCall gLen (dCons (dVar 1) (dNil))) (dC (.int 1))) (dNil)))) (gNl 7) (sSeq (sSetl 8 (dCall F_rooms_from (dCons (dOp gIx (dVar 5) (dC (.int 1))) (dCons (dVar 7) (dNil)))))
    (sSeq (sIf (D3.tOr (D3.tNot (tBool (dCall F__law_whole (dCons (dVar 8) (dNil))))) (tBool (dOp gNe (dVar 8) (dCall gSum (dCons (dSl (dVar 1) (oPart (dOp gSub (dVar 7) (dC (.int 1)))) oNone) (dNil)))))) (sRet (dC (.bool false))) (sNil))
    (sSeq (sSetl 9 (dCall F_chance_at (dCons (dOp gIx (dVar 5) (dC (.int 0))) (dCons (dVar 6) (dCons (dVar 7) (dCons (dOp gIx (dVar 5) (dC (.int 1))) (dNil)))))))
    (sSeq (sIf (D3.tOr (D3.tNot (tBool (dCall F__law_is_ratio (dCons (dVar 9) (dNil))))) (tBool (dOp gNe (dVar 9) (dCall F__law_chance_at (dCons (dVar 4) (dCons (dVar 6) (dCons (dVar 7) (dCons (dVar 1) (dNil))))))))) (sRet (dC (.bool false))) (sNil))
    (sIf (tBool (dOp gNe (dVar 5) (dLst (dCons (dVar 4) (dCons (dVar 1) (dNil)))))) (sRet (dC (.bool false))) (sNil))))))))
    (sSeq (sFind 11 (fLst (dLst (dCons (dOp gIx (dVar 5) (dC (.int 1))) (dCons (dLst (dCons (dC (.int 12)) (dNil))) (dCons (dLst (dCons (dC (.int 3)) (dCons (dC (.int 3)) (dCons (dC (.int 3)) (dCons (dC (.int 3)) (dNil)))))) (dCons (dLst (dCons (dC (.int 0)) (dCons (dC (.int 0)) (dCons (dC (.int 0)) (dCons (dC (.int 12)) (dNil)))))) (dCons (dLst (dCons (dC (.int 0)) (dNil))) (dNil)))))))) (gNl 10) (D3.tOr (D3.tNot (tBool (dCall F__law_is (dCons (dCall F_is_ladder (dCons (dVar 10) (dNil))) (dCons (dC (.bool true)) (dNil)))))) (tBool (dOp gNe (dOp gIx (dVar 5) (dC (.int 1))) (dVar 1)))) (.bool false) [10])
    (sSeq (sFind 11 (fLst (dCall F__law_odd (dCons (dVar 0) (dCons (dVar 1) (dNil))))) (gNl 10) (D3.tNot (tBool (dCall F__law_is (dCons (dCall F_is_ladder (dCons (dVar 10) (dNil))) (dCons (dC (.bool false)) (dNil)))))) (.bool false) [10])
    (sSeq (sNApp 5 (dC (.int 0)) (dTup (dCons (dOp gIx (dVar 2) (dC (.int 0))) (dCons (dOp gAdd (dOp gIx (dVar 2) (dC (.int 0))) (dC (.int 1))) (dCons (dC (.int 1)) (dCons (dTup (dCons (dC (.int 1)) (dCons (dC (.int 1)) (dNil)))) (dNil)))))))
    (sRet (dOp gEq (dCall F_chance_at (dCons (dVar 4) (dCons (dOp gIx (dVar 2) (dC (.int 0))) (dCons (dC (.int 1)) (dCons (dVar 1) (dNil)))))) (dCall F__law_chance_at (dCons (dVar 4) (dCons (dOp gIx (dVar 2) (dC (.int 0))) (dCons (dC (.int 1)) (dCons (dVar 1) (dNil))))))))))))))))))
end K25
namespace K25
open PySem D3 My Com
theorem sy_ly (s : Sy) : ly 6 (syD s) := ly_le (n := 4) (ly_tup (lys_cons (ly_le (n := 1) ly_int (by decide)) (lys_cons (ly_le (n := 1) ly_int (by decide)) (lys_cons (ly_le (n := 1) ly_int (by decide)) (lys_cons (ly_tup (lys_cons (ly_le (n := 1) ly_int (by decide)) (lys_cons (ly_le (n := 1) ly_int (by decide)) lys_nil))) lys_nil))))) (by decide)
theorem tops_step {N : Nat} {w : Nat → Int} {p : Rat} (hz : ∀ j, N ≤ j → w j = 0) : tabI (N + 1) (fun j => (if j = 0 then 0 else w (j - 1) * p.num) + (if j < N then w j * (p.den - p.num) else 0)) = tabI (N + 1) (stepW w 1 p) := tabI_congr fun j hj => by
  unfold stepW
  rw [show (1 : Int).toNat = 1 from rfl]
  have e : (if j < N then w j * ((p.den : Int) - p.num) else 0) = w j * (p.den - p.num) := by
    split
    · rfl
    · rw [hz j (by omega), Int.zero_mul]
  rw [e]
  by_cases c : j = 0
  · subst c
    simp
  · rw [if_neg c, if_pos (by omega)]
    omega
theorem comes_tab {N : Nat} (w : Nat → Int) (a : Int) : [PyData.int 0] ++ (tabI N fun j => w j * a) = tabI (N + 1) fun j => if j = 0 then 0 else w (j - 1) * a := by
  unfold tabI
  rw [List.range_succ_eq_map, List.map_cons, List.map_map]
  simp only [List.cons_append, List.nil_append]
  congr 1
theorem stay_tab {N : Nat} (w : Nat → Int) (a : Int) : (tabI N fun j => w j * a) ++ [PyData.int 0] = tabI (N + 1) fun j => if j < N then w j * a else 0 := by
  unfold tabI
  rw [List.range_succ, List.map_append]
  congr 1
  · apply List.map_congr_left
    intro j hj
    show PyData.int (w j * a) = PyData.int (if j < N then w j * a else 0)
    rw [if_pos (List.mem_range.mp hj)]
  · simp
theorem mul_comp {N : Nat} {w : Nat → Int} {g : FG} {c : FT} {e : FE} {δ : DS} {a : Int} (h : ∀ j, ∃ δ1, g (.int (w j)) δ = some δ1 ∧ c δ1 = some true ∧ e δ1 = some (.int (w j * a))) : compD g c e δ (tabI N w) = some (tabI N fun j => w j * a) := by
  have := cMap (g := g) (c := c) (e := e) (δ := δ) (fun j => PyData.int (w j)) (fun j => .int (w j * a)) (List.range N) (fun j _ => h j)
  exact this
theorem law_rooms {lad : List Int} {k : Int} (hk : 1 ≤ k) : ((List.range lad.length).filter fun j : Nat => decide (k ≤ (j : Int) + 1)).map (fun j : Nat => lad.getD j 0) = lad.drop (k - 1).toNat := by
  generalize hd : (k - 1).toNat = d
  have e : (fun j : Nat => decide (k ≤ (j : Int) + 1)) = fun j => decide (d ≤ j) := by
    funext j
    apply decide_eq_decide.mpr
    omega
  rw [e]
  clear e hd hk
  induction lad generalizing d with
  | nil => simp
  | cons a r ih =>
    rw [List.length_cons, List.range_succ_eq_map, List.filter_cons]
    cases d with
    | zero =>
      rw [if_pos (by simp), List.map_cons, List.filter_map, List.map_map]
      simp only [List.drop_zero]
      congr 1
      have := ih 0
      simp only [List.drop_zero] at this
      refine Eq.trans ?_ this
      rfl
    | succ d =>
      rw [if_neg (by simp), List.filter_map, List.map_map, List.drop_succ_cons, ← ih d]
      congr 1
      apply List.filter_congr
      intro j _
      simp
theorem tops_above (w : Nat → Int) (N : Nat) (x : Int) (hx : 0 ≤ x) : (((List.range N).filter fun j : Nat => decide (x < (j : Int))).map w).sum = tl w N (x + 1).toNat := by
  unfold tl
  induction N with
  | zero => rfl
  | succ N ih =>
    rw [List.range_succ, List.filter_append, List.map_append, List.sum_append, ih, Com.sumTo]
    congr 1
    rw [List.filter_cons]
    by_cases c : x < (N : Int)
    · rw [if_pos (decide_eq_true c), if_pos (by omega)]
      simp
    · rw [if_neg (by simpa using c), if_neg (by omega)]
      simp
theorem law_chance_at_spec {ss : List Sy} {lad : List Int} (h : ∀ s ∈ ss, syOk s) (hl : ss.length ≤ 64) (ll : lad.length ≤ 100) (lp : ∀ r ∈ lad, 0 ≤ r) {n k : Int} (hk : 1 ≤ k) : Com.F__law_chance_at [.list (ss.map syD), .int n, .int k, .list (lad.map .int)] = some (rD (chR ss lad n k)) := by
  unfold Com.F__law_chance_at
  simp only [EV, reduceIte, Nat.reduceAdd, Nat.reduceLT, Nat.reduceLeDiff, Nat.reduceEqDiff, Int.reduceEq, Int.reduceLT, Int.reduceLE, sz (show 1 ≤ 1000000 by decide)]
  have i0 : [PyData.int 1] = tabI tb0.N tb0.w := rfl
  obtain ⟨δ', e, y6, y7, y8, y9, y10, y11, rfl⟩ := for_inv (g := (gTn 4 (gsCons (gNl 6) (gsCons (gNl 7) (gsCons (gNl 8) (gsCons (gNl 9) (gsNil))))))) (b := (sIf (D3.tAnd (tBool (dOp gLe (dVar 6) (dVar 1))) (D3.tAnd (tBool (dOp gLt (dVar 1) (dVar 7))) (tBool (dOp gLe (dVar 2) (dVar 8))))) (sSeq (sSetl 10 (dOp gCat (dLst (dCons (dC (.int 0)) (dNil))) (dComp (fLst (dVar 4)) (gNl 0) (D3.tYes) (dOp gMul (dVar 0) (dOp gIx (dVar 1) (dC (.int 0)))) 1 [9]))) (sSeq (sSetl 11 (dOp gCat (dComp (fLst (dVar 4)) (gNl 0) (D3.tYes) (dOp gMul (dVar 0) (dOp gSub (dOp gIx (dVar 1) (dC (.int 1))) (dOp gIx (dVar 1) (dC (.int 0))))) 1 [9]) (dLst (dCons (dC (.int 0)) (dNil))))) (sSeq (sSetl 4 (dComp (fRng1 (dCons (dCall gLen (dCons (dVar 10) (dNil))) (dNil))) (gNl 0) (D3.tYes) (dOp gAdd (dOp gIx (dVar 1) (dVar 0)) (dOp gIx (dVar 2) (dVar 0))) 1 [10, 11])) (sSetl 5 (dOp gMul (dVar 5) (dOp gIx (dVar 9) (dC (.int 1)))))))) (sNil)))
    (fun i δ => ∃ y6 y7 y8 y9 y10 y11, δ = [some (.d (.list (ss.map syD))), some (.d (.int n)), some (.d (.int k)), some (.d (.list (lad.map .int))), some (.d (.list (tabI (tbAt (ss.take i) n k).N (tbAt (ss.take i) n k).w))), some (.d (.int (tbAt (ss.take i) n k).B)), y6, y7, y8, y9, y10, y11, none]) (ss.map syD)
    [some (.d (.list (ss.map syD))), some (.d (.int n)), some (.d (.int k)), some (.d (.list (lad.map .int))), some (.d (.list [.int 1])), some (.d (.int 1)), none, none, none, none, none, none, none] ⟨none, none, none, none, none, none, by rw [i0]; rfl⟩ (by
      rintro i d δ hd ⟨y6, y7, y8, y9, y10, y11, rfl⟩
      rw [List.getElem?_map] at hd
      cases hs : ss[i]? with
      | none => rw [hs] at hd; cases hd
      | some s =>
        rw [hs] at hd
        cases hd
        have hok := h s (List.mem_of_getElem? hs)
        have okt : ∀ s ∈ ss.take i, syOk s := fun s hs => h s (List.mem_of_mem_take hs)
        have T := tbAt_ok okt n k
        have tl64 : (rowsAt (ss.take i) n k).length ≤ 64 := Nat.le_trans (rowsAt_len _ n k) (Nat.le_trans (by rw [List.length_take]; omega) hl)
        have es : ss.take (i + 1) = ss.take i ++ [s] := by rw [List.take_add_one, hs]; rfl
        have sB : sm 4000 (tbAt (ss.take i) n k).B := sm_le T.Bs (by omega)
        obtain ⟨p0, p1, p2⟩ := hok
        by_cases c : hy n k s = true
        · have c' := c
          unfold hy at c'
          rw [Bool.and_eq_true, Bool.and_eq_true] at c'
          have et : tbAt (ss.take (i + 1)) n k = tbS (tbAt (ss.take i) n k) (1, s.2.2.2) := by
            unfold tbAt rowsAt
            rw [es, List.filter_append, List.map_append, List.filter_cons, if_pos c]
            exact tbOf_snoc _ _
          have sp : sm 4000 s.2.2.2.num := by unfold sm; exact Nat.lt_of_lt_of_le (show s.2.2.2.num.natAbs < 2 ^ 8 by omega) (Nat.pow_le_pow_right (by decide) (by decide))
          have sp' : sm 4000 ((s.2.2.2.den : Int) - s.2.2.2.num) := by unfold sm; exact Nat.lt_of_lt_of_le (show ((s.2.2.2.den : Int) - s.2.2.2.num).natAbs < 2 ^ 8 by omega) (Nat.pow_le_pow_right (by decide) (by decide))
          have sd : sm 4000 (s.2.2.2.den : Int) := by unfold sm; exact Nat.lt_of_lt_of_le (show ((s.2.2.2.den : Nat) : Int).natAbs < 2 ^ 8 by omega) (Nat.pow_le_pow_right (by decide) (by decide))
          have j0 : gIx (rD s.2.2.2) (.int 0) = some (.int s.2.2.2.num) := rfl
          have j1 : gIx (rD s.2.2.2) (.int 1) = some (.int s.2.2.2.den) := rfl
          generalize hT : tbAt (ss.take i) n k = t at *
          have sw : ∀ j, sm 4000 (t.w j) := fun j => sm_of sB (T.w0 j) (T.wB j)
          have C1 : compD (gNl 0) (D3.tYes) (dOp gMul (dVar 0) (dOp gIx (dVar 1) (dC (.int 0)))) [none, some (.d (rD s.2.2.2))] (tabI t.N t.w) = some (tabI t.N fun j => t.w j * s.2.2.2.num) := mul_comp fun j => ⟨[some (.d (.int (t.w j))), some (.d (rD s.2.2.2))], rfl, rfl, by simp only [EV, reduceIte, Nat.reduceAdd, Nat.reduceLT, Nat.reduceLeDiff, Nat.reduceEqDiff, Int.reduceEq, Int.reduceLT, Int.reduceLE, j0, mulS (sw j) sp]⟩
          have C2 : compD (gNl 0) (D3.tYes) (dOp gMul (dVar 0) (dOp gSub (dOp gIx (dVar 1) (dC (.int 1))) (dOp gIx (dVar 1) (dC (.int 0))))) [none, some (.d (rD s.2.2.2))] (tabI t.N t.w) = some (tabI t.N fun j => t.w j * ((s.2.2.2.den : Int) - s.2.2.2.num)) := mul_comp fun j => ⟨[some (.d (.int (t.w j))), some (.d (rD s.2.2.2))], rfl, rfl, by simp only [EV, reduceIte, Nat.reduceAdd, Nat.reduceLT, Nat.reduceLeDiff, Nat.reduceEqDiff, Int.reduceEq, Int.reduceLT, Int.reduceLE, j0, j1, mulS (sw j) sp']⟩
          have C3 : compD (gNl 0) (D3.tYes) (dOp gAdd (dOp gIx (dVar 1) (dVar 0)) (dOp gIx (dVar 2) (dVar 0))) [none, some (.d (.list (tabI (t.N + 1) fun j => if j = 0 then 0 else t.w (j - 1) * s.2.2.2.num))), some (.d (.list (tabI (t.N + 1) fun j => if j < t.N then t.w j * ((s.2.2.2.den : Int) - s.2.2.2.num) else 0)))] (rngD 0 ((t.N + 1 : Nat) : Int)) = some (tabI (t.N + 1) (stepW t.w 1 s.2.2.2)) := by
            rw [← tops_step (p := s.2.2.2) T.wz, rng_map, Int.toNat_natCast]
            exact cMap (fun j : Nat => PyData.int (j : Int)) (fun j : Nat => .int ((if j = 0 then 0 else t.w (j - 1) * s.2.2.2.num) + (if j < t.N then t.w j * ((s.2.2.2.den : Int) - s.2.2.2.num) else 0))) (List.range (t.N + 1)) (fun j hj => by
              have hj := List.mem_range.mp hj
              refine ⟨[some (.d (.int (j : Int))), _, _], rfl, rfl, ?_⟩
              have g1 : ∀ f : Nat → Int, pAt (tabI (t.N + 1) f) (j : Int) = some (.int (f j)) := fun f => by rw [pAt_nat, tabI_get _ hj]
              simp only [EV, reduceIte, Nat.reduceAdd, Nat.reduceLT, Nat.reduceLeDiff, Nat.reduceEqDiff, Int.reduceEq, Int.reduceLT, Int.reduceLE, g1])
          have cx : ∀ a b c d e f g h i j k l m : Option U, capD 1 [9] [a, b, c, d, e, f, g, h, i, j, k, l, m] = [none, j] := fun _ _ _ _ _ _ _ _ _ _ _ _ _ => rfl
          have cy : ∀ a b c d e f g h i j k l m : Option U, capD 1 [10, 11] [a, b, c, d, e, f, g, h, i, j, k, l, m] = [none, k, l] := fun _ _ _ _ _ _ _ _ _ _ _ _ _ => rfl
          have rr : qRng1 (some [.int ((t.N + 1 : Nat) : Int)]) = some (rngD 0 ((t.N + 1 : Nat) : Int)) := rng1 (by omega) (by have := T.N4; omega)
          have n100 : t.N ≤ 1000 := by have := T.N4; omega
          refine ⟨_, _, rfl, .inl ?_, some (.d (.int s.1)), some (.d (.int s.2.1)), some (.d (.int s.2.2.1)), some (.d (rD s.2.2.2)), some (.d (.list (tabI (t.N + 1) fun j => if j = 0 then 0 else t.w (j - 1) * s.2.2.2.num))), some (.d (.list (tabI (t.N + 1) fun j => if j < t.N then t.w j * ((s.2.2.2.den : Int) - s.2.2.2.num) else 0))), rfl⟩
          simp only [EV, reduceIte, Nat.reduceAdd, Nat.reduceLT, Nat.reduceLeDiff, Nat.reduceEqDiff, Int.reduceEq, Int.reduceLT, Int.reduceLE, c'.2.1, c'.2.2, c'.1, sz (show 1 ≤ 1000000 by decide), tabI_len, show t.N ≤ 100000 by omega, cx, C1]
          rw [if_pos (by omega)]
          simp only [EV, reduceIte, Nat.reduceAdd, Nat.reduceLT, Nat.reduceLeDiff, Nat.reduceEqDiff, Int.reduceEq, Int.reduceLT, Int.reduceLE, tabI_len, show t.N ≤ 100000 by omega, cx, C2, sz (show 1 ≤ 1000000 by decide)]
          rw [if_pos (by omega), show (PyData.int 0 :: tabI t.N fun j => t.w j * s.2.2.2.num) = [PyData.int 0] ++ tabI t.N (fun j => t.w j * s.2.2.2.num) from rfl, comes_tab, stay_tab]
          simp only [EV, reduceIte, Nat.reduceAdd, Nat.reduceLT, Nat.reduceLeDiff, Nat.reduceEqDiff, Int.reduceEq, Int.reduceLT, Int.reduceLE, tabI_len]
          rw [rr]
          simp only [EV, reduceIte, Nat.reduceAdd, Nat.reduceLT, Nat.reduceLeDiff, Nat.reduceEqDiff, Int.reduceEq, Int.reduceLT, Int.reduceLE, rng_len, Int.toNat_natCast, show t.N + 1 ≤ 100000 by omega, cy, C3, j1, mulS sB sd]
          rw [et]
          rfl
        · have et : tbAt (ss.take (i + 1)) n k = tbAt (ss.take i) n k := by
            unfold tbAt rowsAt
            rw [es, List.filter_append, List.map_append, List.filter_cons, if_neg c]
            simp
          refine ⟨_, _, rfl, .inl ?_, some (.d (.int s.1)), some (.d (.int s.2.1)), some (.d (.int s.2.2.1)), some (.d (rD s.2.2.2)), y10, y11, rfl⟩
          rw [et]
          unfold hy at c
          by_cases c1 : s.1 ≤ n
          · by_cases c2 : n < s.2.1
            · by_cases c3 : k ≤ s.2.2.1
              · rw [decide_eq_true c1, decide_eq_true c2, decide_eq_true c3] at c
                exact absurd rfl c
              · simp only [EV, reduceIte, Nat.reduceAdd, Nat.reduceLT, Nat.reduceLeDiff, Nat.reduceEqDiff, Int.reduceEq, Int.reduceLT, Int.reduceLE, decide_eq_true c1, decide_eq_true c2, decide_eq_false c3]
            · simp only [EV, reduceIte, Nat.reduceAdd, Nat.reduceLT, Nat.reduceLeDiff, Nat.reduceEqDiff, Int.reduceEq, Int.reduceLT, Int.reduceLE, decide_eq_true c1, decide_eq_false c2]
          · simp only [EV, reduceIte, Nat.reduceAdd, Nat.reduceLT, Nat.reduceLeDiff, Nat.reduceEqDiff, Int.reduceEq, Int.reduceLT, Int.reduceLE, decide_eq_false c1])
  rw [e, List.length_map, List.take_length]
  have T := tbAt_ok h n k
  have tl64 : (rowsAt ss n k).length ≤ 64 := Nat.le_trans (rowsAt_len _ n k) hl
  have C4 := cFil (g := (gNl 0)) (c := (tBool (dOp gGe (dOp gAdd (dVar 0) (dC (.int 1))) (dVar 2)))) (e := (dFlat (dOp gIx (dVar 1) (dVar 0)))) (δ := [none, some (.d (.list (lad.map .int))), some (.d (.int k))]) (fun j : Nat => PyData.int (j : Int)) (fun j : Nat => decide (k ≤ (j : Int) + 1)) (fun j : Nat => .int (lad.getD j 0)) (List.range lad.length) (fun j hj => by
    have hj := List.mem_range.mp hj
    refine ⟨[some (.d (.int (j : Int))), some (.d (.list (lad.map .int))), some (.d (.int k))], rfl, by simp only [EV, reduceIte, Nat.reduceAdd, Nat.reduceLT, Nat.reduceLeDiff, Nat.reduceEqDiff, Int.reduceEq, Int.reduceLT, Int.reduceLE], fun _ => ?_⟩
    have := pAt_ints (ns := lad) (i := (j : Int)) (by omega) (by omega)
    rw [Int.toNat_natCast] at this
    simp only [EV, reduceIte, Nat.reduceAdd, Nat.reduceLT, Nat.reduceLeDiff, Nat.reduceEqDiff, Int.reduceEq, Int.reduceLT, Int.reduceLE, this])
  have e4 : (((List.range lad.length).filter fun j : Nat => decide (k ≤ (j : Int) + 1)).map fun j : Nat => PyData.int (lad.getD j 0)) = (lad.drop (k - 1).toNat).map .int := by rw [← law_rooms hk, List.map_map]; rfl
  rw [e4] at C4
  have rn := rmF_nn lp k
  have C5 := cFil (g := (gNl 0)) (c := (tBool (dOp gGt (dVar 0) (dVar 2)))) (e := (dFlat (dOp gIx (dVar 1) (dVar 0)))) (δ := [none, some (.d (.list (tabI (tbAt ss n k).N (tbAt ss n k).w))), some (.d (.int (rmF lad k)))]) (fun j : Nat => PyData.int (j : Int)) (fun j : Nat => decide (rmF lad k < (j : Int))) (fun j : Nat => .int ((tbAt ss n k).w j)) (List.range (tbAt ss n k).N) (fun j hj => by
    have hj := List.mem_range.mp hj
    refine ⟨[some (.d (.int (j : Int))), some (.d (.list (tabI (tbAt ss n k).N (tbAt ss n k).w))), some (.d (.int (rmF lad k)))], rfl, by simp only [EV, reduceIte, Nat.reduceAdd, Nat.reduceLT, Nat.reduceLeDiff, Nat.reduceEqDiff, Int.reduceEq, Int.reduceLT, Int.reduceLE], fun _ => ?_⟩
    have : pAt (tabI (tbAt ss n k).N (tbAt ss n k).w) (j : Int) = some (.int ((tbAt ss n k).w j)) := by rw [pAt_nat, tabI_get _ hj]
    simp only [EV, reduceIte, Nat.reduceAdd, Nat.reduceLT, Nat.reduceLeDiff, Nat.reduceEqDiff, Int.reduceEq, Int.reduceLT, Int.reduceLE, this])
  have e5 : (((List.range (tbAt ss n k).N).filter fun j : Nat => decide (rmF lad k < (j : Int))).map fun j : Nat => PyData.int ((tbAt ss n k).w j)) = (((List.range (tbAt ss n k).N).filter fun j : Nat => decide (rmF lad k < (j : Int))).map (tbAt ss n k).w).map .int := by rw [List.map_map]; rfl
  rw [e5] at C5
  have rL : qRng1 (some [.int (lad.length : Int)]) = some ((List.range lad.length).map fun j : Nat => PyData.int (j : Int)) := by rw [rng1 (by omega) (by omega), rng_map, Int.toNat_natCast]
  have rT : qRng1 (some [.int ((tbAt ss n k).N : Int)]) = some ((List.range (tbAt ss n k).N).map fun j : Nat => PyData.int (j : Int)) := by rw [rng1 (by omega) (by have := T.N4; omega), rng_map, Int.toNat_natCast]
  have cx : ∀ a b c d e f g h i j k l m : Option U, capD 1 [3, 2] [a, b, c, d, e, f, g, h, i, j, k, l, m] = [none, d, c] := fun _ _ _ _ _ _ _ _ _ _ _ _ _ => rfl
  have cy : ∀ a b c d e f g h i j k l m : Option U, capD 1 [4, 12] [a, b, c, d, e, f, g, h, i, j, k, l, m] = [none, e, m] := fun _ _ _ _ _ _ _ _ _ _ _ _ _ => rfl
  have sr : gSum [.list ((lad.drop (k - 1).toNat).map .int)] = some (.int (rmF lad k)) := n_sum
  have b := tlI_b T (rmF lad k)
  simp only [EV, reduceIte, Nat.reduceAdd, Nat.reduceLT, Nat.reduceLeDiff, Nat.reduceEqDiff, Int.reduceEq, Int.reduceLT, Int.reduceLE, List.length_map, rL, List.length_range, show lad.length ≤ 100000 by omega, cx, C4, sr, tabI_len, rT, show (tbAt ss n k).N ≤ 100000 by have := T.N4; omega, cy, C5, n_sum]
  rw [tops_above _ _ _ rn, show tl (tbAt ss n k).w (tbAt ss n k).N (rmF lad k + 1).toNat = tlI (tbAt ss n k) (rmF lad k) from rfl, low_spec b.1 T.B0 (sm_le T.Bs (by omega))]
  simp only [EV, reduceIte, Nat.reduceAdd, Nat.reduceLT, Nat.reduceLeDiff, Nat.reduceEqDiff, Int.reduceEq, Int.reduceLT, Int.reduceLE]
  rfl
theorem rngK_at {K i : Nat} {d : D} (h : (rngD 1 ((K : Int) + 1))[i]? = some d) : i < K ∧ d = .int (1 + (i : Int)) := by
  unfold rngD at h
  rw [List.getElem?_map] at h
  by_cases hi : i < ((K : Int) + 1 - 1).toNat
  · rw [List.getElem?_range hi] at h
    cases h
    exact ⟨by omega, rfl⟩
  · rw [List.getElem?_eq_none (by simpa using hi)] at h
    cases h
theorem neg1 {l : List D} {d : D} : pAt (l ++ [d]) (-1) = some d := by
  unfold pAt pIx
  rw [List.length_append, List.length_singleton, if_neg (by decide), if_pos (by omega)]
  show (l ++ [d])[(-1 + ((l.length + 1 : Nat) : Int)).toNat]? = some d
  rw [show (-1 + ((l.length + 1 : Nat) : Int)).toNat = l.length by omega, List.getElem?_append_right (Nat.le_refl _), Nat.sub_self]
  rfl
theorem menu_ix {x : Int} (h0 : 0 ≤ x) (h1 : x < 6) {a b c d e f : Int} (ha : 0 ≤ a) (hb : 0 ≤ b) (hc : 0 ≤ c) (hd : 0 ≤ d) (he : 0 ≤ e) (hf : 0 ≤ f) : ∃ r, 0 ≤ r ∧ pAt [PyData.int a, .int b, .int c, .int d, .int e, .int f] x = some (.int r) := by
  have : x = 0 ∨ x = 1 ∨ x = 2 ∨ x = 3 ∨ x = 4 ∨ x = 5 := by omega
  rcases this with rfl | rfl | rfl | rfl | rfl | rfl
  · exact ⟨a, ha, rfl⟩
  · exact ⟨b, hb, rfl⟩
  · exact ⟨c, hc, rfl⟩
  · exact ⟨d, hd, rfl⟩
  · exact ⟨e, he, rfl⟩
  · exact ⟨f, hf, rfl⟩
theorem ladder_spec (ns : List Int) {i : Int} (h0 : 0 ≤ i) : ∃ lad : List Int, 1 ≤ lad.length ∧ lad.length ≤ 4 ∧ (∀ r ∈ lad, 0 ≤ r) ∧ lad.sum ≤ 12 ∧ Com.F__law_ladder [.list (ns.map .int), .int i] = some (.list (lad.map .int)) := by
  have P : ∀ k m : Int, 0 ≤ k → k ≤ 1000 → 0 < m → F__law_part [.list (ns.map .int), .int i, .int k, .int m] = some (.int (partF ns i k m)) := fun k m h1 h2 h3 => part_spec h0 h1 h2 h3
  have r0 := partF_range ns i 0 (m := 4) (by decide)
  have r5 := partF_range ns i 5 (m := 4) (by decide)
  have rr : qRng1 (some [.int (1 + partF ns i 0 4)]) = some (rngD 0 (1 + partF ns i 0 4)) := rng1 (by omega) (by omega)
  have menu : ∃ M : List D, (∀ x : Int, 0 ≤ x → x < 6 → ∃ r, 0 ≤ r ∧ pAt M x = some (.int r)) ∧ pAt [PyData.list [.int 0, .int 1, .int 1, .int 2, .int 3, .int 5], .list [.int 0, .int 12, .int 6, .int 4, .int 3, .int 12]] (if partF ns i 5 4 = 1 then 1 else 0) = some (.list M) := by
    by_cases c : partF ns i 5 4 = 1
    · rw [if_pos c]
      exact ⟨_, fun x a b => menu_ix a b (by decide) (by decide) (by decide) (by decide) (by decide) (by decide), rfl⟩
    · rw [if_neg c]
      exact ⟨_, fun x a b => menu_ix a b (by decide) (by decide) (by decide) (by decide) (by decide) (by decide), rfl⟩
  obtain ⟨M, hM, eM⟩ := menu
  have gi : ∀ x : Int, gInt [.bool (decide (x = 1))] = some (.int (if x = 1 then 1 else 0)) := fun x => by
    by_cases c : x = 1
    · rw [decide_eq_true c, if_pos c]; rfl
    · rw [decide_eq_false c, if_neg c]; rfl
  unfold Com.F__law_ladder
  simp only [EV, reduceIte, Nat.reduceAdd, Nat.reduceLT, Nat.reduceLeDiff, Nat.reduceEqDiff, Int.reduceEq, Int.reduceLT, Int.reduceLE, P 0 4 (by decide) (by decide) (by decide), P 5 4 (by decide) (by decide) (by decide), gi, eM, rr, sz (show 0 ≤ 1000000 by decide), sz (show 2 ≤ 1000000 by decide), sz (show 6 ≤ 1000000 by decide)]
  obtain ⟨δ', e, lad, room, y5, hl, hp, q0, q1, rfl⟩ := for_inv (g := (gNl 5)) (b := (sSeq (sApp 2 (dCall gMin2 (dCons (dVar 3) (dCons (dOp gIx (dVar 4) (dCall F__law_part (dCons (dVar 0) (dCons (dVar 1) (dCons (dOp gAdd (dC (.int 1)) (dVar 5)) (dCons (dC (.int 6)) (dNil))))))) (dNil))))) (sSetl 3 (dOp gSub (dVar 3) (dOp gIx (dVar 2) (dUn gNeg (dC (.int 1)))))))) (fun k δ => ∃ (lad : List Int) (room : Int) (y5 : Option U), lad.length = k ∧ (∀ r ∈ lad, 0 ≤ r) ∧ 0 ≤ room ∧ lad.sum + room = 12 ∧ δ = [some (.d (.list (ns.map .int))), some (.d (.int i)), some (.d (.list (lad.map .int))), some (.d (.int room)), some (.d (.list M)), y5]) (rngD 0 (1 + partF ns i 0 4))
    [some (.d (.list (ns.map .int))), some (.d (.int i)), some (.d (.list [])), some (.d (.int 12)), some (.d (.list M)), none] ⟨[], 12, none, rfl, (fun _ h => nomatch h), by decide, rfl, rfl⟩
    (by
      rintro k d δ hd ⟨lad, room, y5, hl, hp, q0, q1, rfl⟩
      obtain ⟨hk, rfl⟩ := rng_get hd
      have rk := partF_range ns i (1 + (k : Int)) (m := 6) (by decide)
      obtain ⟨r, hr, er⟩ := hM _ rk.1 rk.2
      refine ⟨_, [some (.d (.list (ns.map .int))), some (.d (.int i)), some (.d (.list ((lad ++ [if r < room then r else room]).map .int))), some (.d (.int (room - (if r < room then r else room)))), some (.d (.list M)), some (.d (.int (k : Int)))], rfl, .inl ?_, lad ++ [if r < room then r else room], _, _, ?_, ?_, ?_, ?_, rfl⟩
      · rw [List.map_append]
        simp only [EV, reduceIte, Nat.reduceAdd, Nat.reduceLT, Nat.reduceLeDiff, Nat.reduceEqDiff, Int.reduceEq, Int.reduceLT, Int.reduceLE, P (1 + (k : Int)) 6 (by omega) (by omega) (by decide), er, neg1, List.length_map, show lad.length < 1000000 by omega]
      · rw [List.length_append, hl]; rfl
      · intro z hz
        rcases List.mem_append.mp hz with q | q
        · exact hp z q
        · rw [List.mem_singleton.mp q]; split <;> omega
      · split <;> omega
      · rw [List.sum_append, List.sum_singleton]; omega)
  rw [e]
  have len : lad.length = (1 + partF ns i 0 4).toNat := by rw [hl]; unfold rngD; rw [List.length_map, List.length_range]; omega
  refine ⟨lad, by omega, by omega, hp, by omega, ?_⟩
  simp only [EV, reduceIte, Nat.reduceAdd, Nat.reduceLT, Nat.reduceLeDiff, Nat.reduceEqDiff, Int.reduceEq, Int.reduceLT, Int.reduceLE, flats_ints]
theorem base_spec (ns : List Int) {i : Int} (h0 : 0 ≤ i) : ∃ a s t : Int, 0 ≤ a ∧ a ≤ 400 ∧ 1 ≤ s ∧ s ≤ 60 ∧ 1 ≤ t ∧ t ≤ 40 ∧ Com.F__law_base [.list (ns.map .int), .int i] = some (.tuple [.int a, .int s, .int t]) := by
  have P : ∀ k m : Int, 0 ≤ k → k ≤ 1000 → 0 < m → F__law_part [.list (ns.map .int), .int i, .int k, .int m] = some (.int (partF ns i k m)) := fun k m h1 h2 h3 => part_spec h0 h1 h2 h3
  have r6 := partF_range ns i 6 (m := 280) (by decide)
  have r6' := partF_range ns i 6 (m := 380) (by decide)
  have r5 := partF_range ns i 5 (m := 3) (by decide)
  unfold Com.F__law_base
  by_cases c : partF ns i 11 5 = 1
  · refine ⟨partF ns i 6 280, 60, 40, by omega, by omega, by decide, by decide, by decide, by decide, ?_⟩
    simp only [EV, reduceIte, Nat.reduceAdd, Nat.reduceLT, Nat.reduceLeDiff, Nat.reduceEqDiff, Int.reduceEq, Int.reduceLT, Int.reduceLE, P 11 5 (by decide) (by decide) (by decide), P 6 280 (by decide) (by decide) (by decide), decide_eq_true c, sz (show 3 ≤ 1000000 by decide)]
  · have ix : ∃ a : Int, 0 ≤ a ∧ a ≤ 400 ∧ pAt [PyData.int 0, .int 385, .int (partF ns i 6 380)] (partF ns i 5 3) = some (.int a) := by
      have : partF ns i 5 3 = 0 ∨ partF ns i 5 3 = 1 ∨ partF ns i 5 3 = 2 := by omega
      rcases this with z | z | z <;> rw [z]
      · exact ⟨0, by decide, by decide, rfl⟩
      · exact ⟨385, by decide, by decide, rfl⟩
      · exact ⟨partF ns i 6 380, by omega, by omega, rfl⟩
    obtain ⟨a, a0, a1, ea⟩ := ix
    refine ⟨a, 9, 7, a0, a1, by decide, by decide, by decide, by decide, ?_⟩
    simp only [EV, reduceIte, Nat.reduceAdd, Nat.reduceLT, Nat.reduceLeDiff, Nat.reduceEqDiff, Int.reduceEq, Int.reduceLT, Int.reduceLE, P 11 5 (by decide) (by decide) (by decide), P 6 380 (by decide) (by decide) (by decide), P 5 3 (by decide) (by decide) (by decide), decide_eq_false c, sz (show 3 ≤ 1000000 by decide), ea]
theorem stay_spec (ns : List Int) {i a s t : Int} {N : Nat} (h0 : 0 ≤ i) (a0 : 0 ≤ a) (a1 : a ≤ 400) (s0 : 1 ≤ s) (s1 : s ≤ 60) (t0 : 1 ≤ t) (t1 : t ≤ 40) (n1 : 1 ≤ N) :
    ∃ y : Sy, syOk y ∧ 0 ≤ y.1 ∧ y.1 < y.2.1 ∧ y.2.1 ≤ 100000 ∧ 1 ≤ y.2.2.1 ∧ y.2.2.1 ≤ (N : Int) ∧ F__law_stay [.list (ns.map .int), .int i, .tuple [.int a, .int s, .int t], .int (N : Int)] = some (syD y) := by
  have P : ∀ k m : Int, 0 ≤ k → k ≤ 1000 → 0 < m → F__law_part [.list (ns.map .int), .int i, .int k, .int m] = some (.int (partF ns i k m)) := fun k m h1 h2 h3 => part_spec h0 h1 h2 h3
  have r0 := partF_range ns i 0 (m := s) (by omega)
  have r1 := partF_range ns i 1 (m := t) (by omega)
  have r7 := partF_range ns i 7 (m := (N : Int)) (by omega)
  obtain ⟨p, hp, ep⟩ := chance_spec ns h0
  refine ⟨(a + partF ns i 0 s, a + partF ns i 0 s + 1 + partF ns i 1 t, 1 + partF ns i 7 (N : Int), p), hp, by show 0 ≤ a + partF ns i 0 s; omega, by show a + partF ns i 0 s < a + partF ns i 0 s + 1 + partF ns i 1 t; omega, by show a + partF ns i 0 s + 1 + partF ns i 1 t ≤ 100000; omega, by show 1 ≤ 1 + partF ns i 7 (N : Int); omega, by show 1 + partF ns i 7 (N : Int) ≤ (N : Int); omega, ?_⟩
  unfold F__law_stay
  simp only [EV, reduceIte, Nat.reduceAdd, Nat.reduceLT, Nat.reduceLeDiff, Nat.reduceEqDiff, Int.reduceEq, Int.reduceLT, Int.reduceLE, P 0 s (by decide) (by decide) (by omega), P 1 t (by decide) (by decide) (by omega), P 7 (N : Int) (by decide) (by decide) (by omega), ep, sz (show 4 ≤ 1000000 by decide), at1, show pAt [PyData.int a, .int s, .int t] 2 = some (.int t) from rfl]
  rfl
theorem nls_map {α : Type} (f : α → D) (h : ∀ a, nl (f a) = 0) : ∀ l : List α, nls (l.map f) = 0
  | [] => rfl
  | a :: r => by
    show nl (f a) + nls (r.map f) = 0
    rw [h a, nls_map f h r]
theorem sy_flats (ss : List Sy) : flats (ss.map syD) = true := flats_all _ (fun _ => rfl) ss
theorem is_whole (i : Int) : Com.F__law_whole [.int i] = some (.bool true) := by
  unfold Com.F__law_whole
  simp only [EV, reduceIte, Nat.reduceAdd, Nat.reduceLT, Nat.reduceLeDiff, Nat.reduceEqDiff, Int.reduceEq, Int.reduceLT, Int.reduceLE]
  rfl
theorem is_ratio (r : Rat) : Com.F__law_is_ratio [rD r] = some (.bool true) := by
  unfold Com.F__law_is_ratio rD
  simp only [EV, reduceIte, Nat.reduceAdd, Nat.reduceLT, Nat.reduceLeDiff, Nat.reduceEqDiff, Int.reduceEq, Int.reduceLT, Int.reduceLE, at0, at1, is_whole]
  rfl
def isI : D → Bool
  | .int _ => true
  | _ => false
theorem wh (d : D) : Com.F_is_whole [d] = some (.bool (isI d)) := by
  unfold Com.F_is_whole
  cases d <;> rfl
theorem whole_list_gen {l : List D} (hl : l.length ≤ 1000) : Com.F_is_whole_list [.list l] = some (.bool (l.all isI)) := by
  have C1 := cMap (g := (gNl 0)) (c := (D3.tYes)) (e := (dCall F_is_whole (dCons (dVar 0) (dNil)))) (δ := [none]) (fun d : D => d) (fun d => .bool (isI d)) l (fun d h => ⟨[some (.d d)], rfl, rfl, by simp only [EV, reduceIte, Nat.reduceAdd, Nat.reduceLT, Nat.reduceLeDiff, Nat.reduceEqDiff, Int.reduceEq, Int.reduceLT, Int.reduceLE, wh]⟩)
  rw [List.map_id'] at C1
  have ca : ∀ a : Option U, capD 1 [] [a] = [none] := fun _ => rfl
  have ga : gAll [.list (l.map fun d => PyData.bool (isI d))] = some (.bool (l.all isI)) := by
    have B : ∀ l : List D, boolsD (l.map fun d => PyData.bool (isI d)) = some (l.map isI) := fun l => by
      induction l with
      | nil => rfl
      | cons a r ih => rw [List.map_cons, boolsD, ih]; rfl
    show (boolsD _).map (fun bs => PyData.bool (bs.all id)) = _
    rw [B, Option.map_some, List.all_map]
    rfl
  have W : Com.F_all_whole [.list l] = some (.bool (l.all isI)) := by
    unfold Com.F_all_whole
    simp only [EV, reduceIte, Nat.reduceAdd, Nat.reduceLT, Nat.reduceLeDiff, Nat.reduceEqDiff, Int.reduceEq, Int.reduceLT, Int.reduceLE, v_sq, v_sq_l, show l.length ≤ 100000 by omega, ca, C1, ga]
  unfold Com.F_is_whole_list
  simp only [EV, reduceIte, Nat.reduceAdd, Nat.reduceLT, Nat.reduceLeDiff, Nat.reduceEqDiff, Int.reduceEq, Int.reduceLT, Int.reduceLE, show D3.isT "list" (tyD (.list l)) = true from rfl, W]
theorem min_nn {l : List Int} (hl : l ≠ []) : ∃ m, gMinL [.list (l.map .int)] = some (.int m) ∧ ((0 ≤ m) ↔ ∀ x ∈ l, 0 ≤ x) := by
  cases l with
  | nil => exact absurd rfl hl
  | cons i r =>
    have sp := mnI_spec r i
    refine ⟨mnI i r, ?_, ?_, ?_⟩
    · show (match intsD ((i :: r).map .int) with | some (i :: r) => some (PyData.int (mnI i r)) | _ => none) = _
      rw [intsD_map]
    · intro h x hx
      have := sp.2 x hx
      omega
    · intro h
      exact h _ sp.1
theorem all_isI (cs : List Int) : (cs.map PyData.int).all isI = true := by
  induction cs with
  | nil => rfl
  | cons a r ih => rw [List.map_cons, List.all_cons, ih]; rfl
theorem ladder_yes {cs : List Int} (h1 : 1 ≤ cs.length) (h4 : cs.length ≤ 4) (hp : ∀ x ∈ cs, 0 ≤ x) (hs : cs.sum ≤ 12) : Com.F_is_ladder [.list (cs.map .int)] = some (.bool true) := by
  have w := whole_list_gen (l := cs.map .int) (by rw [List.length_map]; omega)
  rw [all_isI] at w
  obtain ⟨m, em, hm⟩ := min_nn (l := cs) (fun z => by rw [z] at h1; exact absurd h1 (by decide))
  have m0 := hm.mpr hp
  unfold Com.F_is_ladder
  simp only [EV, reduceIte, Nat.reduceAdd, Nat.reduceLT, Nat.reduceLeDiff, Nat.reduceEqDiff, Int.reduceEq, Int.reduceLT, Int.reduceLE, w, List.length_map, n_sum, em, decide_eq_true m0, decide_eq_true hs, decide_eq_true (show (1 : Int) ≤ (cs.length : Int) by omega), decide_eq_true (show (cs.length : Int) ≤ 4 by omega), Bool.not_true]
theorem ladder_no {cs : List Int} (h : cs.length ≤ 100) (no : ¬ (1 ≤ cs.length ∧ cs.length ≤ 4 ∧ (∀ x ∈ cs, 0 ≤ x) ∧ cs.sum ≤ 12)) : Com.F_is_ladder [.list (cs.map .int)] = some (.bool false) := by
  have w := whole_list_gen (l := cs.map .int) (by rw [List.length_map]; omega)
  rw [all_isI] at w
  unfold Com.F_is_ladder
  by_cases c1 : (1 : Int) ≤ (cs.length : Int)
  case neg => simp only [EV, reduceIte, Nat.reduceAdd, Nat.reduceLT, Nat.reduceLeDiff, Nat.reduceEqDiff, Int.reduceEq, Int.reduceLT, Int.reduceLE, w, List.length_map, decide_eq_false c1, Bool.not_true, Bool.not_false]
  by_cases c4 : (cs.length : Int) ≤ 4
  case neg => simp only [EV, reduceIte, Nat.reduceAdd, Nat.reduceLT, Nat.reduceLeDiff, Nat.reduceEqDiff, Int.reduceEq, Int.reduceLT, Int.reduceLE, w, List.length_map, decide_eq_true c1, decide_eq_false c4, Bool.not_true, Bool.not_false]
  obtain ⟨m, em, hm⟩ := min_nn (l := cs) (fun z => by rw [z] at c1; exact absurd c1 (by decide))
  by_cases m0 : 0 ≤ m
  case neg => simp only [EV, reduceIte, Nat.reduceAdd, Nat.reduceLT, Nat.reduceLeDiff, Nat.reduceEqDiff, Int.reduceEq, Int.reduceLT, Int.reduceLE, w, List.length_map, n_sum, em, decide_eq_true c1, decide_eq_true c4, decide_eq_false m0, Bool.not_true]
  have ns : ¬ cs.sum ≤ 12 := fun z => no ⟨by omega, by omega, hm.mp m0, z⟩
  simp only [EV, reduceIte, Nat.reduceAdd, Nat.reduceLT, Nat.reduceLeDiff, Nat.reduceEqDiff, Int.reduceEq, Int.reduceLT, Int.reduceLE, w, List.length_map, n_sum, em, decide_eq_true c1, decide_eq_true c4, decide_eq_true m0, decide_eq_false ns, Bool.not_true]
theorem ladder_odd {l : List D} (h : l.length ≤ 100) (no : l.all isI = false) : Com.F_is_ladder [.list l] = some (.bool false) := by
  have w := whole_list_gen (l := l) (by omega)
  rw [no] at w
  unfold Com.F_is_ladder
  simp only [EV, reduceIte, Nat.reduceAdd, Nat.reduceLT, Nat.reduceLeDiff, Nat.reduceEqDiff, Int.reduceEq, Int.reduceLT, Int.reduceLE, w, Bool.not_false]
theorem ladder_thing {d : D} (h : D3.isT "list" (tyD d) = false) : Com.F_is_ladder [d] = some (.bool false) := by
  have w : Com.F_is_whole_list [d] = some (.bool false) := by
    unfold Com.F_is_whole_list
    simp only [EV, reduceIte, Nat.reduceAdd, Nat.reduceLT, Nat.reduceLeDiff, Nat.reduceEqDiff, Int.reduceEq, Int.reduceLT, Int.reduceLE, h]
  unfold Com.F_is_ladder
  simp only [EV, reduceIte, Nat.reduceAdd, Nat.reduceLT, Nat.reduceLeDiff, Nat.reduceEqDiff, Int.reduceEq, Int.reduceLT, Int.reduceLE, w, Bool.not_false]
theorem bad_ix {x : Int} (h0 : 0 ≤ x) (h1 : x < 8) : ∃ b : D, pAt [PyData.int (-1), .none, .bool true, .bool false, .tuple [.int 1, .int 1], .str "2", .int 13, .list [.int 1]] x = some b ∧ (b = .int (-1) ∨ b = .int 13 ∨ isI b = false) := by
  have : x = 0 ∨ x = 1 ∨ x = 2 ∨ x = 3 ∨ x = 4 ∨ x = 5 ∨ x = 6 ∨ x = 7 := by omega
  rcases this with rfl | rfl | rfl | rfl | rfl | rfl | rfl | rfl
  · exact ⟨_, rfl, .inl rfl⟩
  · exact ⟨_, rfl, .inr (.inr rfl)⟩
  · exact ⟨_, rfl, .inr (.inr rfl)⟩
  · exact ⟨_, rfl, .inr (.inr rfl)⟩
  · exact ⟨_, rfl, .inr (.inr rfl)⟩
  · exact ⟨_, rfl, .inr (.inr rfl)⟩
  · exact ⟨_, rfl, .inr (.inl rfl)⟩
  · exact ⟨_, rfl, .inr (.inr rfl)⟩
theorem sum_nn : ∀ {l : List Int}, (∀ x ∈ l, 0 ≤ x) → 0 ≤ l.sum
  | [], _ => Int.le_refl _
  | a :: r, h => by
    rw [List.sum_cons]
    have := sum_nn (l := r) fun x hx => h x (List.mem_cons_of_mem _ hx)
    have := h a (List.mem_cons_self ..)
    omega
theorem spoilt_no {lad : List Int} (l4 : lad.length ≤ 4) (lp : ∀ r ∈ lad, 0 ≤ r) {b : D} (hb : b = .int (-1) ∨ b = .int 13 ∨ isI b = false) (i j : Nat) : Com.F_is_ladder [.list ((lad.map .int).take i ++ [b] ++ (lad.map .int).drop j)] = some (.bool false) := by
  have len : ((lad.map PyData.int).take i ++ [b] ++ (lad.map PyData.int).drop j).length ≤ 100 := by
    rw [List.length_append, List.length_append, List.length_take, List.length_drop, List.length_map, List.length_singleton]; omega
  have ps : ∀ x : Int, ((lad.map PyData.int).take i ++ [PyData.int x] ++ (lad.map PyData.int).drop j) = (lad.take i ++ [x] ++ lad.drop j).map .int := fun x => by
    rw [List.map_append, List.map_append, List.map_take, List.map_drop]; rfl
  have len2 : ∀ x, (lad.take i ++ [x] ++ lad.drop j).length ≤ 100 := fun x => by
    rw [List.length_append, List.length_append, List.length_take, List.length_drop, List.length_singleton]; omega
  rcases hb with rfl | rfl | hb
  · rw [ps]
    exact ladder_no (len2 _) fun ⟨_, _, z, _⟩ => absurd (z (-1) (by simp)) (by decide)
  · rw [ps]
    refine ladder_no (len2 _) fun ⟨_, _, _, z⟩ => ?_
    rw [List.sum_append, List.sum_append, List.sum_singleton] at z
    have a := sum_nn (l := lad.take i) fun x hx => lp x (List.mem_of_mem_take hx)
    have b := sum_nn (l := lad.drop j) fun x hx => lp x (List.mem_of_mem_drop hx)
    omega
  · refine ladder_odd len ?_
    rw [List.all_append, List.all_append, List.all_cons, hb]
    simp
theorem find_none {g : FG} {ft : FT} {δ : DS} : ∀ {l : List D}, (∀ d ∈ l, ∃ δ1, g d δ = some δ1 ∧ δ1.length = δ.length ∧ ft δ1 = some false) → findD g ft δ l = some false
  | [], _ => rfl
  | d :: r, h => by
    obtain ⟨δ1, e1, e2, e3⟩ := h d (List.mem_cons_self ..)
    have ih := find_none (l := r) fun d hd => h d (List.mem_cons_of_mem _ hd)
    rw [findD, e1, Option.bind_some, if_pos e2, e3, Option.bind_some, if_neg (by decide), ih]
theorem sFind_none {n : Nat} {fi : FA} {g : FG} {ft : FT} {c : D} {T : List Nat} {δ : DS} {l : List D} (hn : δ.length ≤ n) (h1 : fi δ = some l) (h2 : ∀ d ∈ l, ∃ δ1, g d (clr T δ) = some δ1 ∧ δ1.length = (clr T δ).length ∧ ft δ1 = some false) : sFind n fi g ft c T δ = some (.nx (clr T δ)) := by
  unfold sFind
  rw [if_pos hn, h1, Option.bind_some, find_none h2, Option.bind_some, if_neg (by decide)]
theorem odd_spec (ns : List Int) {lad : List Int} (l1 : 1 ≤ lad.length) (l4 : lad.length ≤ 4) (lp : ∀ r ∈ lad, 0 ≤ r) (ls : lad.sum ≤ 12) : ∃ l : List D, F__law_odd [.list (ns.map .int), .list (lad.map .int)] = some (.list l) ∧ ∀ d ∈ l, Com.F_is_ladder [d] = some (.bool false) := by
  have P : ∀ k m : Int, 0 ≤ k → k ≤ 1000 → 0 < m → F__law_part [.list (ns.map .int), .int 1, .int k, .int m] = some (.int (partF ns 1 k m)) := fun k m h1 h2 h3 => part_spec (by decide) h1 h2 h3
  have r1 := partF_range ns 1 1 (m := (lad.length : Int)) (by omega)
  have r2 := partF_range ns 1 2 (m := 8) (by decide)
  obtain ⟨b, eb, hb⟩ := bad_ix r2.1 r2.2
  have sp := spoilt_no l4 lp hb (partF ns 1 1 (lad.length : Int)).toNat (partF ns 1 1 (lad.length : Int) + 1).toNat
  generalize hx : (lad.map PyData.int).take (partF ns 1 1 (lad.length : Int)).toNat ++ [b] ++ (lad.map PyData.int).drop (partF ns 1 1 (lad.length : Int) + 1).toNat = sl at sp
  have em : lad.map PyData.int ++ [.int (13 - lad.sum)] = (lad ++ [13 - lad.sum]).map .int := by rw [List.map_append]; rfl
  have lx : sl.length ≤ 100 := by
    rw [← hx, List.length_append, List.length_append, List.length_take, List.length_drop, List.length_map, List.length_singleton]; omega
  have T1 : ((lad.map PyData.int).take (partF ns 1 1 (lad.length : Int)).toNat).length ≤ 999999 := by rw [List.length_take, List.length_map]; omega
  have T2 : ((lad.map PyData.int).take (partF ns 1 1 (lad.length : Int)).toNat ++ [b]).length + ((lad.map PyData.int).drop (partF ns 1 1 (lad.length : Int) + 1).toNat).length ≤ 1000000 := by rw [List.length_append, List.length_take, List.length_drop, List.length_map, List.length_singleton]; omega
  refine ⟨[.list sl, .list [], .list [.int 1, .int 1, .int 1, .int 1, .int 1], .list [.int 5, .int 5, .int 3], .tuple (lad.map .int), .none, .int 3, .str "12"] ++ [.dict [(.int 0, .int 1)], .list (lad.map .int ++ [.int (13 - lad.sum)]), .list [.int 0, .int 0, .int 0, .int 0, .int 0], .list [.int 4, .int 3, .int 3, .int 3], .list [.int 13]], ?_, ?_⟩
  · unfold F__law_odd
    simp only [EV, reduceIte, Nat.reduceAdd, Nat.reduceLT, Nat.reduceLeDiff, Nat.reduceEqDiff, Int.reduceEq, Int.reduceLT, Int.reduceLE, v_fnL, v_fnL_ex, v_retL, v_retL_s, P 1 (lad.length : Int) (by decide) (by decide) (by omega), P 2 8 (by decide) (by decide) (by decide), List.length_map, eb, n_sum, cutTk (l := lad.map .int) (k := partF ns 1 1 (lad.length : Int)) (by omega), cutDr (l := lad.map .int) (k := partF ns 1 1 (lad.length : Int) + 1) (by omega), hx, sz (show 0 ≤ 1000000 by decide), sz (show 1 ≤ 1000000 by decide), sz (show 2 ≤ 1000000 by decide), sz (show 3 ≤ 1000000 by decide), sz (show 4 ≤ 1000000 by decide), sz (show 5 ≤ 1000000 by decide), sz (show 8 ≤ 1000000 by decide), lx, T1, T2, show gTupL (.list (lad.map .int)) = some (.tuple (lad.map .int)) from rfl, show lad.length ≤ 999999 by omega]
  · intro d hd
    simp only [List.cons_append, List.nil_append, List.mem_cons, List.not_mem_nil, or_false] at hd
    rcases hd with rfl | rfl | rfl | rfl | rfl | rfl | rfl | rfl | rfl | rfl | rfl | rfl | rfl
    · exact sp
    · exact ladder_no (cs := []) (by decide) (by decide)
    · exact ladder_no (cs := [1, 1, 1, 1, 1]) (by decide) (by decide)
    · exact ladder_no (cs := [5, 5, 3]) (by decide) (by decide)
    · exact ladder_thing rfl
    · exact ladder_thing rfl
    · exact ladder_thing rfl
    · exact ladder_thing rfl
    · exact ladder_thing rfl
    · rw [em]
      refine ladder_no (by rw [List.length_append, List.length_singleton]; omega) fun ⟨_, _, _, z⟩ => ?_
      rw [List.sum_append, List.sum_singleton] at z
      omega
    · exact ladder_no (cs := [0, 0, 0, 0, 0]) (by decide) (by decide)
    · exact ladder_no (cs := [4, 3, 3, 3]) (by decide) (by decide)
    · exact ladder_no (cs := [13]) (by decide) (by decide)
theorem rdly (r : Rat) : ly 60 (rD r) := ly_le (n := 2) (ly_tup (lys_cons (ly_le (n := 1) ly_int (by decide)) (lys_cons (ly_le (n := 1) ly_int (by decide)) lys_nil))) (by decide)
theorem law_true (ns : List Int) (h : ns.length ≤ 63) : F_law [.list (ns.map .int)] = some (.bool true) := by
  obtain ⟨lad, l1, l4, lp, lsum, el⟩ := ladder_spec ns (i := 0) (by decide)
  obtain ⟨a, s, t, a0, a1, s0, s1, t0, t1, eb⟩ := base_spec ns (i := 1) (by decide)
  have P : ∀ k m : Int, 0 ≤ k → k ≤ 1000 → 0 < m → F__law_part [.list (ns.map .int), .int 1, .int k, .int m] = some (.int (partF ns 1 k m)) := fun k m h1 h2 h3 => part_spec (by decide) h1 h2 h3
  have r0 := partF_range ns 1 0 (m := 11) (by decide)
  have r4 := partF_range ns 1 4 (m := s + 6) (by omega)
  obtain ⟨M, hM, eM⟩ : ∃ M : Nat, M ≤ 24 ∧ (M : Int) = if partF ns 1 3 4 = 1 then 24 else partF ns 1 0 11 := by
    by_cases c : partF ns 1 3 4 = 1
    · exact ⟨24, by decide, by rw [if_pos c]; rfl⟩
    · exact ⟨(partF ns 1 0 11).toNat, by omega, by rw [if_neg c]; omega⟩
  have rr : qRng1 (some [.int (M : Int)]) = some (rngD 0 (M : Int)) := rng1 (by omega) (by omega)
  obtain ⟨ss, hsl, hss, ess⟩ := cEx (g := (gNl 0)) (c := (D3.tYes)) (e := (dCall F__law_stay (dCons (dVar 1) (dCons (dOp gAdd (dC (.int 2)) (dVar 0)) (dCons (dVar 2) (dCons (dCall gLen (dCons (dVar 3) (dNil))) (dNil))))))) (δ := [none, some (.d (.list (ns.map .int))), some (.d (.tuple [.int a, .int s, .int t])), some (.d (.list (lad.map .int)))]) syD (fun y : Sy => syOk y) (rngD 0 (M : Int)) (fun d hd => by
    obtain ⟨k, hk, rfl⟩ := List.mem_iff_getElem?.mp hd |>.elim fun k e => (⟨k, (rng_get e).1, (rng_get e).2⟩ : ∃ k : Nat, (k : Int) < (M : Int) ∧ d = .int (k : Int))
    obtain ⟨y, hy, _, _, _, _, _, ey⟩ := stay_spec ns (i := 2 + (k : Int)) (N := lad.length) (by omega) a0 a1 s0 s1 t0 t1 l1
    refine ⟨[some (.d (.int (k : Int))), some (.d (.list (ns.map .int))), some (.d (.tuple [.int a, .int s, .int t])), some (.d (.list (lad.map .int)))], y, rfl, rfl, hy, ?_⟩
    simp only [EV, reduceIte, Nat.reduceAdd, Nat.reduceLT, Nat.reduceLeDiff, Nat.reduceEqDiff, Int.reduceEq, Int.reduceLT, Int.reduceLE, List.length_map, ey])
  have hM' : ss.length = M := by rw [hsl]; unfold rngD; rw [List.length_map, List.length_range]; omega
  have hlen : ss.length ≤ 64 := by omega
  have LY : ly 60 (.list [.list (ss.map syD), .list (lad.map PyData.int)]) := ly_le (n := 8) (ly_list (lys_cons (ly_list (lys_map _ sy_ly ss)) (lys_cons (ly_list (lys_map (n := 6) _ (fun _ => ly_int) lad)) lys_nil))) (by decide)
  have gne := ne_self LY
  have LL : ly 60 (.list (lad.map PyData.int)) := ly_le (n := 8) (ly_list (lys_map (n := 7) _ (fun _ => ly_int) lad)) (by decide)
  have gnl := ne_self LL
  have nn1 : nl (.list (ss.map syD)) ≤ 1 := by show nls _ + 1 ≤ 1; rw [nls_map syD (fun _ => rfl) ss]; decide
  have nn2 : nl (.list (lad.map PyData.int)) ≤ 1 := by show nls _ + 1 ≤ 1; rw [nls_map PyData.int (fun _ => rfl) lad]; decide
  have sI : qI (some (decide (partF ns 1 3 4 = 1))) (sSetl 3 (dC (.int 24))) sNil [some (.d (.list (ns.map .int))), some (.d (.list (lad.map .int))), some (.d (.tuple [.int a, .int s, .int t])), some (.d (.int (partF ns 1 0 11))), none, none, none, none, none, none, none] = some (.nx [some (.d (.list (ns.map .int))), some (.d (.list (lad.map .int))), some (.d (.tuple [.int a, .int s, .int t])), some (.d (.int (M : Int))), none, none, none, none, none, none, none]) := by
    by_cases c : partF ns 1 3 4 = 1
    · rw [eM, if_pos c, decide_eq_true c]; rfl
    · rw [eM, if_neg c, decide_eq_false c]; rfl
  have cap : ∀ x0 x1 x2 x3 : Option U, capD 1 [0, 2, 1] [x0, x1, x2, x3, none, none, none, none, none, none, none] = [none, x0, x2, x1] := fun _ _ _ _ => rfl
  have rl : (rngD 0 (M : Int)).length ≤ 100000 := by rw [← hsl]; omega
  obtain ⟨D4, hD4⟩ : ∃ D4 : Option U → Option U → Option U → Option U → Option U → DS, D4 = fun y6 y7 y8 y9 y10 => [some (.d (.list (ns.map .int))), some (.d (.list (lad.map .int))), some (.d (.tuple [.int a, .int s, .int t])), some (.d (.int (M : Int))), some (.d (.list (ss.map syD))), some (.d (.list [.list (ss.map syD), .list (lad.map .int)])), y6, y7, y8, y9, y10] := ⟨_, rfl⟩
  have rk : qRng2 (some [.int 1, .int ((lad.length : Int) + 1)]) = some (rngD 1 ((lad.length : Int) + 1)) := rng2 (by omega) (by omega) (by decide) (by decide)
  have inner : ∀ (n : Int) (y7 y8 y9 : Option U), ∃ y7' y8' y9', forD (gNl 7) (sSeq (sSetl 8 (dCall F_rooms_from (dCons (dOp gIx (dVar 5) (dC (.int 1))) (dCons (dVar 7) (dNil))))) (sSeq (sIf (D3.tOr (D3.tNot (tBool (dCall F__law_whole (dCons (dVar 8) (dNil))))) (tBool (dOp gNe (dVar 8) (dCall gSum (dCons (dSl (dVar 1) (oPart (dOp gSub (dVar 7) (dC (.int 1)))) oNone) (dNil)))))) (sRet (dC (.bool false))) (sNil)) (sSeq (sSetl 9 (dCall F_chance_at (dCons (dOp gIx (dVar 5) (dC (.int 0))) (dCons (dVar 6) (dCons (dVar 7) (dCons (dOp gIx (dVar 5) (dC (.int 1))) (dNil))))))) (sSeq (sIf (D3.tOr (D3.tNot (tBool (dCall F__law_is_ratio (dCons (dVar 9) (dNil))))) (tBool (dOp gNe (dVar 9) (dCall F__law_chance_at (dCons (dVar 4) (dCons (dVar 6) (dCons (dVar 7) (dCons (dVar 1) (dNil))))))))) (sRet (dC (.bool false))) (sNil)) (sIf (tBool (dOp gNe (dVar 5) (dLst (dCons (dVar 4) (dCons (dVar 1) (dNil)))))) (sRet (dC (.bool false))) (sNil)))))) (rngD 1 ((lad.length : Int) + 1)) (D4 (some (.d (.int n))) y7 y8 y9 none) = some (.nx (D4 (some (.d (.int n))) y7' y8' y9' none)) := fun n y7 y8 y9 => by
    obtain ⟨δ', e, y7', y8', y9', rfl⟩ := for_inv (g := (gNl 7)) (b := (sSeq (sSetl 8 (dCall F_rooms_from (dCons (dOp gIx (dVar 5) (dC (.int 1))) (dCons (dVar 7) (dNil))))) (sSeq (sIf (D3.tOr (D3.tNot (tBool (dCall F__law_whole (dCons (dVar 8) (dNil))))) (tBool (dOp gNe (dVar 8) (dCall gSum (dCons (dSl (dVar 1) (oPart (dOp gSub (dVar 7) (dC (.int 1)))) oNone) (dNil)))))) (sRet (dC (.bool false))) (sNil)) (sSeq (sSetl 9 (dCall F_chance_at (dCons (dOp gIx (dVar 5) (dC (.int 0))) (dCons (dVar 6) (dCons (dVar 7) (dCons (dOp gIx (dVar 5) (dC (.int 1))) (dNil))))))) (sSeq (sIf (D3.tOr (D3.tNot (tBool (dCall F__law_is_ratio (dCons (dVar 9) (dNil))))) (tBool (dOp gNe (dVar 9) (dCall F__law_chance_at (dCons (dVar 4) (dCons (dVar 6) (dCons (dVar 7) (dCons (dVar 1) (dNil))))))))) (sRet (dC (.bool false))) (sNil)) (sIf (tBool (dOp gNe (dVar 5) (dLst (dCons (dVar 4) (dCons (dVar 1) (dNil)))))) (sRet (dC (.bool false))) (sNil))))))) (fun _ δ => ∃ y7 y8 y9, δ = D4 (some (.d (.int n))) y7 y8 y9 none) (rngD 1 ((lad.length : Int) + 1)) (D4 (some (.d (.int n))) y7 y8 y9 none) ⟨_, _, _, rfl⟩ (by
      rintro i d δ hd ⟨y7, y8, y9, rfl⟩
      obtain ⟨hi, rfl⟩ := rngK_at hd
      have rs : gSum [.list ((lad.map PyData.int).drop (1 + (i : Int) - 1).toNat)] = some (.int (rmF lad (1 + (i : Int)))) := by
        rw [← List.map_drop, n_sum]; rfl
      refine ⟨D4 (some (.d (.int n))) (some (.d (.int (1 + (i : Int))))) y8 y9 none, D4 (some (.d (.int n))) (some (.d (.int (1 + (i : Int))))) (some (.d (.int (rmF lad (1 + (i : Int)))))) (some (.d (rD (chR ss lad n (1 + (i : Int)))))) none, by rw [hD4]; rfl, .inl ?_, _, _, _, rfl⟩
      rw [hD4]
      simp only [EV, reduceIte, Nat.reduceAdd, Nat.reduceLT, Nat.reduceLeDiff, Nat.reduceEqDiff, Int.reduceEq, Int.reduceLT, Int.reduceLE, rooms_from_spec (lad := lad) (k := 1 + (i : Int)) (by omega), is_whole, at0, at1, cutDr (l := lad.map .int) (k := 1 + (i : Int) - 1) (by omega), rs, chance_at_spec hss hlen lp (n := n) (k := 1 + (i : Int)) (by omega), law_chance_at_spec hss hlen (by omega) lp (n := n) (k := 1 + (i : Int)) (by omega), is_ratio, ne_self (rdly (chR ss lad n (1 + (i : Int)))), gne, Bool.not_true, sz (show 2 ≤ 1000000 by decide)])
    exact ⟨y7', y8', y9', e⟩
  obtain ⟨δ', e1, y6, y7, y8, y9, rfl⟩ := for_inv (g := (gNl 6)) (b := (sFor (fRng2 (dCons (dC (.int 1)) (dCons (dOp gAdd (dCall gLen (dCons (dVar 1) (dNil))) (dC (.int 1))) (dNil)))) (gNl 7) (sSeq (sSetl 8 (dCall F_rooms_from (dCons (dOp gIx (dVar 5) (dC (.int 1))) (dCons (dVar 7) (dNil))))) (sSeq (sIf (D3.tOr (D3.tNot (tBool (dCall F__law_whole (dCons (dVar 8) (dNil))))) (tBool (dOp gNe (dVar 8) (dCall gSum (dCons (dSl (dVar 1) (oPart (dOp gSub (dVar 7) (dC (.int 1)))) oNone) (dNil)))))) (sRet (dC (.bool false))) (sNil)) (sSeq (sSetl 9 (dCall F_chance_at (dCons (dOp gIx (dVar 5) (dC (.int 0))) (dCons (dVar 6) (dCons (dVar 7) (dCons (dOp gIx (dVar 5) (dC (.int 1))) (dNil))))))) (sSeq (sIf (D3.tOr (D3.tNot (tBool (dCall F__law_is_ratio (dCons (dVar 9) (dNil))))) (tBool (dOp gNe (dVar 9) (dCall F__law_chance_at (dCons (dVar 4) (dCons (dVar 6) (dCons (dVar 7) (dCons (dVar 1) (dNil))))))))) (sRet (dC (.bool false))) (sNil)) (sIf (tBool (dOp gNe (dVar 5) (dLst (dCons (dVar 4) (dCons (dVar 1) (dNil)))))) (sRet (dC (.bool false))) (sNil)))))))) (fun _ δ => ∃ y6 y7 y8 y9, δ = D4 y6 y7 y8 y9 none) [.int (a + partF ns 1 4 (s + 6)), .int (a + 4)] (D4 none none none none none) ⟨_, _, _, _, rfl⟩ (by
    rintro i d δ hd ⟨y6, y7, y8, y9, rfl⟩
    obtain ⟨n, rfl⟩ : ∃ n, d = .int n := by
      have := List.mem_of_getElem? hd
      rcases List.mem_cons.mp this with z | z
      · exact ⟨_, z⟩
      · exact ⟨_, List.mem_singleton.mp z⟩
    obtain ⟨y7', y8', y9', e⟩ := inner n y7 y8 y9
    refine ⟨D4 (some (.d (.int n))) y7 y8 y9 none, D4 (some (.d (.int n))) y7' y8' y9' none, by rw [hD4]; rfl, .inl ?_, _, _, _, _, rfl⟩
    rw [hD4] at e ⊢
    simp only [EV, reduceIte, Nat.reduceAdd, Nat.reduceLT, Nat.reduceLeDiff, Nat.reduceEqDiff, Int.reduceEq, Int.reduceLT, Int.reduceLE, List.length_map, rk, e])
  have cl : ∀ b0 b1 b2 b3 b4 b5 b6 b7 b8 b9 b10 : Option U, clr [10] [b0, b1, b2, b3, b4, b5, b6, b7, b8, b9, b10] = [b0, b1, b2, b3, b4, b5, b6, b7, b8, b9, none] := fun _ _ _ _ _ _ _ _ _ _ _ => rfl
  obtain ⟨ol, eo, ho⟩ := odd_spec ns l1 l4 lp lsum
  have lawis : ∀ b : Bool, F__law_is [.bool b, .bool b] = some (.bool true) := fun b => by cases b <;> rfl
  rw [hD4] at e1
  unfold F_law
  simp only [EV, reduceIte, Nat.reduceAdd, Nat.reduceLT, Nat.reduceLeDiff, Nat.reduceEqDiff, Int.reduceEq, Int.reduceLT, Int.reduceLE, el, eb, P 0 11 (by decide) (by decide) (by decide), P 3 4 (by decide) (by decide) (by decide), P 4 (s + 6) (by decide) (by decide) (by omega), sI, rr, cap, rl, ess, at0, at1, sz (show 2 ≤ 1000000 by decide), List.length_map, sy_flats ss, flats_ints lad, decide_eq_true nn1, decide_eq_true nn2, e1]
  rw [sFind_none (l := [.list (lad.map .int), .list ([12].map .int), .list ([3, 3, 3, 3].map .int), .list ([0, 0, 0, 12].map .int), .list ([0].map .int)]) ?a1 ?b1 ?f1]
  case a1 => exact Nat.le_refl _
  case b1 => simp only [EV, reduceIte, Nat.reduceAdd, Nat.reduceLT, Nat.reduceLeDiff, Nat.reduceEqDiff, Int.reduceEq, Int.reduceLT, Int.reduceLE, at1, sz (show 1 ≤ 1000000 by decide), sz (show 4 ≤ 1000000 by decide), sz (show 5 ≤ 1000000 by decide)]
  case f1 =>
    intro d hd
    have L : F_is_ladder [d] = some (.bool true) := by
      simp only [List.mem_cons, List.not_mem_nil, or_false] at hd
      rcases hd with rfl | rfl | rfl | rfl | rfl
      · exact ladder_yes l1 l4 lp lsum
      · exact ladder_yes (by decide) (by decide) (by decide) (by decide)
      · exact ladder_yes (by decide) (by decide) (by decide) (by decide)
      · exact ladder_yes (by decide) (by decide) (by decide) (by decide)
      · exact ladder_yes (by decide) (by decide) (by decide) (by decide)
    rw [cl]
    refine ⟨_, rfl, rfl, ?_⟩
    simp only [EV, reduceIte, Nat.reduceAdd, Nat.reduceLT, Nat.reduceLeDiff, Nat.reduceEqDiff, Int.reduceEq, Int.reduceLT, Int.reduceLE, L, lawis, at1, gnl, Bool.not_true]
  rw [cl]
  simp only [EV, reduceIte, Nat.reduceAdd, Nat.reduceLT, Nat.reduceLeDiff, Nat.reduceEqDiff, Int.reduceEq, Int.reduceLT, Int.reduceLE]
  rw [sFind_none (l := ol) ?ka ?kb ?kf]
  case ka => exact Nat.le_refl _
  case kb => simp only [EV, reduceIte, Nat.reduceAdd, Nat.reduceLT, Nat.reduceLeDiff, Nat.reduceEqDiff, Int.reduceEq, Int.reduceLT, Int.reduceLE, eo]
  case kf =>
    intro d hd
    have L := ho d hd
    rw [cl]
    refine ⟨_, rfl, rfl, ?_⟩
    simp only [EV, reduceIte, Nat.reduceAdd, Nat.reduceLT, Nat.reduceLeDiff, Nat.reduceEqDiff, Int.reduceEq, Int.reduceLT, Int.reduceLE, L, lawis, Bool.not_true]
  rw [cl]
  have A1 := nApp_of (i := 5) (n := 0) (fk := dC (.int 0)) (f := dTup (dCons (dOp gIx (dVar 2) (dC (.int 0))) (dCons (dOp gAdd (dOp gIx (dVar 2) (dC (.int 0))) (dC (.int 1))) (dCons (dC (.int 1)) (dCons (dTup (dCons (dC (.int 1)) (dCons (dC (.int 1)) (dNil)))) (dNil)))))) (δ := [some (.d (.list (ns.map .int))), some (.d (.list (lad.map .int))), some (.d (.tuple [.int a, .int s, .int t])), some (.d (.int (M : Int))), some (.d (.list (ss.map syD))), some (.d (.list [.list (ss.map syD), .list (lad.map .int)])), y6, y7, y8, y9, none]) (l := [.list (ss.map syD), .list (lad.map .int)]) (m := ss.map syD) (d := .tuple [.int a, .int (a + 1), .int 1, .tuple [.int 1, .int 1]]) rfl rfl (by simp only [EV, reduceIte, Nat.reduceAdd, Nat.reduceLT, Nat.reduceLeDiff, Nat.reduceEqDiff, Int.reduceEq, Int.reduceLT, Int.reduceLE, at0, sz (show 2 ≤ 1000000 by decide), sz (show 4 ≤ 1000000 by decide)]) rfl rfl (by rw [List.length_map]; omega)
  simp only [List.set_cons_succ, List.set_cons_zero] at A1
  simp only [EV, reduceIte, Nat.reduceAdd, Nat.reduceLT, Nat.reduceLeDiff, Nat.reduceEqDiff, Int.reduceEq, Int.reduceLT, Int.reduceLE, A1, at0, chance_at_spec hss hlen lp (n := a) (k := 1) (by decide), law_chance_at_spec hss hlen (by omega) lp (n := a) (k := 1) (by decide), Com.eq_self (rdly (chR ss lad a 1))]
end K25
namespace K25
open PySem PySem.Spec PyProof.Rows L2 My D3
def top (i : Nat) : Stmt := PySem.Challenge.pw_nightbook_k25_ladders_and_chances_at_a_n.main.body.getD i (.Pass ⟨0, 0, 0, 0⟩)
section
seal PE PT PW PA PS PSs PG PGs PI PO PTs
variable {P : Program} {w : World} {K : PySem.W.Frag} {mg : Str → Option Value} {base : Heap} {n : Nat}
theorem ok_is_whole (D : Dg K mg "is_whole" (top 4) ["thing"]) (B : Bl mg) : Has P w K mg base (n + 1) "is_whole" ["thing"] (spD K F_is_whole) := by
  have sc : FnScope ["thing"] ["thing"] (defScope (top 4)) := ⟨rfl, rfl, rfl, by decide +kernel, rfl, by decide +kernel, by decide +kernel⟩
  exact dg_ok (fl := [.A]) D sc (by decide) (by decide) fun f cdv A outer s H E hr => dss_one (ds_ret (c_FC_R (de_and (c_FC_P (de_isi (T := "int") (by decide) (c_A_P (de_varA 0 rfl)) (by rfl) B.isinstance_ (by rfl) B.int_ PyProof.Rows.boot_int)) (de_one (de_not (c_FC_P (de_isi (T := "bool") (by decide) (c_A_P (de_varA 0 rfl)) (by rfl) B.isinstance_ (by rfl) B.bool_ PyProof.Rows.boot_bool)))))))
theorem ok_all_whole (D : Dg K mg "all_whole" (top 5) ["things"]) (B : Bl mg) (his_whole : Has P w K mg base n "is_whole" ["thing"] (spD K F_is_whole)) : Has P w K mg base (n + 1) "all_whole" ["things"] (spD K F_all_whole) := by
  have sc : FnScope ["things"] ["things"] (defScope (top 5)) := ⟨rfl, rfl, rfl, by decide +kernel, rfl, by decide +kernel, by decide +kernel⟩
  exact dg_ok (fl := [.A]) D sc (by decide) (by decide) fun f cdv A outer s H E hr => dss_one (ds_ret (c_FC_R (de_blt (call_allL rfl) b_all (by rfl) B.all_ (show bootBuiltins "all" = some (.builtin "all") by decide +kernel) (db_cons rfl (c_FC_P (de_comp (L := []) (fl' := [.A]) rfl ["thing"] [] [] (di_list (c_A_B (de_varA 0 rfl))) (fun _ _ _ _ _ => dg_name (i := 0) rfl (show (["thing"] : List Str).Nodup by decide +kernel) rfl (by first | exact Or.inl rfl | exact Or.inr rfl)) (fun _ _ _ _ _ => pts_yes) (fun _ _ _ _ _ => de_call his_whole hr (db_cons rfl (c_A_P (de_varA 0 rfl)) (db_nil))))) (db_nil)))))
theorem ok_is_whole_list (D : Dg K mg "is_whole_list" (top 6) ["thing"]) (B : Bl mg) (hall_whole : Has P w K mg base n "all_whole" ["things"] (spD K F_all_whole)) : Has P w K mg base (n + 1) "is_whole_list" ["thing"] (spD K F_is_whole_list) := by
  have sc : FnScope ["thing"] ["thing"] (defScope (top 6)) := ⟨rfl, rfl, rfl, by decide +kernel, rfl, by decide +kernel, by decide +kernel⟩
  exact dg_ok (fl := [.A]) D sc (by decide) (by decide) fun f cdv A outer s H E hr => dss_one (ds_ret (c_C_R (de_and (c_FC_P (de_isi (T := "list") (by decide) (c_A_P (de_varA 0 rfl)) (by rfl) B.isinstance_ (by rfl) B.list_ PyProof.Rows.boot_list)) (de_one (de_call hall_whole hr (db_cons rfl (c_A_P (de_varA 0 rfl)) (db_nil)))))))
theorem ok_greatest_divisor (D : Dg K mg "greatest_divisor" (top 8) ["one", "other"]) (B : Bl mg) : Has P w K mg base (n + 1) "greatest_divisor" ["one", "other"] (spD K F_greatest_divisor) := by
  have sc : FnScope ["one", "other", "rest"] ["one", "other"] (defScope (top 8)) := ⟨rfl, rfl, rfl, by decide +kernel, rfl, by decide +kernel, by decide +kernel⟩
  exact dg_ok (fl := [.A, .A, .A]) D sc (by decide) (by decide) fun f cdv A outer s H E hr => dss_cons (ds_while PassesOwn.never (dt_cmp (op_neD hr.units) b_ne (c_A_P (de_varA 1 rfl)) (c_FC_P (de_int)) (nomark _)) (dss_cons (ds_setA (i := 2) rfl sc.nd rfl (by first | exact Or.inl rfl | exact Or.inr rfl) (c_FC_A (de_op op_modN b_mod (c_A_P (de_varA 0 rfl)) (c_A_P (de_varA 1 rfl)))))
    (dss_cons (ds_setA (i := 0) rfl sc.nd rfl (by first | exact Or.inl rfl | exact Or.inr rfl) (de_varA 1 rfl))
    (dss_one (ds_setA (i := 1) rfl sc.nd rfl (by first | exact Or.inl rfl | exact Or.inr rfl) (de_varA 2 rfl))))))
    (dss_one (ds_ret (c_FC_R (c_flat (c_A_P (de_varA 0 rfl))))))
theorem ok_lowest (D : Dg K mg "lowest" (top 9) ["top", "bottom"]) (B : Bl mg) (hgreatest_divisor : Has P w K mg base n "greatest_divisor" ["one", "other"] (spD K F_greatest_divisor)) : Has P w K mg base (n + 1) "lowest" ["top", "bottom"] (spD K F_lowest) := by
  have sc : FnScope ["top", "bottom", "divisor"] ["top", "bottom"] (defScope (top 9)) := ⟨rfl, rfl, rfl, by decide +kernel, rfl, by decide +kernel, by decide +kernel⟩
  exact dg_ok (fl := [.A, .A, .A]) D sc (by decide) (by decide) fun f cdv A outer s H E hr => dss_cons (ds_setA (i := 2) rfl sc.nd rfl (by first | exact Or.inl rfl | exact Or.inr rfl) (c_C_A (de_call hgreatest_divisor hr (db_cons rfl (c_FC_P (de_blt call_abs b_abs (by rfl) B.abs_ PyProof.Rows.boot_abs (db_cons rfl (c_A_P (de_varA 0 rfl)) (db_nil)))) (db_cons rfl (c_FC_P (de_blt call_abs b_abs (by rfl) B.abs_ PyProof.Rows.boot_abs (db_cons rfl (c_A_P (de_varA 1 rfl)) (db_nil)))) (db_nil))))))
    (dss_cons (ds_if (dt_cmp op_lt b_lt (c_A_P (de_varA 1 rfl)) (c_FC_P (de_int)) (nomark _)) (dss_one (ds_setA (i := 2) rfl sc.nd rfl (by first | exact Or.inl rfl | exact Or.inr rfl) (c_FC_A (de_neg (c_A_P (de_varA 2 rfl)))))) (dss_nil))
    (dss_one (ds_ret (de_tup rfl (db_cons rfl (c_FC_R (de_op op_divG b_div (c_A_P (de_varA 0 rfl)) (c_A_P (de_varA 2 rfl)))) (db_cons rfl (c_FC_R (de_op op_divG b_div (c_A_P (de_varA 1 rfl)) (c_A_P (de_varA 2 rfl)))) (db_nil)))))))
theorem ok_ratio (D : Dg K mg "ratio" (top 10) ["top", "bottom"]) (B : Bl mg) (his_whole : Has P w K mg base n "is_whole" ["thing"] (spD K F_is_whole)) (hlowest : Has P w K mg base n "lowest" ["top", "bottom"] (spD K F_lowest)) : Has P w K mg base (n + 1) "ratio" ["top", "bottom"] (spD K F_ratio) := by
  have sc : FnScope ["top", "bottom"] ["top", "bottom"] (defScope (top 10)) := ⟨rfl, rfl, rfl, by decide +kernel, rfl, by decide +kernel, by decide +kernel⟩
  exact dg_ok (fl := [.A, .A]) D sc (by decide) (by decide) fun f cdv A outer s H E hr => dss_cons (ds_if (dt_w (dw_or (dt_not (dt_val (c_C_P (de_call his_whole hr (db_cons rfl (c_A_P (de_varA 0 rfl)) (db_nil)))))) (dw_or1 (dt_not (dt_val (c_C_P (de_call his_whole hr (db_cons rfl (c_A_P (de_varA 1 rfl)) (db_nil))))))))) (dss_one (ds_never)) (dss_nil))
    (dss_cons (ds_if (dt_cmp (op_eqD hr.units) b_eq (c_A_P (de_varA 1 rfl)) (c_FC_P (de_int)) (nomark _)) (dss_one (ds_never)) (dss_nil))
    (dss_one (ds_ret (c_C_R (de_call hlowest hr (db_cons rfl (c_A_P (de_varA 0 rfl)) (db_cons rfl (c_A_P (de_varA 1 rfl)) (db_nil))))))))
theorem ok_nights_of (D : Dg K mg "nights_of" (top 12) ["stay"]) (B : Bl mg) : Has P w K mg base (n + 1) "nights_of" ["stay"] (spD K F_nights_of) := by
  have sc : FnScope ["stay"] ["stay"] (defScope (top 12)) := ⟨rfl, rfl, rfl, by decide +kernel, rfl, by decide +kernel, by decide +kernel⟩
  exact dg_ok (fl := [.A]) D sc (by decide) (by decide) fun f cdv A outer s H E hr => dss_one (ds_ret (de_tup rfl (db_cons rfl (c_FC_R (c_flat (c_A_P (de_ix (c_A_B (de_varA 0 rfl)) (c_FC_P (de_int)) (fun _ _ => rfl))))) (db_cons rfl (c_FC_R (c_flat (c_A_P (de_ix (c_A_B (de_varA 0 rfl)) (c_FC_P (de_int)) (fun _ _ => rfl))))) (db_nil)))))
theorem ok_holds (D : Dg K mg "holds" (top 13) ["stretch", "night"]) (B : Bl mg) : Has P w K mg base (n + 1) "holds" ["stretch", "night"] (spD K F_holds) := by
  have sc : FnScope ["stretch", "night"] ["stretch", "night"] (defScope (top 13)) := ⟨rfl, rfl, rfl, by decide +kernel, rfl, by decide +kernel, by decide +kernel⟩
  exact dg_ok (fl := [.A, .A]) D sc (by decide) (by decide) fun f cdv A outer s H E hr => dss_one (ds_ret (c_FC_R (de_chain op_le op_lt b_le b_lt (c_A_P (de_ix (c_A_B (de_varA 0 rfl)) (c_FC_P (de_int)) (fun _ _ => rfl))) (c_A_P (de_varA 1 rfl)) (c_A_P (de_ix (c_A_B (de_varA 0 rfl)) (c_FC_P (de_int)) (fun _ _ => rfl))))))
theorem ok_with_row (D : Dg K mg "with_row" (top 15) ["weights", "many", "chance"]) (B : Bl mg) : Has P w K mg base (n + 1) "with_row" ["weights", "many", "chance"] (spD K F_with_row) := by
  have sc : FnScope ["weights", "many", "chance", "longer", "place", "weight"] ["weights", "many", "chance"] (defScope (top 15)) := ⟨rfl, rfl, rfl, by decide +kernel, rfl, by decide +kernel, by decide +kernel⟩
  exact dg_ok (fl := [.A, .A, .A, .O, .A, .A]) D sc (by decide) (by decide) fun f cdv A outer s H E hr => dss_cons (ds_setO (i := 3) rfl sc.nd rfl (by first | exact Or.inl rfl | exact Or.inr rfl) (de_rep (c_FC_F (de_lstC (db_cons rfl (c_FC_C (de_int)) (db_nil)))) (c_FC_P (de_op op_add b_add (c_FC_P (de_blt call_len_seq b_len (by rfl) B.len_ PySem.boot_len (db_cons rfl (c_A_P (de_varA 0 rfl)) (db_nil)))) (c_A_P (de_varA 1 rfl))))))
    (dss_cons (ds_for (L := []) PassesOwn.never rfl (di_enum (c_A_B (de_varA 0 rfl)) (by rfl) B.enumerate_) (dg_tup rfl (dgs_cons (dg_name (i := 4) rfl sc.nd rfl (by first | exact Or.inl rfl | exact Or.inr rfl)) (dgs_cons (dg_name (i := 5) rfl sc.nd rfl (by first | exact Or.inl rfl | exact Or.inr rfl)) (dgs_nil)))) (dss_cons (ds_put (i := 3) rfl (c_FC_A (de_op op_add b_add (c_A_P (de_ix (de_var 3) (c_A_P (de_varA 4 rfl)) (fun _ _ => rfl))) (c_FC_P (de_op op_mulG b_mul (c_A_P (de_varA 5 rfl)) (c_FC_P (de_op op_sub b_sub (c_A_P (de_ix (c_A_B (de_varA 2 rfl)) (c_FC_P (de_int)) (fun _ _ => rfl))) (c_A_P (de_ix (c_A_B (de_varA 2 rfl)) (c_FC_P (de_int)) (fun _ _ => rfl))))))))) (c_A_P (de_varA 4 rfl)) rfl)
    (dss_one (ds_put (i := 3) rfl (c_FC_A (de_op op_add b_add (c_A_P (de_ix (de_var 3) (c_FC_P (de_op op_add b_add (c_A_P (de_varA 4 rfl)) (c_A_P (de_varA 1 rfl)))) (fun _ _ => rfl))) (c_FC_P (de_op op_mulG b_mul (c_A_P (de_varA 5 rfl)) (c_A_P (de_ix (c_A_B (de_varA 2 rfl)) (c_FC_P (de_int)) (fun _ _ => rfl))))))) (c_FC_P (de_op op_add b_add (c_A_P (de_varA 4 rfl)) (c_A_P (de_varA 1 rfl)))) rfl))))
    (dss_one (ds_ret (de_varR 3 (by decide)))))
theorem ok_all_weights (D : Dg K mg "all_weights" (top 16) ["rows"]) (B : Bl mg) (hwith_row : Has P w K mg base n "with_row" ["weights", "many", "chance"] (spD K F_with_row)) : Has P w K mg base (n + 1) "all_weights" ["rows"] (spD K F_all_weights) := by
  have sc : FnScope ["rows", "weights", "many", "chance"] ["rows"] (defScope (top 16)) := ⟨rfl, rfl, rfl, by decide +kernel, rfl, by decide +kernel, by decide +kernel⟩
  exact dg_ok (fl := [.A, .O, .A, .A]) D sc (by decide) (by decide) fun f cdv A outer s H E hr => dss_cons (ds_setO (i := 1) rfl sc.nd rfl (by first | exact Or.inl rfl | exact Or.inr rfl) (c_FC_F (de_lstC (db_cons rfl (c_FC_C (de_int)) (db_nil)))))
    (dss_cons (ds_for (L := []) PassesOwn.never rfl (di_list (c_A_B (de_varA 0 rfl))) (dg_tup rfl (dgs_cons (dg_name (i := 2) rfl sc.nd rfl (by first | exact Or.inl rfl | exact Or.inr rfl)) (dgs_cons (dg_name (i := 3) rfl sc.nd rfl (by first | exact Or.inl rfl | exact Or.inr rfl)) (dgs_nil)))) (dss_one (ds_setO (i := 1) rfl sc.nd rfl (by first | exact Or.inl rfl | exact Or.inr rfl) (c_FC_F (c_Cfl1 (de_call hwith_row hr (db_cons rfl (c_B_P (de_var 1)) (db_cons rfl (c_A_P (de_varA 2 rfl)) (db_cons rfl (c_A_P (de_varA 3 rfl)) (db_nil))))))))))
    (dss_one (ds_ret (de_varR 1 (by decide)))))
theorem ok_common_bottom (D : Dg K mg "common_bottom" (top 17) ["rows"]) (B : Bl mg) : Has P w K mg base (n + 1) "common_bottom" ["rows"] (spD K F_common_bottom) := by
  have sc : FnScope ["rows", "bottom", "many", "chance"] ["rows"] (defScope (top 17)) := ⟨rfl, rfl, rfl, by decide +kernel, rfl, by decide +kernel, by decide +kernel⟩
  exact dg_ok (fl := [.A, .A, .A, .A]) D sc (by decide) (by decide) fun f cdv A outer s H E hr => dss_cons (ds_setA (i := 1) rfl sc.nd rfl (by first | exact Or.inl rfl | exact Or.inr rfl) (c_FC_A (de_int)))
    (dss_cons (ds_for (L := []) PassesOwn.never rfl (di_list (c_A_B (de_varA 0 rfl))) (dg_tup rfl (dgs_cons (dg_name (i := 2) rfl sc.nd rfl (by first | exact Or.inl rfl | exact Or.inr rfl)) (dgs_cons (dg_name (i := 3) rfl sc.nd rfl (by first | exact Or.inl rfl | exact Or.inr rfl)) (dgs_nil)))) (dss_one (ds_setA (i := 1) rfl sc.nd rfl (by first | exact Or.inl rfl | exact Or.inr rfl) (c_FC_A (de_op op_mulG b_mul (c_A_P (de_varA 1 rfl)) (c_A_P (de_ix (c_A_B (de_varA 3 rfl)) (c_FC_P (de_int)) (fun _ _ => rfl))))))))
    (dss_one (ds_ret (c_FC_R (c_flat (c_A_P (de_varA 1 rfl)))))))
theorem ok_comers_above (D : Dg K mg "comers_above" (top 18) ["rows", "rooms"]) (B : Bl mg) (hratio : Has P w K mg base n "ratio" ["top", "bottom"] (spD K F_ratio)) (hall_weights : Has P w K mg base n "all_weights" ["rows"] (spD K F_all_weights)) (hcommon_bottom : Has P w K mg base n "common_bottom" ["rows"] (spD K F_common_bottom)) : Has P w K mg base (n + 1) "comers_above" ["rows", "rooms"] (spD K F_comers_above) := by
  have sc : FnScope ["rows", "rooms"] ["rows", "rooms"] (defScope (top 18)) := ⟨rfl, rfl, rfl, by decide +kernel, rfl, by decide +kernel, by decide +kernel⟩
  exact dg_ok (fl := [.A, .A]) D sc (by decide) (by decide) fun f cdv A outer s H E hr => dss_one (ds_ret (c_C_R (de_call hratio hr (db_cons rfl (c_FC_P (de_blt (call_sumL rfl) b_sum (by rfl) B.sum_ PyProof.Rows.boot_sum (db_cons rfl (c_F_P (de_sl (c_A_B (c_C_A (de_call hall_weights hr (db_cons rfl (c_A_P (de_varA 0 rfl)) (db_nil))))) (do_part (c_FC_P (de_op op_add b_add (c_A_P (de_varA 1 rfl)) (c_FC_P (de_int))))) do_none)) (db_nil)))) (db_cons rfl (c_C_P (de_call hcommon_bottom hr (db_cons rfl (c_A_P (de_varA 0 rfl)) (db_nil)))) (db_nil))))))
theorem ok_is_ladder (D : Dg K mg "is_ladder" (top 22) ["thing"]) (B : Bl mg) (his_whole_list : Has P w K mg base n "is_whole_list" ["thing"] (spD K F_is_whole_list)) (gMOST_KINDS : ∃ t, mg "MOST_KINDS" = some (.int 4 t)) (gMOST_ROOMS : ∃ t, mg "MOST_ROOMS" = some (.int 12 t)) : Has P w K mg base (n + 1) "is_ladder" ["thing"] (spD K F_is_ladder) := by
  have sc : FnScope ["thing"] ["thing"] (defScope (top 22)) := ⟨rfl, rfl, rfl, by decide +kernel, rfl, by decide +kernel, by decide +kernel⟩
  exact dg_ok (fl := [.A]) D sc (by decide) (by decide) fun f cdv A outer s H E hr => dss_cons (ds_if (dt_w (dw_or (dt_not (dt_val (c_C_P (de_call his_whole_list hr (db_cons rfl (c_A_P (de_varA 0 rfl)) (db_nil)))))) (dw_or1 (dt_not (dt_chain op_le op_le b_le b_le (c_FC_P (de_int)) (c_FC_P (de_blt call_len_seq b_len (by rfl) B.len_ PySem.boot_len (db_cons rfl (c_A_P (de_varA 0 rfl)) (db_nil)))) (c_FC_P (de_glob gMOST_KINDS))))))) (dss_one (ds_ret (c_FC_R (de_bl)))) (dss_nil))
    (dss_one (ds_ret (c_FC_R (de_and (c_FC_P (de_cmp op_ge b_ge (c_FC_P (de_blt (call_minL rfl) b_minL (by rfl) B.min_ PyProof.Rows.boot_min (db_cons rfl (c_A_P (de_varA 0 rfl)) (db_nil)))) (c_FC_P (de_int)) (nomark _))) (de_one (de_cmp op_le b_le (c_FC_P (de_blt (call_sumL rfl) b_sum (by rfl) B.sum_ PyProof.Rows.boot_sum (db_cons rfl (c_A_P (de_varA 0 rfl)) (db_nil)))) (c_FC_P (de_glob gMOST_ROOMS)) (nomark _)))))))
theorem ok_rooms_from (D : Dg K mg "rooms_from" (top 23) ["ladder", "kind"]) (B : Bl mg) : Has P w K mg base (n + 1) "rooms_from" ["ladder", "kind"] (spD K F_rooms_from) := by
  have sc : FnScope ["ladder", "kind"] ["ladder", "kind"] (defScope (top 23)) := ⟨rfl, rfl, rfl, by decide +kernel, rfl, by decide +kernel, by decide +kernel⟩
  exact dg_ok (fl := [.A, .A]) D sc (by decide) (by decide) fun f cdv A outer s H E hr => dss_one (ds_ret (c_FC_R (de_blt (call_sumL rfl) b_sum (by rfl) B.sum_ PyProof.Rows.boot_sum (db_cons rfl (c_F_P (de_sl (c_A_B (de_varA 0 rfl)) (do_part (c_FC_P (de_op op_sub b_sub (c_A_P (de_varA 1 rfl)) (c_FC_P (de_int))))) do_none)) (db_nil)))))
theorem ok_chance_at (D : Dg K mg "chance_at" (top 24) ["stays", "night", "kind", "ladder"]) (B : Bl mg) (hnights_of : Has P w K mg base n "nights_of" ["stay"] (spD K F_nights_of)) (hholds : Has P w K mg base n "holds" ["stretch", "night"] (spD K F_holds)) (hcomers_above : Has P w K mg base n "comers_above" ["rows", "rooms"] (spD K F_comers_above)) (hrooms_from : Has P w K mg base n "rooms_from" ["ladder", "kind"] (spD K F_rooms_from)) : Has P w K mg base (n + 1) "chance_at" ["stays", "night", "kind", "ladder"] (spD K F_chance_at) := by
  have sc : FnScope ["stays", "night", "kind", "ladder", "rows"] ["stays", "night", "kind", "ladder"] (defScope (top 24)) := ⟨rfl, rfl, rfl, by decide +kernel, rfl, by decide +kernel, by decide +kernel⟩
  exact dg_ok (fl := [.A, .A, .A, .A, .A]) D sc (by decide) (by decide) fun f cdv A outer s H E hr => dss_cons (ds_setCA (i := 4) (L := []) (fl' := [.A, .A, .A]) rfl sc.nd rfl rfl rfl ["stay"] ["kind", "night"] [2, 1] (di_list (c_A_B (de_varA 0 rfl))) (fun _ _ _ _ _ => dg_name (i := 0) rfl (show (["stay", "kind", "night"] : List Str).Nodup by decide +kernel) rfl (by first | exact Or.inl rfl | exact Or.inr rfl)) (fun _ _ _ _ _ => pts_one (dt_w (dw_and (dt_cmp op_ge b_ge (c_A_P (de_ix (c_A_B (de_varA 0 rfl)) (c_FC_P (de_int)) (fun _ _ => rfl))) (c_A_P (de_varA 1 rfl)) (nomark _)) (dw_and1 (dt_val (c_C_P (de_call hholds hr (db_cons rfl (c_C_P (de_call hnights_of hr (db_cons rfl (c_A_P (de_varA 0 rfl)) (db_nil)))) (db_cons rfl (c_A_P (de_varA 2 rfl)) (db_nil)))))))))) (fun _ _ _ _ _ => c_FC_C (c_flat (c_A_P (de_tup rfl (db_cons rfl (c_FC_A (de_int)) (db_cons rfl (de_ix (c_A_B (de_varA 0 rfl)) (c_FC_P (de_int)) (fun _ _ => rfl)) (db_nil))))))))
    (dss_one (ds_ret (c_C_R (de_call hcomers_above hr (db_cons rfl (c_A_P (de_varA 4 rfl)) (db_cons rfl (c_C_P (de_call hrooms_from hr (db_cons rfl (c_A_P (de_varA 3 rfl)) (db_cons rfl (c_A_P (de_varA 2 rfl)) (db_nil))))) (db_nil)))))))
theorem ok__law_cell (D : Dg K mg "_law_cell" (top 26) ["_law_script", "_law_at"]) (B : Bl mg) : Has P w K mg base (n + 1) "_law_cell" ["_law_script", "_law_at"] (spD K F__law_cell) := by
  have sc : FnScope ["_law_script", "_law_at"] ["_law_script", "_law_at"] (defScope (top 26)) := ⟨rfl, rfl, rfl, by decide +kernel, rfl, by decide +kernel, by decide +kernel⟩
  exact dg_ok (fl := [.A, .A]) D sc (by decide) (by decide) fun f cdv A outer s H E hr => dss_cons (ds_if (dt_cmp op_lt b_lt (c_A_P (de_varA 1 rfl)) (c_FC_P (de_blt call_len_seq b_len (by rfl) B.len_ PySem.boot_len (db_cons rfl (c_A_P (de_varA 0 rfl)) (db_nil)))) (nomark _)) (dss_one (ds_ret (c_FC_R (de_op op_modN b_mod (c_A_P (de_ix (c_A_B (de_varA 0 rfl)) (c_A_P (de_varA 1 rfl)) (fun _ _ => rfl))) (c_FC_P (de_int)))))) (dss_nil))
    (dss_cons (ds_if (dt_cmp (op_eqD hr.units) b_eq (c_A_P (de_varA 0 rfl)) (c_FC_P (de_lstC (db_nil))) (nomark _)) (dss_one (ds_ret (c_FC_R (de_op op_add b_add (c_FC_P (de_op op_mulG b_mul (c_FC_P (de_int)) (c_A_P (de_varA 1 rfl)))) (c_FC_P (de_int)))))) (dss_nil))
    (dss_one (ds_ret (c_FC_R (de_op op_add b_add (c_FC_P (de_op op_modN b_mod (c_A_P (de_ix (c_A_B (de_varA 0 rfl)) (c_FC_P (de_op op_modN b_mod (c_FC_P (de_op op_mulG b_mul (c_A_P (de_varA 1 rfl)) (c_FC_P (de_int)))) (c_FC_P (de_blt call_len_seq b_len (by rfl) B.len_ PySem.boot_len (db_cons rfl (c_A_P (de_varA 0 rfl)) (db_nil)))))) (fun _ _ => rfl))) (c_FC_P (de_int)))) (c_FC_P (de_op op_mulG b_mul (c_FC_P (de_int)) (c_A_P (de_varA 1 rfl)))))))))
theorem ok__law_part (D : Dg K mg "_law_part" (top 27) ["_law_script", "_law_at", "_law_k", "_law_many"]) (B : Bl mg) (h_law_cell : Has P w K mg base n "_law_cell" ["_law_script", "_law_at"] (spD K F__law_cell)) : Has P w K mg base (n + 1) "_law_part" ["_law_script", "_law_at", "_law_k", "_law_many"] (spD K F__law_part) := by
  have sc : FnScope ["_law_script", "_law_at", "_law_k", "_law_many", "_law_number", "_law_j"] ["_law_script", "_law_at", "_law_k", "_law_many"] (defScope (top 27)) := ⟨rfl, rfl, rfl, by decide +kernel, rfl, by decide +kernel, by decide +kernel⟩
  exact dg_ok (fl := [.A, .A, .A, .A, .A, .A]) D sc (by decide) (by decide) fun f cdv A outer s H E hr => dss_cons (ds_if (dt_w (dw_and (dt_cmp op_lt b_lt (c_A_P (de_varA 1 rfl)) (c_FC_P (de_blt call_len_seq b_len (by rfl) B.len_ PySem.boot_len (db_cons rfl (c_A_P (de_varA 0 rfl)) (db_nil)))) (nomark _)) (dw_and1 (dt_cmp op_ge b_ge (c_A_P (de_ix (c_A_B (de_varA 0 rfl)) (c_A_P (de_varA 1 rfl)) (fun _ _ => rfl))) (c_FC_P (de_op op_pow b_pow (c_FC_P (de_int)) (c_FC_P (de_int)))) (nomark _))))) (dss_cons (ds_setA (i := 4) rfl sc.nd rfl (by first | exact Or.inl rfl | exact Or.inr rfl) (de_ix (c_A_B (de_varA 0 rfl)) (c_A_P (de_varA 1 rfl)) (fun _ _ => rfl)))
    (dss_cons (ds_for (L := []) PassesOwn.never rfl (di_range1 (by rfl) B.range_ (da_of (db_cons rfl (c_A_P (de_varA 2 rfl)) (db_nil)))) (dg_name (i := 5) rfl sc.nd rfl (by first | exact Or.inl rfl | exact Or.inr rfl)) (dss_one (ds_setA (i := 4) rfl sc.nd rfl (by first | exact Or.inl rfl | exact Or.inr rfl) (c_FC_A (de_op op_divG b_div (c_A_P (de_varA 4 rfl)) (c_FC_P (de_int)))))))
    (dss_one (ds_if (dt_cmp op_gt b_gt (c_A_P (de_varA 4 rfl)) (c_FC_P (de_int)) (nomark _)) (dss_one (ds_ret (c_FC_R (de_op op_modN b_mod (c_FC_P (de_op op_modN b_mod (c_A_P (de_varA 4 rfl)) (c_FC_P (de_int)))) (c_A_P (de_varA 3 rfl)))))) (dss_nil))))) (dss_nil))
    (dss_cons (ds_setA (i := 4) rfl sc.nd rfl (by first | exact Or.inl rfl | exact Or.inr rfl) (c_FC_A (de_op op_modN b_mod (c_FC_P (de_op op_mulG b_mul (c_FC_P (de_op op_add b_add (c_FC_P (de_op op_add b_add (c_C_P (de_call h_law_cell hr (db_cons rfl (c_A_P (de_varA 0 rfl)) (db_cons rfl (c_A_P (de_varA 1 rfl)) (db_nil))))) (c_FC_P (de_op op_mulG b_mul (c_FC_P (de_int)) (c_A_P (de_varA 1 rfl)))))) (c_FC_P (de_int)))) (c_FC_P (de_op op_add b_add (c_FC_P (de_int)) (c_FC_P (de_op op_mulG b_mul (c_FC_P (de_int)) (c_A_P (de_varA 2 rfl)))))))) (c_FC_P (de_int)))))
    (dss_cons (ds_setA (i := 4) rfl sc.nd rfl (by first | exact Or.inl rfl | exact Or.inr rfl) (c_FC_A (de_op op_add b_add (c_FC_P (de_op op_modN b_mod (c_FC_P (de_op op_mulG b_mul (c_A_P (de_varA 4 rfl)) (c_A_P (de_varA 4 rfl)))) (c_FC_P (de_int)))) (c_FC_P (de_int)))))
    (dss_one (ds_ret (c_FC_R (de_op op_modN b_mod (c_FC_P (de_op op_divG b_div (c_FC_P (de_op op_modN b_mod (c_FC_P (de_op op_mulG b_mul (c_A_P (de_varA 4 rfl)) (c_A_P (de_varA 4 rfl)))) (c_FC_P (de_int)))) (c_FC_P (de_int)))) (c_A_P (de_varA 3 rfl))))))))
theorem ok__law_whole (D : Dg K mg "_law_whole" (top 28) ["_law_found"]) (B : Bl mg) : Has P w K mg base (n + 1) "_law_whole" ["_law_found"] (spD K F__law_whole) := by
  have sc : FnScope ["_law_found"] ["_law_found"] (defScope (top 28)) := ⟨rfl, rfl, rfl, by decide +kernel, rfl, by decide +kernel, by decide +kernel⟩
  exact dg_ok (fl := [.A]) D sc (by decide) (by decide) fun f cdv A outer s H E hr => dss_one (ds_ret (c_FC_R (de_and (c_FC_P (de_isi (T := "int") (by decide) (c_A_P (de_varA 0 rfl)) (by rfl) B.isinstance_ (by rfl) B.int_ PyProof.Rows.boot_int)) (de_one (de_not (c_FC_P (de_isi (T := "bool") (by decide) (c_A_P (de_varA 0 rfl)) (by rfl) B.isinstance_ (by rfl) B.bool_ PyProof.Rows.boot_bool)))))))
theorem ok__law_divisor (D : Dg K mg "_law_divisor" (top 29) ["_law_one", "_law_other"]) (B : Bl mg) : Has P w K mg base (n + 1) "_law_divisor" ["_law_one", "_law_other"] (spD K F__law_divisor) := by
  have sc : FnScope ["_law_one", "_law_other"] ["_law_one", "_law_other"] (defScope (top 29)) := ⟨rfl, rfl, rfl, by decide +kernel, rfl, by decide +kernel, by decide +kernel⟩
  exact dg_ok (fl := [.A, .A]) D sc (by decide) (by decide) fun f cdv A outer s H E hr => dss_cons (ds_while PassesOwn.never (dt_cmp op_gt b_gt (c_A_P (de_varA 1 rfl)) (c_FC_P (de_int)) (nomark _)) (dss_one (ds_par (i := 0) (j := 1) rfl rfl rfl sc.nd rfl rfl (by decide) (ps_par (i := 0) (j := 1) rfl sc.nd rfl rfl (by decide) rfl rfl (db_cons rfl (de_varA 1 rfl) (db_cons rfl (c_FC_A (de_op op_modN b_mod (c_A_P (de_varA 0 rfl)) (c_A_P (de_varA 1 rfl)))) (db_nil))) rfl))))
    (dss_one (ds_ret (c_FC_R (c_flat (c_A_P (de_varA 0 rfl))))))
theorem ok__law_low (D : Dg K mg "_law_low" (top 30) ["_law_top", "_law_bottom"]) (B : Bl mg) (h_law_divisor : Has P w K mg base n "_law_divisor" ["_law_one", "_law_other"] (spD K F__law_divisor)) : Has P w K mg base (n + 1) "_law_low" ["_law_top", "_law_bottom"] (spD K F__law_low) := by
  have sc : FnScope ["_law_top", "_law_bottom", "_law_by"] ["_law_top", "_law_bottom"] (defScope (top 30)) := ⟨rfl, rfl, rfl, by decide +kernel, rfl, by decide +kernel, by decide +kernel⟩
  exact dg_ok (fl := [.A, .A, .A]) D sc (by decide) (by decide) fun f cdv A outer s H E hr => dss_cons (ds_setA (i := 2) rfl sc.nd rfl (by first | exact Or.inl rfl | exact Or.inr rfl) (c_C_A (de_call h_law_divisor hr (db_cons rfl (c_A_P (de_varA 0 rfl)) (db_cons rfl (c_A_P (de_varA 1 rfl)) (db_nil))))))
    (dss_one (ds_ret (de_tup rfl (db_cons rfl (c_FC_R (de_op op_divG b_div (c_A_P (de_varA 0 rfl)) (c_A_P (de_varA 2 rfl)))) (db_cons rfl (c_FC_R (de_op op_divG b_div (c_A_P (de_varA 1 rfl)) (c_A_P (de_varA 2 rfl)))) (db_nil))))))
theorem ok__law_is_ratio (D : Dg K mg "_law_is_ratio" (top 31) ["_law_found"]) (B : Bl mg) (h_law_whole : Has P w K mg base n "_law_whole" ["_law_found"] (spD K F__law_whole)) : Has P w K mg base (n + 1) "_law_is_ratio" ["_law_found"] (spD K F__law_is_ratio) := by
  have sc : FnScope ["_law_found"] ["_law_found"] (defScope (top 31)) := ⟨rfl, rfl, rfl, by decide +kernel, rfl, by decide +kernel, by decide +kernel⟩
  exact dg_ok (fl := [.A]) D sc (by decide) (by decide) fun f cdv A outer s H E hr => dss_cons (ds_if (dt_w (dw_or (dt_not (dt_val (c_FC_P (de_isi (T := "tuple") (by decide) (c_A_P (de_varA 0 rfl)) (by rfl) B.isinstance_ (by rfl) B.tuple_ PyProof.Rows.boot_tuple)))) (dw_or1 (dt_cmp (op_neD hr.units) b_ne (c_FC_P (de_blt call_len_seq b_len (by rfl) B.len_ PySem.boot_len (db_cons rfl (c_A_P (de_varA 0 rfl)) (db_nil)))) (c_FC_P (de_int)) (nomark _))))) (dss_one (ds_ret (c_FC_R (de_bl)))) (dss_nil))
    (dss_one (ds_ret (c_C_R (de_and (c_C_P (de_call h_law_whole hr (db_cons rfl (c_A_P (de_ix (c_A_B (de_varA 0 rfl)) (c_FC_P (de_int)) (fun _ _ => rfl))) (db_nil)))) (de_one (de_call h_law_whole hr (db_cons rfl (c_A_P (de_ix (c_A_B (de_varA 0 rfl)) (c_FC_P (de_int)) (fun _ _ => rfl))) (db_nil))))))))
theorem ok__law_chance (D : Dg K mg "_law_chance" (top 32) ["_law_script", "_law_at"]) (B : Bl mg) (h_law_part : Has P w K mg base n "_law_part" ["_law_script", "_law_at", "_law_k", "_law_many"] (spD K F__law_part)) (h_law_low : Has P w K mg base n "_law_low" ["_law_top", "_law_bottom"] (spD K F__law_low)) : Has P w K mg base (n + 1) "_law_chance" ["_law_script", "_law_at"] (spD K F__law_chance) := by
  have sc : FnScope ["_law_script", "_law_at", "_law_way", "_law_bottom"] ["_law_script", "_law_at"] (defScope (top 32)) := ⟨rfl, rfl, rfl, by decide +kernel, rfl, by decide +kernel, by decide +kernel⟩
  exact dg_ok (fl := [.A, .A, .A, .A]) D sc (by decide) (by decide) fun f cdv A outer s H E hr => dss_cons (ds_setA (i := 2) rfl sc.nd rfl (by first | exact Or.inl rfl | exact Or.inr rfl) (c_C_A (de_call h_law_part hr (db_cons rfl (c_A_P (de_varA 0 rfl)) (db_cons rfl (c_A_P (de_varA 1 rfl)) (db_cons rfl (c_FC_P (de_int)) (db_cons rfl (c_FC_P (de_int)) (db_nil))))))))
    (dss_cons (ds_if (dt_cmp op_lt b_lt (c_A_P (de_varA 2 rfl)) (c_FC_P (de_int)) (nomark _)) (dss_one (ds_ret (de_tup rfl (db_cons rfl (c_FC_R (c_flat (c_A_P (de_varA 2 rfl)))) (db_cons rfl (c_FC_R (de_int)) (db_nil)))))) (dss_nil))
    (dss_cons (ds_setA (i := 3) rfl sc.nd rfl (by first | exact Or.inl rfl | exact Or.inr rfl) (c_FC_A (de_op op_add b_add (c_FC_P (de_int)) (c_C_P (de_call h_law_part hr (db_cons rfl (c_A_P (de_varA 0 rfl)) (db_cons rfl (c_A_P (de_varA 1 rfl)) (db_cons rfl (c_FC_P (de_int)) (db_cons rfl (c_A_P (de_ix (c_A_B (c_FC_A (de_lstC (db_cons rfl (c_FC_C (de_int)) (db_cons rfl (c_FC_C (de_int)) (db_cons rfl (c_FC_C (de_int)) (db_nil))))))) (c_FC_P (de_op op_modN b_mod (c_A_P (de_varA 2 rfl)) (c_FC_P (de_int)))) (fun _ _ => rfl))) (db_nil))))))))))
    (dss_one (ds_ret (c_C_R (de_call h_law_low hr (db_cons rfl (c_C_P (de_call h_law_part hr (db_cons rfl (c_A_P (de_varA 0 rfl)) (db_cons rfl (c_A_P (de_varA 1 rfl)) (db_cons rfl (c_FC_P (de_int)) (db_cons rfl (c_FC_P (de_op op_add b_add (c_A_P (de_varA 3 rfl)) (c_FC_P (de_int)))) (db_nil))))))) (db_cons rfl (c_A_P (de_varA 3 rfl)) (db_nil)))))))))
theorem ok__law_ladder (D : Dg K mg "_law_ladder" (top 33) ["_law_script", "_law_at"]) (B : Bl mg) (h_law_part : Has P w K mg base n "_law_part" ["_law_script", "_law_at", "_law_k", "_law_many"] (spD K F__law_part)) : Has P w K mg base (n + 1) "_law_ladder" ["_law_script", "_law_at"] (spD K F__law_ladder) := by
  have sc : FnScope ["_law_script", "_law_at", "_law_ladder_here", "_law_room", "_law_menu", "_law_k"] ["_law_script", "_law_at"] (defScope (top 33)) := ⟨rfl, rfl, rfl, by decide +kernel, rfl, by decide +kernel, by decide +kernel⟩
  exact dg_ok (fl := [.A, .A, .O, .A, .A, .A]) D sc (by decide) (by decide) fun f cdv A outer s H E hr => dss_cons (ds_setO (i := 2) rfl sc.nd rfl (by first | exact Or.inl rfl | exact Or.inr rfl) (c_FC_F (de_lstC (db_nil))))
    (dss_cons (ds_setA (i := 3) rfl sc.nd rfl (by first | exact Or.inl rfl | exact Or.inr rfl) (c_FC_A (de_int)))
    (dss_cons (ds_setA (i := 4) rfl sc.nd rfl (by first | exact Or.inl rfl | exact Or.inr rfl) (de_ix (c_A_B (c_FC_A (de_lstC (db_cons rfl (c_FC_C (de_lstC (db_cons rfl (c_FC_C (de_int)) (db_cons rfl (c_FC_C (de_int)) (db_cons rfl (c_FC_C (de_int)) (db_cons rfl (c_FC_C (de_int)) (db_cons rfl (c_FC_C (de_int)) (db_cons rfl (c_FC_C (de_int)) (db_nil))))))))) (db_cons rfl (c_FC_C (de_lstC (db_cons rfl (c_FC_C (de_int)) (db_cons rfl (c_FC_C (de_int)) (db_cons rfl (c_FC_C (de_int)) (db_cons rfl (c_FC_C (de_int)) (db_cons rfl (c_FC_C (de_int)) (db_cons rfl (c_FC_C (de_int)) (db_nil))))))))) (db_nil)))))) (c_FC_P (de_intc (db_cons rfl (c_FC_P (de_cmp (op_eqD hr.units) b_eq (c_C_P (de_call h_law_part hr (db_cons rfl (c_A_P (de_varA 0 rfl)) (db_cons rfl (c_A_P (de_varA 1 rfl)) (db_cons rfl (c_FC_P (de_int)) (db_cons rfl (c_FC_P (de_int)) (db_nil))))))) (c_FC_P (de_int)) (nomark _))) (db_nil)) (by rfl) B.int_)) (fun _ _ => rfl)))
    (dss_cons (ds_for (L := []) PassesOwn.never rfl (di_range1 (by rfl) B.range_ (da_of (db_cons rfl (c_FC_P (de_op op_add b_add (c_FC_P (de_int)) (c_C_P (de_call h_law_part hr (db_cons rfl (c_A_P (de_varA 0 rfl)) (db_cons rfl (c_A_P (de_varA 1 rfl)) (db_cons rfl (c_FC_P (de_int)) (db_cons rfl (c_FC_P (de_int)) (db_nil))))))))) (db_nil)))) (dg_name (i := 5) rfl sc.nd rfl (by first | exact Or.inl rfl | exact Or.inr rfl)) (dss_cons (ds_append (i := 2) rfl (c_FC_A (de_blt (call_min2 rfl) b_min2 (by rfl) B.min_ PyProof.Rows.boot_min (db_cons rfl (c_A_P (de_varA 3 rfl)) (db_cons rfl (c_A_P (de_ix (c_A_B (de_varA 4 rfl)) (c_C_P (de_call h_law_part hr (db_cons rfl (c_A_P (de_varA 0 rfl)) (db_cons rfl (c_A_P (de_varA 1 rfl)) (db_cons rfl (c_FC_P (de_op op_add b_add (c_FC_P (de_int)) (c_A_P (de_varA 5 rfl)))) (db_cons rfl (c_FC_P (de_int)) (db_nil))))))) (fun _ _ => rfl))) (db_nil))))) rfl)
    (dss_one (ds_setA (i := 3) rfl sc.nd rfl (by first | exact Or.inl rfl | exact Or.inr rfl) (c_FC_A (de_op op_sub b_sub (c_A_P (de_varA 3 rfl)) (c_A_P (de_ix (de_var 2) (c_FC_P (de_neg (c_FC_P (de_int)))) (fun _ _ => rfl)))))))))
    (dss_one (ds_ret (de_varR 2 (by decide)))))))
theorem ok__law_base (D : Dg K mg "_law_base" (top 34) ["_law_script", "_law_at"]) (B : Bl mg) (h_law_part : Has P w K mg base n "_law_part" ["_law_script", "_law_at", "_law_k", "_law_many"] (spD K F__law_part)) : Has P w K mg base (n + 1) "_law_base" ["_law_script", "_law_at"] (spD K F__law_base) := by
  have sc : FnScope ["_law_script", "_law_at"] ["_law_script", "_law_at"] (defScope (top 34)) := ⟨rfl, rfl, rfl, by decide +kernel, rfl, by decide +kernel, by decide +kernel⟩
  exact dg_ok (fl := [.A, .A]) D sc (by decide) (by decide) fun f cdv A outer s H E hr => dss_cons (ds_if (dt_cmp (op_eqD hr.units) b_eq (c_C_P (de_call h_law_part hr (db_cons rfl (c_A_P (de_varA 0 rfl)) (db_cons rfl (c_A_P (de_varA 1 rfl)) (db_cons rfl (c_FC_P (de_int)) (db_cons rfl (c_FC_P (de_int)) (db_nil))))))) (c_FC_P (de_int)) (nomark _)) (dss_one (ds_ret (de_tup rfl (db_cons rfl (c_C_R (de_call h_law_part hr (db_cons rfl (c_A_P (de_varA 0 rfl)) (db_cons rfl (c_A_P (de_varA 1 rfl)) (db_cons rfl (c_FC_P (de_int)) (db_cons rfl (c_FC_P (de_int)) (db_nil))))))) (db_cons rfl (c_FC_R (de_int)) (db_cons rfl (c_FC_R (de_int)) (db_nil))))))) (dss_nil))
    (dss_one (ds_ret (de_tup rfl (db_cons rfl (c_FC_R (c_flat (c_A_P (de_ix (c_A_B (c_FC_A (de_lstC (db_cons rfl (c_FC_C (de_int)) (db_cons rfl (c_FC_C (de_int)) (db_cons rfl (de_call h_law_part hr (db_cons rfl (c_A_P (de_varA 0 rfl)) (db_cons rfl (c_A_P (de_varA 1 rfl)) (db_cons rfl (c_FC_P (de_int)) (db_cons rfl (c_FC_P (de_int)) (db_nil)))))) (db_nil))))))) (c_C_P (de_call h_law_part hr (db_cons rfl (c_A_P (de_varA 0 rfl)) (db_cons rfl (c_A_P (de_varA 1 rfl)) (db_cons rfl (c_FC_P (de_int)) (db_cons rfl (c_FC_P (de_int)) (db_nil))))))) (fun _ _ => rfl))))) (db_cons rfl (c_FC_R (de_int)) (db_cons rfl (c_FC_R (de_int)) (db_nil)))))))
theorem ok__law_stay (D : Dg K mg "_law_stay" (top 35) ["_law_script", "_law_at", "_law_base_here", "_law_kinds"]) (B : Bl mg) (h_law_part : Has P w K mg base n "_law_part" ["_law_script", "_law_at", "_law_k", "_law_many"] (spD K F__law_part)) (h_law_chance : Has P w K mg base n "_law_chance" ["_law_script", "_law_at"] (spD K F__law_chance)) : Has P w K mg base (n + 1) "_law_stay" ["_law_script", "_law_at", "_law_base_here", "_law_kinds"] (spD K F__law_stay) := by
  have sc : FnScope ["_law_script", "_law_at", "_law_base_here", "_law_kinds", "_law_first", "_law_behind"] ["_law_script", "_law_at", "_law_base_here", "_law_kinds"] (defScope (top 35)) := ⟨rfl, rfl, rfl, by decide +kernel, rfl, by decide +kernel, by decide +kernel⟩
  exact dg_ok (fl := [.A, .A, .A, .A, .A, .A]) D sc (by decide) (by decide) fun f cdv A outer s H E hr => dss_cons (ds_setA (i := 4) rfl sc.nd rfl (by first | exact Or.inl rfl | exact Or.inr rfl) (c_FC_A (de_op op_add b_add (c_A_P (de_ix (c_A_B (de_varA 2 rfl)) (c_FC_P (de_int)) (fun _ _ => rfl))) (c_C_P (de_call h_law_part hr (db_cons rfl (c_A_P (de_varA 0 rfl)) (db_cons rfl (c_A_P (de_varA 1 rfl)) (db_cons rfl (c_FC_P (de_int)) (db_cons rfl (c_A_P (de_ix (c_A_B (de_varA 2 rfl)) (c_FC_P (de_int)) (fun _ _ => rfl))) (db_nil))))))))))
    (dss_cons (ds_setA (i := 5) rfl sc.nd rfl (by first | exact Or.inl rfl | exact Or.inr rfl) (c_FC_A (de_op op_add b_add (c_FC_P (de_op op_add b_add (c_A_P (de_varA 4 rfl)) (c_FC_P (de_int)))) (c_C_P (de_call h_law_part hr (db_cons rfl (c_A_P (de_varA 0 rfl)) (db_cons rfl (c_A_P (de_varA 1 rfl)) (db_cons rfl (c_FC_P (de_int)) (db_cons rfl (c_A_P (de_ix (c_A_B (de_varA 2 rfl)) (c_FC_P (de_int)) (fun _ _ => rfl))) (db_nil))))))))))
    (dss_one (ds_ret (de_tup rfl (db_cons rfl (c_FC_R (c_flat (c_A_P (de_varA 4 rfl)))) (db_cons rfl (c_FC_R (c_flat (c_A_P (de_varA 5 rfl)))) (db_cons rfl (c_FC_R (de_op op_add b_add (c_FC_P (de_int)) (c_C_P (de_call h_law_part hr (db_cons rfl (c_A_P (de_varA 0 rfl)) (db_cons rfl (c_A_P (de_varA 1 rfl)) (db_cons rfl (c_FC_P (de_int)) (db_cons rfl (c_A_P (de_varA 3 rfl)) (db_nil))))))))) (db_cons rfl (c_C_R (de_call h_law_chance hr (db_cons rfl (c_A_P (de_varA 0 rfl)) (db_cons rfl (c_A_P (de_varA 1 rfl)) (db_nil))))) (db_nil)))))))))
theorem ok__law_chance_at (D : Dg K mg "_law_chance_at" (top 36) ["_law_stays", "_law_night", "_law_kind", "_law_ladder_here"]) (B : Bl mg) (h_law_low : Has P w K mg base n "_law_low" ["_law_top", "_law_bottom"] (spD K F__law_low)) : Has P w K mg base (n + 1) "_law_chance_at" ["_law_stays", "_law_night", "_law_kind", "_law_ladder_here"] (spD K F__law_chance_at) := by
  have sc : FnScope ["_law_stays", "_law_night", "_law_kind", "_law_ladder_here", "_law_tops", "_law_bottom", "_law_first", "_law_behind", "_law_wished", "_law_chance_here", "_law_comes", "_law_stay_here", "_law_rooms"] ["_law_stays", "_law_night", "_law_kind", "_law_ladder_here"] (defScope (top 36)) := ⟨rfl, rfl, rfl, by decide +kernel, rfl, by decide +kernel, by decide +kernel⟩
  exact dg_ok (fl := [.A, .A, .A, .A, .A, .A, .A, .A, .A, .A, .A, .A, .A]) D sc (by decide) (by decide) fun f cdv A outer s H E hr => dss_cons (ds_setA (i := 4) rfl sc.nd rfl (by first | exact Or.inl rfl | exact Or.inr rfl) (c_FC_A (de_lstC (db_cons rfl (c_FC_C (de_int)) (db_nil)))))
    (dss_cons (ds_setA (i := 5) rfl sc.nd rfl (by first | exact Or.inl rfl | exact Or.inr rfl) (c_FC_A (de_int)))
    (dss_cons (ds_for (L := []) PassesOwn.never rfl (di_list (c_A_B (de_varA 0 rfl))) (dg_tup rfl (dgs_cons (dg_name (i := 6) rfl sc.nd rfl (by first | exact Or.inl rfl | exact Or.inr rfl)) (dgs_cons (dg_name (i := 7) rfl sc.nd rfl (by first | exact Or.inl rfl | exact Or.inr rfl)) (dgs_cons (dg_name (i := 8) rfl sc.nd rfl (by first | exact Or.inl rfl | exact Or.inr rfl)) (dgs_cons (dg_name (i := 9) rfl sc.nd rfl (by first | exact Or.inl rfl | exact Or.inr rfl)) (dgs_nil)))))) (dss_one (ds_if (dt_w (dw_and (dt_cmp op_le b_le (c_A_P (de_varA 6 rfl)) (c_A_P (de_varA 1 rfl)) (nomark _)) (dw_and (dt_cmp op_lt b_lt (c_A_P (de_varA 1 rfl)) (c_A_P (de_varA 7 rfl)) (nomark _)) (dw_and1 (dt_cmp op_le b_le (c_A_P (de_varA 2 rfl)) (c_A_P (de_varA 8 rfl)) (nomark _)))))) (dss_cons (ds_setA (i := 10) rfl sc.nd rfl (by first | exact Or.inl rfl | exact Or.inr rfl) (c_F_A (de_cat (c_A_B (c_FC_A (de_lstC (db_cons rfl (c_FC_C (de_int)) (db_nil))))) (c_A_B (c_FC_A (de_comp (L := []) (fl' := [.A, .A]) rfl ["_law_top"] ["_law_chance_here"] [9] (di_list (c_A_B (de_varA 4 rfl))) (fun _ _ _ _ _ => dg_name (i := 0) rfl (show (["_law_top", "_law_chance_here"] : List Str).Nodup by decide +kernel) rfl (by first | exact Or.inl rfl | exact Or.inr rfl)) (fun _ _ _ _ _ => pts_yes) (fun _ _ _ _ _ => c_FC_C (de_op op_mulG b_mul (c_A_P (de_varA 0 rfl)) (c_A_P (de_ix (c_A_B (de_varA 1 rfl)) (c_FC_P (de_int)) (fun _ _ => rfl)))))))))))
    (dss_cons (ds_setA (i := 11) rfl sc.nd rfl (by first | exact Or.inl rfl | exact Or.inr rfl) (c_F_A (de_cat (c_A_B (c_FC_A (de_comp (L := []) (fl' := [.A, .A]) rfl ["_law_top"] ["_law_chance_here"] [9] (di_list (c_A_B (de_varA 4 rfl))) (fun _ _ _ _ _ => dg_name (i := 0) rfl (show (["_law_top", "_law_chance_here"] : List Str).Nodup by decide +kernel) rfl (by first | exact Or.inl rfl | exact Or.inr rfl)) (fun _ _ _ _ _ => pts_yes) (fun _ _ _ _ _ => c_FC_C (de_op op_mulG b_mul (c_A_P (de_varA 0 rfl)) (c_FC_P (de_op op_sub b_sub (c_A_P (de_ix (c_A_B (de_varA 1 rfl)) (c_FC_P (de_int)) (fun _ _ => rfl))) (c_A_P (de_ix (c_A_B (de_varA 1 rfl)) (c_FC_P (de_int)) (fun _ _ => rfl)))))))))) (c_A_B (c_FC_A (de_lstC (db_cons rfl (c_FC_C (de_int)) (db_nil))))))))
    (dss_cons (ds_setA (i := 4) rfl sc.nd rfl (by first | exact Or.inl rfl | exact Or.inr rfl) (c_FC_A (de_comp (L := []) (fl' := [.A, .A, .A]) rfl ["_law_k"] ["_law_comes", "_law_stay_here"] [10, 11] (di_range1 (by rfl) B.range_ (da_of (db_cons rfl (c_FC_P (de_blt call_len_seq b_len (by rfl) B.len_ PySem.boot_len (db_cons rfl (c_A_P (de_varA 10 rfl)) (db_nil)))) (db_nil)))) (fun _ _ _ _ _ => dg_name (i := 0) rfl (show (["_law_k", "_law_comes", "_law_stay_here"] : List Str).Nodup by decide +kernel) rfl (by first | exact Or.inl rfl | exact Or.inr rfl)) (fun _ _ _ _ _ => pts_yes) (fun _ _ _ _ _ => c_FC_C (de_op op_add b_add (c_A_P (de_ix (c_A_B (de_varA 1 rfl)) (c_A_P (de_varA 0 rfl)) (fun _ _ => rfl))) (c_A_P (de_ix (c_A_B (de_varA 2 rfl)) (c_A_P (de_varA 0 rfl)) (fun _ _ => rfl))))))))
    (dss_one (ds_setA (i := 5) rfl sc.nd rfl (by first | exact Or.inl rfl | exact Or.inr rfl) (c_FC_A (de_op op_mulG b_mul (c_A_P (de_varA 5 rfl)) (c_A_P (de_ix (c_A_B (de_varA 9 rfl)) (c_FC_P (de_int)) (fun _ _ => rfl)))))))))) (dss_nil))))
    (dss_cons (ds_setA (i := 12) rfl sc.nd rfl (by first | exact Or.inl rfl | exact Or.inr rfl) (c_FC_A (de_blt (call_sumL rfl) b_sum (by rfl) B.sum_ PyProof.Rows.boot_sum (db_cons rfl (c_FC_P (de_comp (L := []) (fl' := [.A, .A, .A]) rfl ["_law_k"] ["_law_ladder_here", "_law_kind"] [3, 2] (di_range1 (by rfl) B.range_ (da_of (db_cons rfl (c_FC_P (de_blt call_len_seq b_len (by rfl) B.len_ PySem.boot_len (db_cons rfl (c_A_P (de_varA 3 rfl)) (db_nil)))) (db_nil)))) (fun _ _ _ _ _ => dg_name (i := 0) rfl (show (["_law_k", "_law_ladder_here", "_law_kind"] : List Str).Nodup by decide +kernel) rfl (by first | exact Or.inl rfl | exact Or.inr rfl)) (fun _ _ _ _ _ => pts_one (dt_cmp op_ge b_ge (c_FC_P (de_op op_add b_add (c_A_P (de_varA 0 rfl)) (c_FC_P (de_int)))) (c_A_P (de_varA 2 rfl)) (nomark _))) (fun _ _ _ _ _ => c_FC_C (c_flat (c_A_P (de_ix (c_A_B (de_varA 1 rfl)) (c_A_P (de_varA 0 rfl)) (fun _ _ => rfl))))))) (db_nil)))))
    (dss_one (ds_ret (c_C_R (de_call h_law_low hr (db_cons rfl (c_FC_P (de_blt (call_sumL rfl) b_sum (by rfl) B.sum_ PyProof.Rows.boot_sum (db_cons rfl (c_FC_P (de_comp (L := []) (fl' := [.A, .A, .A]) rfl ["_law_k"] ["_law_tops", "_law_rooms"] [4, 12] (di_range1 (by rfl) B.range_ (da_of (db_cons rfl (c_FC_P (de_blt call_len_seq b_len (by rfl) B.len_ PySem.boot_len (db_cons rfl (c_A_P (de_varA 4 rfl)) (db_nil)))) (db_nil)))) (fun _ _ _ _ _ => dg_name (i := 0) rfl (show (["_law_k", "_law_tops", "_law_rooms"] : List Str).Nodup by decide +kernel) rfl (by first | exact Or.inl rfl | exact Or.inr rfl)) (fun _ _ _ _ _ => pts_one (dt_cmp op_gt b_gt (c_A_P (de_varA 0 rfl)) (c_A_P (de_varA 2 rfl)) (nomark _))) (fun _ _ _ _ _ => c_FC_C (c_flat (c_A_P (de_ix (c_A_B (de_varA 1 rfl)) (c_A_P (de_varA 0 rfl)) (fun _ _ => rfl))))))) (db_nil)))) (db_cons rfl (c_A_P (de_varA 5 rfl)) (db_nil))))))))))
theorem ok__law_odd (D : Dg K mg "_law_odd" (top 37) ["_law_script", "_law_ladder_here"]) (B : Bl mg) (h_law_part : Has P w K mg base n "_law_part" ["_law_script", "_law_at", "_law_k", "_law_many"] (spD K F__law_part)) : Has P w K mg base (n + 1) "_law_odd" ["_law_script", "_law_ladder_here"] (spL K F__law_odd) := by
  have sc : FnScope ["_law_script", "_law_ladder_here", "_law_at", "_law_bad", "_law_spoilt", "_law_others"] ["_law_script", "_law_ladder_here"] (defScope (top 37)) := ⟨rfl, rfl, rfl, by decide +kernel, rfl, by decide +kernel, by decide +kernel⟩
  exact dg_okL (fl := [.A, .A, .A, .A, .A, .A]) D sc (by decide) (by decide) fun f cdv A outer s H E hr => dss_cons (ds_setA (i := 2) rfl sc.nd rfl (by first | exact Or.inl rfl | exact Or.inr rfl) (c_C_A (de_call h_law_part hr (db_cons rfl (c_A_P (de_varA 0 rfl)) (db_cons rfl (c_FC_P (de_int)) (db_cons rfl (c_FC_P (de_int)) (db_cons rfl (c_FC_P (de_blt call_len_seq b_len (by rfl) B.len_ PySem.boot_len (db_cons rfl (c_A_P (de_varA 1 rfl)) (db_nil)))) (db_nil))))))))
    (dss_cons (ds_setA (i := 3) rfl sc.nd rfl (by first | exact Or.inl rfl | exact Or.inr rfl) (de_ix (c_A_B (c_FC_A (de_lstC (db_cons rfl (c_FC_C (de_neg (c_FC_P (de_int)))) (db_cons rfl (c_FC_C (de_non)) (db_cons rfl (c_FC_C (de_bl)) (db_cons rfl (c_FC_C (de_bl)) (db_cons rfl (de_tup rfl (db_cons rfl (c_FC_C (de_int)) (db_cons rfl (c_FC_C (de_int)) (db_nil)))) (db_cons rfl (c_FC_C (de_str)) (db_cons rfl (c_FC_C (de_int)) (db_cons rfl (c_FC_C (de_lstC (db_cons rfl (c_FC_C (de_int)) (db_nil)))) (db_nil)))))))))))) (c_C_P (de_call h_law_part hr (db_cons rfl (c_A_P (de_varA 0 rfl)) (db_cons rfl (c_FC_P (de_int)) (db_cons rfl (c_FC_P (de_int)) (db_cons rfl (c_FC_P (de_int)) (db_nil))))))) (fun _ _ => rfl)))
    (dss_cons (ds_setA (i := 4) rfl sc.nd rfl (by first | exact Or.inl rfl | exact Or.inr rfl) (c_F_A (de_cat (c_A_B (c_F_A (de_cat (c_A_B (c_F_A (de_sl (c_A_B (de_varA 1 rfl)) do_none (do_part (c_A_P (de_varA 2 rfl)))))) (c_A_B (c_F_A (de_lstA (db_cons rfl (de_varA 3 rfl) (db_nil)))))))) (c_A_B (c_F_A (de_sl (c_A_B (de_varA 1 rfl)) (do_part (c_FC_P (de_op op_add b_add (c_A_P (de_varA 2 rfl)) (c_FC_P (de_int))))) do_none))))))
    (dss_cons (ds_setA (i := 5) rfl sc.nd rfl (by first | exact Or.inl rfl | exact Or.inr rfl) (c_F_A (de_lstA (db_cons rfl (de_varA 4 rfl) (db_cons rfl (c_FC_A (de_lstC (db_nil))) (db_cons rfl (c_FC_A (de_lstC (db_cons rfl (c_FC_C (de_int)) (db_cons rfl (c_FC_C (de_int)) (db_cons rfl (c_FC_C (de_int)) (db_cons rfl (c_FC_C (de_int)) (db_cons rfl (c_FC_C (de_int)) (db_nil)))))))) (db_cons rfl (c_FC_A (de_lstC (db_cons rfl (c_FC_C (de_int)) (db_cons rfl (c_FC_C (de_int)) (db_cons rfl (c_FC_C (de_int)) (db_nil)))))) (db_cons rfl (de_tupL (c_A_B (de_varA 1 rfl)) (by rfl) B.tuple_) (db_cons rfl (c_FC_A (de_non)) (db_cons rfl (c_FC_A (de_int)) (db_cons rfl (c_FC_A (de_str)) (db_nil))))))))))))
    (dss_one (ds_retL (c_F_P (de_cat (c_A_B (de_varA 5 rfl)) (c_A_B (c_F_A (de_lstA (db_cons rfl (c_C_A (c_T_C (de_dicK))) (db_cons rfl (c_F_A (de_cat (c_A_B (de_varA 1 rfl)) (c_A_B (c_FC_A (de_lstC (db_cons rfl (c_FC_C (de_op op_sub b_sub (c_FC_P (de_int)) (c_FC_P (de_blt (call_sumL rfl) b_sum (by rfl) B.sum_ PyProof.Rows.boot_sum (db_cons rfl (c_A_P (de_varA 1 rfl)) (db_nil)))))) (db_nil))))))) (db_cons rfl (c_FC_A (de_lstC (db_cons rfl (c_FC_C (de_int)) (db_cons rfl (c_FC_C (de_int)) (db_cons rfl (c_FC_C (de_int)) (db_cons rfl (c_FC_C (de_int)) (db_cons rfl (c_FC_C (de_int)) (db_nil)))))))) (db_cons rfl (c_FC_A (de_lstC (db_cons rfl (c_FC_C (de_int)) (db_cons rfl (c_FC_C (de_int)) (db_cons rfl (c_FC_C (de_int)) (db_cons rfl (c_FC_C (de_int)) (db_nil))))))) (db_cons rfl (c_FC_A (de_lstC (db_cons rfl (c_FC_C (de_int)) (db_nil)))) (db_nil))))))))))))))))
theorem ok__law_is (D : Dg K mg "_law_is" (top 38) ["_law_found", "_law_due"]) (B : Bl mg) : Has P w K mg base (n + 1) "_law_is" ["_law_found", "_law_due"] (spD K F__law_is) := by
  have sc : FnScope ["_law_found", "_law_due"] ["_law_found", "_law_due"] (defScope (top 38)) := ⟨rfl, rfl, rfl, by decide +kernel, rfl, by decide +kernel, by decide +kernel⟩
  exact dg_ok (fl := [.A, .A]) D sc (by decide) (by decide) fun f cdv A outer s H E hr => dss_one (ds_ret (c_FC_R (de_and (c_FC_P (de_isi (T := "bool") (by decide) (c_A_P (de_varA 0 rfl)) (by rfl) B.isinstance_ (by rfl) B.bool_ PyProof.Rows.boot_bool)) (de_one (de_cmp (op_eqD hr.units) b_eq (c_A_P (de_varA 0 rfl)) (c_A_P (de_varA 1 rfl)) (nomark _))))))
theorem fn_law {f : Addr} {fd : FuncData} (Fn : FunD K "law" (top 39) f fd) (B : Bl mg) (his_ladder : Has P w K mg base n "is_ladder" ["thing"] (spD K F_is_ladder)) (hrooms_from : Has P w K mg base n "rooms_from" ["ladder", "kind"] (spD K F_rooms_from)) (hchance_at : Has P w K mg base n "chance_at" ["stays", "night", "kind", "ladder"] (spD K F_chance_at)) (h_law_part : Has P w K mg base n "_law_part" ["_law_script", "_law_at", "_law_k", "_law_many"] (spD K F__law_part)) (h_law_whole : Has P w K mg base n "_law_whole" ["_law_found"] (spD K F__law_whole)) (h_law_is_ratio : Has P w K mg base n "_law_is_ratio" ["_law_found"] (spD K F__law_is_ratio)) (h_law_ladder : Has P w K mg base n "_law_ladder" ["_law_script", "_law_at"] (spD K F__law_ladder)) (h_law_base : Has P w K mg base n "_law_base" ["_law_script", "_law_at"] (spD K F__law_base)) (h_law_stay : Has P w K mg base n "_law_stay" ["_law_script", "_law_at", "_law_base_here", "_law_kinds"] (spD K F__law_stay)) (h_law_chance_at : Has P w K mg base n "_law_chance_at" ["_law_stays", "_law_night", "_law_kind", "_law_ladder_here"] (spD K F__law_chance_at)) (h_law_odd : Has P w K mg base n "_law_odd" ["_law_script", "_law_ladder_here"] (spL K F__law_odd)) (h_law_is : Has P w K mg base n "_law_is" ["_law_found", "_law_due"] (spD K F__law_is)) : FnOk P w K mg base CX0 (n + 1) f fd ["_law_script"] (spD K F_law) := by
  have sc : FnScope ["_law_script", "_law_ladder_here", "_law_base_here", "_law_many", "_law_stays", "_law_handed", "_law_night", "_law_kind", "_law_rooms", "_law_found", "_law_thing"] ["_law_script"] (defScope (top 39)) := ⟨rfl, rfl, rfl, by decide +kernel, rfl, by decide +kernel, by decide +kernel⟩
  exact fun_ok (fl := [.A, .A, .A, .A, .A, .N, .A, .A, .A, .A, .A]) Fn sc (by decide) (by decide) fun f cdv A outer s H E hr => dss_cons (ds_setA (i := 1) rfl sc.nd rfl (by first | exact Or.inl rfl | exact Or.inr rfl) (c_C_A (de_call h_law_ladder hr (db_cons rfl (c_A_P (de_varA 0 rfl)) (db_cons rfl (c_FC_P (de_int)) (db_nil))))))
    (dss_cons (ds_setA (i := 2) rfl sc.nd rfl (by first | exact Or.inl rfl | exact Or.inr rfl) (c_C_A (de_call h_law_base hr (db_cons rfl (c_A_P (de_varA 0 rfl)) (db_cons rfl (c_FC_P (de_int)) (db_nil))))))
    (dss_cons (ds_setA (i := 3) rfl sc.nd rfl (by first | exact Or.inl rfl | exact Or.inr rfl) (c_C_A (de_call h_law_part hr (db_cons rfl (c_A_P (de_varA 0 rfl)) (db_cons rfl (c_FC_P (de_int)) (db_cons rfl (c_FC_P (de_int)) (db_cons rfl (c_FC_P (de_int)) (db_nil))))))))
    (dss_cons (ds_if (dt_cmp (op_eqD hr.units) b_eq (c_C_P (de_call h_law_part hr (db_cons rfl (c_A_P (de_varA 0 rfl)) (db_cons rfl (c_FC_P (de_int)) (db_cons rfl (c_FC_P (de_int)) (db_cons rfl (c_FC_P (de_int)) (db_nil))))))) (c_FC_P (de_int)) (nomark _)) (dss_one (ds_setA (i := 3) rfl sc.nd rfl (by first | exact Or.inl rfl | exact Or.inr rfl) (c_FC_A (de_int)))) (dss_nil))
    (dss_cons (ds_setCA (i := 4) (L := []) (fl' := [.A, .A, .A, .A]) rfl sc.nd rfl rfl rfl ["_law_k"] ["_law_script", "_law_base_here", "_law_ladder_here"] [0, 2, 1] (di_range1 (by rfl) B.range_ (da_of (db_cons rfl (c_A_P (de_varA 3 rfl)) (db_nil)))) (fun _ _ _ _ _ => dg_name (i := 0) rfl (show (["_law_k", "_law_script", "_law_base_here", "_law_ladder_here"] : List Str).Nodup by decide +kernel) rfl (by first | exact Or.inl rfl | exact Or.inr rfl)) (fun _ _ _ _ _ => pts_yes) (fun _ _ _ _ _ => de_call h_law_stay hr (db_cons rfl (c_A_P (de_varA 1 rfl)) (db_cons rfl (c_FC_P (de_op op_add b_add (c_FC_P (de_int)) (c_A_P (de_varA 0 rfl)))) (db_cons rfl (c_A_P (de_varA 2 rfl)) (db_cons rfl (c_FC_P (de_blt call_len_seq b_len (by rfl) B.len_ PySem.boot_len (db_cons rfl (c_A_P (de_varA 3 rfl)) (db_nil)))) (db_nil)))))))
    (dss_cons (ds_setN (i := 5) rfl sc.nd rfl (by first | exact Or.inl rfl | exact Or.inr rfl) (de_lstT (dbT_cons (c_C_T (c_FC_C (c_Ffl1 (de_list (c_A_B (de_varA 4 rfl)) (by rfl) B.list_)))) (dbT_cons (c_C_T (c_FC_C (c_Ffl1 (de_list (c_A_B (de_varA 1 rfl)) (by rfl) B.list_)))) (dbT_nil)))))
    (dss_cons (ds_for (L := []) PassesOwn.never rfl (di_list (c_A_B (c_FC_A (de_lstC (db_cons rfl (c_FC_C (de_op op_add b_add (c_A_P (de_ix (c_A_B (de_varA 2 rfl)) (c_FC_P (de_int)) (fun _ _ => rfl))) (c_C_P (de_call h_law_part hr (db_cons rfl (c_A_P (de_varA 0 rfl)) (db_cons rfl (c_FC_P (de_int)) (db_cons rfl (c_FC_P (de_int)) (db_cons rfl (c_FC_P (de_op op_add b_add (c_A_P (de_ix (c_A_B (de_varA 2 rfl)) (c_FC_P (de_int)) (fun _ _ => rfl))) (c_FC_P (de_int)))) (db_nil))))))))) (db_cons rfl (c_FC_C (de_op op_add b_add (c_A_P (de_ix (c_A_B (de_varA 2 rfl)) (c_FC_P (de_int)) (fun _ _ => rfl))) (c_FC_P (de_int)))) (db_nil))))))) (dg_name (i := 6) rfl sc.nd rfl (by first | exact Or.inl rfl | exact Or.inr rfl)) (dss_one (ds_for (L := []) PassesOwn.never rfl (di_range2 (by rfl) B.range_ (da_of (db_cons rfl (c_FC_P (de_int)) (db_cons rfl (c_FC_P (de_op op_add b_add (c_FC_P (de_blt call_len_seq b_len (by rfl) B.len_ PySem.boot_len (db_cons rfl (c_A_P (de_varA 1 rfl)) (db_nil)))) (c_FC_P (de_int)))) (db_nil))))) (dg_name (i := 7) rfl sc.nd rfl (by first | exact Or.inl rfl | exact Or.inr rfl)) (dss_cons (ds_setA (i := 8) rfl sc.nd rfl (by first | exact Or.inl rfl | exact Or.inr rfl) (c_C_A (de_call hrooms_from hr (db_cons rfl (de_ixK rfl (de_varP 5 rfl) (c_FC_P (de_int)) (fun _ _ => rfl)) (db_cons rfl (c_A_P (de_varA 7 rfl)) (db_nil))))))
    (dss_cons (ds_if (dt_w (dw_or (dt_not (dt_val (c_C_P (de_call h_law_whole hr (db_cons rfl (c_A_P (de_varA 8 rfl)) (db_nil)))))) (dw_or1 (dt_cmp (op_neD hr.units) b_ne (c_A_P (de_varA 8 rfl)) (c_FC_P (de_blt (call_sumL rfl) b_sum (by rfl) B.sum_ PyProof.Rows.boot_sum (db_cons rfl (c_F_P (de_sl (c_A_B (de_varA 1 rfl)) (do_part (c_FC_P (de_op op_sub b_sub (c_A_P (de_varA 7 rfl)) (c_FC_P (de_int))))) do_none)) (db_nil)))) (nomark _))))) (dss_one (ds_ret (c_FC_R (de_bl)))) (dss_nil))
    (dss_cons (ds_setA (i := 9) rfl sc.nd rfl (by first | exact Or.inl rfl | exact Or.inr rfl) (c_C_A (de_call hchance_at hr (db_cons rfl (de_ixK rfl (de_varP 5 rfl) (c_FC_P (de_int)) (fun _ _ => rfl)) (db_cons rfl (c_A_P (de_varA 6 rfl)) (db_cons rfl (c_A_P (de_varA 7 rfl)) (db_cons rfl (de_ixK rfl (de_varP 5 rfl) (c_FC_P (de_int)) (fun _ _ => rfl)) (db_nil))))))))
    (dss_cons (ds_if (dt_w (dw_or (dt_not (dt_val (c_C_P (de_call h_law_is_ratio hr (db_cons rfl (c_A_P (de_varA 9 rfl)) (db_nil)))))) (dw_or1 (dt_cmp (op_neD hr.units) b_ne (c_A_P (de_varA 9 rfl)) (c_C_P (de_call h_law_chance_at hr (db_cons rfl (c_A_P (de_varA 4 rfl)) (db_cons rfl (c_A_P (de_varA 6 rfl)) (db_cons rfl (c_A_P (de_varA 7 rfl)) (db_cons rfl (c_A_P (de_varA 1 rfl)) (db_nil))))))) (nomark _))))) (dss_one (ds_ret (c_FC_R (de_bl)))) (dss_nil))
    (dss_one (ds_if (dt_cmp (op_neD hr.units) b_ne (de_varP 5 rfl) (c_F_P (de_lstA (db_cons rfl (de_varA 4 rfl) (db_cons rfl (de_varA 1 rfl) (db_nil))))) (nomark _)) (dss_one (ds_ret (c_FC_R (de_bl)))) (dss_nil))))))))))
    (dss_cons (ds_find (flA := [.A, .A, .A, .A, .A, .A, .A, .A, .A, .A, .A]) (n := 11) PassesOwn.never rfl (dip_list (de_lstP (db_cons rfl (de_ixK rfl (de_varP 5 rfl) (c_FC_P (de_int)) (fun _ _ => rfl)) (db_cons rfl (c_FC_P (de_lstC (db_cons rfl (c_FC_C (de_int)) (db_nil)))) (db_cons rfl (c_FC_P (de_lstC (db_cons rfl (c_FC_C (de_int)) (db_cons rfl (c_FC_C (de_int)) (db_cons rfl (c_FC_C (de_int)) (db_cons rfl (c_FC_C (de_int)) (db_nil))))))) (db_cons rfl (c_FC_P (de_lstC (db_cons rfl (c_FC_C (de_int)) (db_cons rfl (c_FC_C (de_int)) (db_cons rfl (c_FC_C (de_int)) (db_cons rfl (c_FC_C (de_int)) (db_nil))))))) (db_cons rfl (c_FC_P (de_lstC (db_cons rfl (c_FC_C (de_int)) (db_nil)))) (db_nil)))))))) (dg_name (i := 10) rfl sc.nd rfl (by first | exact Or.inl rfl | exact Or.inr rfl)) (dt_w (dw_or (dt_not (dt_val (c_C_P (de_call h_law_is hr (db_cons rfl (c_C_P (de_call his_ladder hr (db_cons rfl (c_A_P (de_varA 10 rfl)) (db_nil)))) (db_cons rfl (c_FC_P (de_bl)) (db_nil))))))) (dw_or1 (dt_cmp (op_neD hr.units) b_ne (c_A_P (de_ix (c_A_B (de_varA 5 rfl)) (c_FC_P (de_int)) (fun _ _ => rfl))) (c_A_P (de_varA 1 rfl)) (nomark _))))) (de_bl) rfl (by decide) (by decide))
    (dss_cons (ds_find (flA := [.A, .A, .A, .A, .A, .A, .A, .A, .A, .A, .A]) (n := 11) PassesOwn.never rfl (dip_list (de_callL h_law_odd hr (db_cons rfl (c_A_P (de_varA 0 rfl)) (db_cons rfl (c_A_P (de_varA 1 rfl)) (db_nil))))) (dg_name (i := 10) rfl sc.nd rfl (by first | exact Or.inl rfl | exact Or.inr rfl)) (dt_not (dt_val (c_C_P (de_call h_law_is hr (db_cons rfl (c_C_P (de_call his_ladder hr (db_cons rfl (c_A_P (de_varA 10 rfl)) (db_nil)))) (db_cons rfl (c_FC_P (de_bl)) (db_nil))))))) (de_bl) rfl (by decide) (by decide))
    (dss_cons (ds_nApp (i := 5) rfl (c_FC_P (de_int)) (c_A_P (de_tup rfl (db_cons rfl (de_ix (c_A_B (de_varA 2 rfl)) (c_FC_P (de_int)) (fun _ _ => rfl)) (db_cons rfl (c_FC_A (de_op op_add b_add (c_A_P (de_ix (c_A_B (de_varA 2 rfl)) (c_FC_P (de_int)) (fun _ _ => rfl))) (c_FC_P (de_int)))) (db_cons rfl (c_FC_A (de_int)) (db_cons rfl (c_C_A (de_tup rfl (db_cons rfl (c_FC_C (de_int)) (db_cons rfl (c_FC_C (de_int)) (db_nil))))) (db_nil))))))) rfl (fun _ _ => rfl))
    (dss_one (ds_ret (c_FC_R (de_cmp (op_eqD hr.units) b_eq (c_C_P (de_call hchance_at hr (db_cons rfl (c_A_P (de_varA 4 rfl)) (db_cons rfl (c_A_P (de_ix (c_A_B (de_varA 2 rfl)) (c_FC_P (de_int)) (fun _ _ => rfl))) (db_cons rfl (c_FC_P (de_int)) (db_cons rfl (c_A_P (de_varA 1 rfl)) (db_nil))))))) (c_C_P (de_call h_law_chance_at hr (db_cons rfl (c_A_P (de_varA 4 rfl)) (db_cons rfl (c_A_P (de_ix (c_A_B (de_varA 2 rfl)) (c_FC_P (de_int)) (fun _ _ => rfl))) (db_cons rfl (c_FC_P (de_int)) (db_cons rfl (c_A_P (de_varA 1 rfl)) (db_nil))))))) (nomark _))))))))))))))
end
end K25
namespace K25
open PySem L2 My D3
structure Txt (K : PySem.W.Frag) (mg : Str → Option Value) : Prop where
  d_is_whole : Dg K mg "is_whole" (top 4) ["thing"]
  d_all_whole : Dg K mg "all_whole" (top 5) ["things"]
  d_is_whole_list : Dg K mg "is_whole_list" (top 6) ["thing"]
  d_greatest_divisor : Dg K mg "greatest_divisor" (top 8) ["one", "other"]
  d_lowest : Dg K mg "lowest" (top 9) ["top", "bottom"]
  d_ratio : Dg K mg "ratio" (top 10) ["top", "bottom"]
  d_nights_of : Dg K mg "nights_of" (top 12) ["stay"]
  d_holds : Dg K mg "holds" (top 13) ["stretch", "night"]
  d_with_row : Dg K mg "with_row" (top 15) ["weights", "many", "chance"]
  d_all_weights : Dg K mg "all_weights" (top 16) ["rows"]
  d_common_bottom : Dg K mg "common_bottom" (top 17) ["rows"]
  d_comers_above : Dg K mg "comers_above" (top 18) ["rows", "rooms"]
  d_is_ladder : Dg K mg "is_ladder" (top 22) ["thing"]
  d_rooms_from : Dg K mg "rooms_from" (top 23) ["ladder", "kind"]
  d_chance_at : Dg K mg "chance_at" (top 24) ["stays", "night", "kind", "ladder"]
  d__law_cell : Dg K mg "_law_cell" (top 26) ["_law_script", "_law_at"]
  d__law_part : Dg K mg "_law_part" (top 27) ["_law_script", "_law_at", "_law_k", "_law_many"]
  d__law_whole : Dg K mg "_law_whole" (top 28) ["_law_found"]
  d__law_divisor : Dg K mg "_law_divisor" (top 29) ["_law_one", "_law_other"]
  d__law_low : Dg K mg "_law_low" (top 30) ["_law_top", "_law_bottom"]
  d__law_is_ratio : Dg K mg "_law_is_ratio" (top 31) ["_law_found"]
  d__law_chance : Dg K mg "_law_chance" (top 32) ["_law_script", "_law_at"]
  d__law_ladder : Dg K mg "_law_ladder" (top 33) ["_law_script", "_law_at"]
  d__law_base : Dg K mg "_law_base" (top 34) ["_law_script", "_law_at"]
  d__law_stay : Dg K mg "_law_stay" (top 35) ["_law_script", "_law_at", "_law_base_here", "_law_kinds"]
  d__law_chance_at : Dg K mg "_law_chance_at" (top 36) ["_law_stays", "_law_night", "_law_kind", "_law_ladder_here"]
  d__law_odd : Dg K mg "_law_odd" (top 37) ["_law_script", "_law_ladder_here"]
  d__law_is : Dg K mg "_law_is" (top 38) ["_law_found", "_law_due"]
  d_law : Dl K mg "law" "_law_script" (top 39)
  blt : Bl mg
  c_MOST_KINDS : ∃ t, mg "MOST_KINDS" = some (.int 4 t)
  c_MOST_ROOMS : ∃ t, mg "MOST_ROOMS" = some (.int 12 t)
theorem law_fn {P : Program} {w : World} {K : PySem.W.Frag} {mg : Str → Option Value} {base : Heap} (T : Txt K mg) {f : Addr} {fd : FuncData} (F : FunD K "law" (top 39) f fd) : FnOk P w K mg base CX0 65 f fd ["_law_script"] (spLaw K) := by
  have h_is_whole := ok_is_whole (P := P) (w := w) (base := base) (n := 0) T.d_is_whole T.blt
  have h_greatest_divisor := ok_greatest_divisor (P := P) (w := w) (base := base) (n := 0) T.d_greatest_divisor T.blt
  have h_nights_of := ok_nights_of (P := P) (w := w) (base := base) (n := 0) T.d_nights_of T.blt
  have h_holds := ok_holds (P := P) (w := w) (base := base) (n := 0) T.d_holds T.blt
  have h_with_row := ok_with_row (P := P) (w := w) (base := base) (n := 0) T.d_with_row T.blt
  have h_common_bottom := ok_common_bottom (P := P) (w := w) (base := base) (n := 0) T.d_common_bottom T.blt
  have h_rooms_from := ok_rooms_from (P := P) (w := w) (base := base) (n := 0) T.d_rooms_from T.blt
  have h__law_cell := ok__law_cell (P := P) (w := w) (base := base) (n := 0) T.d__law_cell T.blt
  have h__law_whole := ok__law_whole (P := P) (w := w) (base := base) (n := 0) T.d__law_whole T.blt
  have h__law_divisor := ok__law_divisor (P := P) (w := w) (base := base) (n := 0) T.d__law_divisor T.blt
  have h__law_is := ok__law_is (P := P) (w := w) (base := base) (n := 0) T.d__law_is T.blt
  have h_all_whole := ok_all_whole (P := P) (w := w) (base := base) (n := 1) T.d_all_whole T.blt (h_is_whole.mono (by decide))
  have h_lowest := ok_lowest (P := P) (w := w) (base := base) (n := 1) T.d_lowest T.blt (h_greatest_divisor.mono (by decide))
  have h_all_weights := ok_all_weights (P := P) (w := w) (base := base) (n := 1) T.d_all_weights T.blt (h_with_row.mono (by decide))
  have h__law_part := ok__law_part (P := P) (w := w) (base := base) (n := 1) T.d__law_part T.blt (h__law_cell.mono (by decide))
  have h__law_low := ok__law_low (P := P) (w := w) (base := base) (n := 1) T.d__law_low T.blt (h__law_divisor.mono (by decide))
  have h__law_is_ratio := ok__law_is_ratio (P := P) (w := w) (base := base) (n := 1) T.d__law_is_ratio T.blt (h__law_whole.mono (by decide))
  have h_is_whole_list := ok_is_whole_list (P := P) (w := w) (base := base) (n := 2) T.d_is_whole_list T.blt (h_all_whole.mono (by decide))
  have h_ratio := ok_ratio (P := P) (w := w) (base := base) (n := 2) T.d_ratio T.blt (h_is_whole.mono (by decide)) (h_lowest.mono (by decide))
  have h__law_chance := ok__law_chance (P := P) (w := w) (base := base) (n := 2) T.d__law_chance T.blt (h__law_part.mono (by decide)) (h__law_low.mono (by decide))
  have h__law_ladder := ok__law_ladder (P := P) (w := w) (base := base) (n := 2) T.d__law_ladder T.blt (h__law_part.mono (by decide))
  have h__law_base := ok__law_base (P := P) (w := w) (base := base) (n := 2) T.d__law_base T.blt (h__law_part.mono (by decide))
  have h__law_chance_at := ok__law_chance_at (P := P) (w := w) (base := base) (n := 2) T.d__law_chance_at T.blt (h__law_low.mono (by decide))
  have h__law_odd := ok__law_odd (P := P) (w := w) (base := base) (n := 2) T.d__law_odd T.blt (h__law_part.mono (by decide))
  have h_comers_above := ok_comers_above (P := P) (w := w) (base := base) (n := 3) T.d_comers_above T.blt (h_ratio.mono (by decide)) (h_all_weights.mono (by decide)) (h_common_bottom.mono (by decide))
  have h_is_ladder := ok_is_ladder (P := P) (w := w) (base := base) (n := 3) T.d_is_ladder T.blt (h_is_whole_list.mono (by decide)) T.c_MOST_KINDS T.c_MOST_ROOMS
  have h__law_stay := ok__law_stay (P := P) (w := w) (base := base) (n := 3) T.d__law_stay T.blt (h__law_part.mono (by decide)) (h__law_chance.mono (by decide))
  have h_chance_at := ok_chance_at (P := P) (w := w) (base := base) (n := 4) T.d_chance_at T.blt (h_nights_of.mono (by decide)) (h_holds.mono (by decide)) (h_comers_above.mono (by decide)) (h_rooms_from.mono (by decide))
  exact ((fn_law (P := P) (w := w) (base := base) (n := 5) F T.blt (h_is_ladder.mono (by decide)) (h_rooms_from.mono (by decide)) (h_chance_at.mono (by decide)) (h__law_part.mono (by decide)) (h__law_whole.mono (by decide)) (h__law_is_ratio.mono (by decide)) (h__law_ladder.mono (by decide)) (h__law_base.mono (by decide)) (h__law_stay.mono (by decide)) (h__law_chance_at.mono (by decide)) (h__law_odd.mono (by decide)) (h__law_is.mono (by decide))).mono (by decide)).imp (law_imp K25.law_true)
end K25
open PySem PySem.W PyProof.Rows
set_option maxRecDepth 100000 in
set_option maxHeartbeats 0 in
theorem PySem.Challenge.cw_nightbook_k25_ladders_and_chances_at_a_n_holds : PySem.Challenge.rw_nightbook_k25_ladders_and_chances_at_a_n.Holds := by
  w_on; o_law; k_head; (case hw => w_witness2)
  k_fill
  refine L2.walk_ofK (l := PySem.Challenge.rw_nightbook_k25_ladders_and_chances_at_a_n) (n := 63) (k := 65) (x := "_law_script") (CX := L2.CX0) (sp := D3.spLaw) rfl (by decide) rfl ⟨rfl, by decide, by decide⟩ (fun w h Y => PySem.W.kIn_of Y) ?F ?S ?C
  case F =>
    intro w mg fa h KX G hmg
    have T : K25.Txt (L2.KOf KX) mg := by
      dsimp only [L2.KOf]
      have d_is_whole : D3.Dg (L2.KOf KX) mg "is_whole" (K25.top 4) ["thing"] := by
        dsimp only [L2.KOf]
        refine' D3.dg_mk KX G ?b ?a ?l ?c ?k
        (case a => k_is); (case l => k_is); (case c => k_is); (case k => k_is)
        (case b => exact fun _ _ _ _ _ _ us hl => match us, hl with | [_], _ => rfl)
      have d_all_whole : D3.Dg (L2.KOf KX) mg "all_whole" (K25.top 5) ["things"] := by
        dsimp only [L2.KOf]
        refine' D3.dg_mk KX G ?b ?a ?l ?c ?k
        (case a => k_is); (case l => k_is); (case c => k_is); (case k => k_is)
        (case b => exact fun _ _ _ _ _ _ us hl => match us, hl with | [_], _ => rfl)
      have d_is_whole_list : D3.Dg (L2.KOf KX) mg "is_whole_list" (K25.top 6) ["thing"] := by
        dsimp only [L2.KOf]
        refine' D3.dg_mk KX G ?b ?a ?l ?c ?k
        (case a => k_is); (case l => k_is); (case c => k_is); (case k => k_is)
        (case b => exact fun _ _ _ _ _ _ us hl => match us, hl with | [_], _ => rfl)
      have d_greatest_divisor : D3.Dg (L2.KOf KX) mg "greatest_divisor" (K25.top 8) ["one", "other"] := by
        dsimp only [L2.KOf]
        refine' D3.dg_mk KX G ?b ?a ?l ?c ?k
        (case a => k_is); (case l => k_is); (case c => k_is); (case k => k_is)
        (case b => exact fun _ _ _ _ _ _ us hl => match us, hl with | [_, _], _ => rfl)
      have d_lowest : D3.Dg (L2.KOf KX) mg "lowest" (K25.top 9) ["top", "bottom"] := by
        dsimp only [L2.KOf]
        refine' D3.dg_mk KX G ?b ?a ?l ?c ?k
        (case a => k_is); (case l => k_is); (case c => k_is); (case k => k_is)
        (case b => exact fun _ _ _ _ _ _ us hl => match us, hl with | [_, _], _ => rfl)
      have d_ratio : D3.Dg (L2.KOf KX) mg "ratio" (K25.top 10) ["top", "bottom"] := by
        dsimp only [L2.KOf]
        refine' D3.dg_mkD KX G ?b ?a ?l ?c ?k ?t ?s
        (case a => k_is); (case l => k_is); (case c => k_is); (case k => k_is); (case t => k_is); (case s => rfl)
        (case b => exact fun _ _ _ _ _ _ us hl => match us, hl with | [_, _], _ => ⟨_, rfl, rfl⟩)
      have d_nights_of : D3.Dg (L2.KOf KX) mg "nights_of" (K25.top 12) ["stay"] := by
        dsimp only [L2.KOf]
        refine' D3.dg_mk KX G ?b ?a ?l ?c ?k
        (case a => k_is); (case l => k_is); (case c => k_is); (case k => k_is)
        (case b => exact fun _ _ _ _ _ _ us hl => match us, hl with | [_], _ => rfl)
      have d_holds : D3.Dg (L2.KOf KX) mg "holds" (K25.top 13) ["stretch", "night"] := by
        dsimp only [L2.KOf]
        refine' D3.dg_mk KX G ?b ?a ?l ?c ?k
        (case a => k_is); (case l => k_is); (case c => k_is); (case k => k_is)
        (case b => exact fun _ _ _ _ _ _ us hl => match us, hl with | [_, _], _ => rfl)
      have d_with_row : D3.Dg (L2.KOf KX) mg "with_row" (K25.top 15) ["weights", "many", "chance"] := by
        dsimp only [L2.KOf]
        refine' D3.dg_mk KX G ?b ?a ?l ?c ?k
        (case a => k_is); (case l => k_is); (case c => k_is); (case k => k_is)
        (case b => exact fun _ _ _ _ _ _ us hl => match us, hl with | [_, _, _], _ => rfl)
      have d_all_weights : D3.Dg (L2.KOf KX) mg "all_weights" (K25.top 16) ["rows"] := by
        dsimp only [L2.KOf]
        refine' D3.dg_mk KX G ?b ?a ?l ?c ?k
        (case a => k_is); (case l => k_is); (case c => k_is); (case k => k_is)
        (case b => exact fun _ _ _ _ _ _ us hl => match us, hl with | [_], _ => rfl)
      have d_common_bottom : D3.Dg (L2.KOf KX) mg "common_bottom" (K25.top 17) ["rows"] := by
        dsimp only [L2.KOf]
        refine' D3.dg_mk KX G ?b ?a ?l ?c ?k
        (case a => k_is); (case l => k_is); (case c => k_is); (case k => k_is)
        (case b => exact fun _ _ _ _ _ _ us hl => match us, hl with | [_], _ => rfl)
      have d_comers_above : D3.Dg (L2.KOf KX) mg "comers_above" (K25.top 18) ["rows", "rooms"] := by
        dsimp only [L2.KOf]
        refine' D3.dg_mk KX G ?b ?a ?l ?c ?k
        (case a => k_is); (case l => k_is); (case c => k_is); (case k => k_is)
        (case b => exact fun _ _ _ _ _ _ us hl => match us, hl with | [_, _], _ => rfl)
      have d_is_ladder : D3.Dg (L2.KOf KX) mg "is_ladder" (K25.top 22) ["thing"] := by
        dsimp only [L2.KOf]
        refine' D3.dg_mk KX G ?b ?a ?l ?c ?k
        (case a => k_is); (case l => k_is); (case c => k_is); (case k => k_is)
        (case b => exact fun _ _ _ _ _ _ us hl => match us, hl with | [_], _ => rfl)
      have d_rooms_from : D3.Dg (L2.KOf KX) mg "rooms_from" (K25.top 23) ["ladder", "kind"] := by
        dsimp only [L2.KOf]
        refine' D3.dg_mk KX G ?b ?a ?l ?c ?k
        (case a => k_is); (case l => k_is); (case c => k_is); (case k => k_is)
        (case b => exact fun _ _ _ _ _ _ us hl => match us, hl with | [_, _], _ => rfl)
      have d_chance_at : D3.Dg (L2.KOf KX) mg "chance_at" (K25.top 24) ["stays", "night", "kind", "ladder"] := by
        dsimp only [L2.KOf]
        refine' D3.dg_mk KX G ?b ?a ?l ?c ?k
        (case a => k_is); (case l => k_is); (case c => k_is); (case k => k_is)
        (case b => exact fun _ _ _ _ _ _ us hl => match us, hl with | [_, _, _, _], _ => rfl)
      have d__law_cell : D3.Dg (L2.KOf KX) mg "_law_cell" (K25.top 26) ["_law_script", "_law_at"] := by
        dsimp only [L2.KOf]
        refine' D3.dg_mk KX G ?b ?a ?l ?c ?k
        (case a => k_is); (case l => k_is); (case c => k_is); (case k => k_is)
        (case b => exact fun _ _ _ _ _ _ us hl => match us, hl with | [_, _], _ => rfl)
      have d__law_part : D3.Dg (L2.KOf KX) mg "_law_part" (K25.top 27) ["_law_script", "_law_at", "_law_k", "_law_many"] := by
        dsimp only [L2.KOf]
        refine' D3.dg_mk KX G ?b ?a ?l ?c ?k
        (case a => k_is); (case l => k_is); (case c => k_is); (case k => k_is)
        (case b => exact fun _ _ _ _ _ _ us hl => match us, hl with | [_, _, _, _], _ => rfl)
      have d__law_whole : D3.Dg (L2.KOf KX) mg "_law_whole" (K25.top 28) ["_law_found"] := by
        dsimp only [L2.KOf]
        refine' D3.dg_mk KX G ?b ?a ?l ?c ?k
        (case a => k_is); (case l => k_is); (case c => k_is); (case k => k_is)
        (case b => exact fun _ _ _ _ _ _ us hl => match us, hl with | [_], _ => rfl)
      have d__law_divisor : D3.Dg (L2.KOf KX) mg "_law_divisor" (K25.top 29) ["_law_one", "_law_other"] := by
        dsimp only [L2.KOf]
        refine' D3.dg_mk KX G ?b ?a ?l ?c ?k
        (case a => k_is); (case l => k_is); (case c => k_is); (case k => k_is)
        (case b => exact fun _ _ _ _ _ _ us hl => match us, hl with | [_, _], _ => rfl)
      have d__law_low : D3.Dg (L2.KOf KX) mg "_law_low" (K25.top 30) ["_law_top", "_law_bottom"] := by
        dsimp only [L2.KOf]
        refine' D3.dg_mk KX G ?b ?a ?l ?c ?k
        (case a => k_is); (case l => k_is); (case c => k_is); (case k => k_is)
        (case b => exact fun _ _ _ _ _ _ us hl => match us, hl with | [_, _], _ => rfl)
      have d__law_is_ratio : D3.Dg (L2.KOf KX) mg "_law_is_ratio" (K25.top 31) ["_law_found"] := by
        dsimp only [L2.KOf]
        refine' D3.dg_mk KX G ?b ?a ?l ?c ?k
        (case a => k_is); (case l => k_is); (case c => k_is); (case k => k_is)
        (case b => exact fun _ _ _ _ _ _ us hl => match us, hl with | [_], _ => rfl)
      have d__law_chance : D3.Dg (L2.KOf KX) mg "_law_chance" (K25.top 32) ["_law_script", "_law_at"] := by
        dsimp only [L2.KOf]
        refine' D3.dg_mk KX G ?b ?a ?l ?c ?k
        (case a => k_is); (case l => k_is); (case c => k_is); (case k => k_is)
        (case b => exact fun _ _ _ _ _ _ us hl => match us, hl with | [_, _], _ => rfl)
      have d__law_ladder : D3.Dg (L2.KOf KX) mg "_law_ladder" (K25.top 33) ["_law_script", "_law_at"] := by
        dsimp only [L2.KOf]
        refine' D3.dg_mk KX G ?b ?a ?l ?c ?k
        (case a => k_is); (case l => k_is); (case c => k_is); (case k => k_is)
        (case b => exact fun _ _ _ _ _ _ us hl => match us, hl with | [_, _], _ => rfl)
      have d__law_base : D3.Dg (L2.KOf KX) mg "_law_base" (K25.top 34) ["_law_script", "_law_at"] := by
        dsimp only [L2.KOf]
        refine' D3.dg_mk KX G ?b ?a ?l ?c ?k
        (case a => k_is); (case l => k_is); (case c => k_is); (case k => k_is)
        (case b => exact fun _ _ _ _ _ _ us hl => match us, hl with | [_, _], _ => rfl)
      have d__law_stay : D3.Dg (L2.KOf KX) mg "_law_stay" (K25.top 35) ["_law_script", "_law_at", "_law_base_here", "_law_kinds"] := by
        dsimp only [L2.KOf]
        refine' D3.dg_mk KX G ?b ?a ?l ?c ?k
        (case a => k_is); (case l => k_is); (case c => k_is); (case k => k_is)
        (case b => exact fun _ _ _ _ _ _ us hl => match us, hl with | [_, _, _, _], _ => rfl)
      have d__law_chance_at : D3.Dg (L2.KOf KX) mg "_law_chance_at" (K25.top 36) ["_law_stays", "_law_night", "_law_kind", "_law_ladder_here"] := by
        dsimp only [L2.KOf]
        refine' D3.dg_mk KX G ?b ?a ?l ?c ?k
        (case a => k_is); (case l => k_is); (case c => k_is); (case k => k_is)
        (case b => exact fun _ _ _ _ _ _ us hl => match us, hl with | [_, _, _, _], _ => rfl)
      have d__law_odd : D3.Dg (L2.KOf KX) mg "_law_odd" (K25.top 37) ["_law_script", "_law_ladder_here"] := by
        dsimp only [L2.KOf]
        refine' D3.dg_mk KX G ?b ?a ?l ?c ?k
        (case a => k_is); (case l => k_is); (case c => k_is); (case k => k_is)
        (case b => exact fun _ _ _ _ _ _ us hl => match us, hl with | [_, _], _ => rfl)
      have d__law_is : D3.Dg (L2.KOf KX) mg "_law_is" (K25.top 38) ["_law_found", "_law_due"] := by
        dsimp only [L2.KOf]
        refine' D3.dg_mk KX G ?b ?a ?l ?c ?k
        (case a => k_is); (case l => k_is); (case c => k_is); (case k => k_is)
        (case b => exact fun _ _ _ _ _ _ us hl => match us, hl with | [_, _], _ => rfl)
      have d_law : D3.Dl (L2.KOf KX) mg "law" "_law_script" (K25.top 39) := by
        dsimp only [L2.KOf]
        refine' D3.dl_mk KX G ?b ?a ?l ?c ?k
        (case a => k_is); (case l => k_is); (case c => k_is); (case k => k_is)
        (case b => exact fun _ _ _ _ _ _ u => rfl)
      have b_len : mg "len" = none := by
        refine' PySem.W.mg_none_of KX G ?z
        (case z => k_is)
      have b_range : mg "range" = none := by
        refine' PySem.W.mg_none_of KX G ?z
        (case z => k_is)
      have b_abs : mg "abs" = none := by
        refine' PySem.W.mg_none_of KX G ?z
        (case z => k_is)
      have b_isinstance : mg "isinstance" = none := by
        refine' PySem.W.mg_none_of KX G ?z
        (case z => k_is)
      have b_int : mg "int" = none := by
        refine' PySem.W.mg_none_of KX G ?z
        (case z => k_is)
      have b_bool : mg "bool" = none := by
        refine' PySem.W.mg_none_of KX G ?z
        (case z => k_is)
      have b_tuple : mg "tuple" = none := by
        refine' PySem.W.mg_none_of KX G ?z
        (case z => k_is)
      have b_list : mg "list" = none := by
        refine' PySem.W.mg_none_of KX G ?z
        (case z => k_is)
      have b_str : mg "str" = none := by
        refine' PySem.W.mg_none_of KX G ?z
        (case z => k_is)
      have b_max : mg "max" = none := by
        refine' PySem.W.mg_none_of KX G ?z
        (case z => k_is)
      have b_min : mg "min" = none := by
        refine' PySem.W.mg_none_of KX G ?z
        (case z => k_is)
      have b_sorted : mg "sorted" = none := by
        refine' PySem.W.mg_none_of KX G ?z
        (case z => k_is)
      have b_sum : mg "sum" = none := by
        refine' PySem.W.mg_none_of KX G ?z
        (case z => k_is)
      have b_reversed : mg "reversed" = none := by
        refine' PySem.W.mg_none_of KX G ?z
        (case z => k_is)
      have b_enumerate : mg "enumerate" = none := by
        refine' PySem.W.mg_none_of KX G ?z
        (case z => k_is)
      have b_zip : mg "zip" = none := by
        refine' PySem.W.mg_none_of KX G ?z
        (case z => k_is)
      have b_set : mg "set" = none := by
        refine' PySem.W.mg_none_of KX G ?z
        (case z => k_is)
      have b_any : mg "any" = none := by
        refine' PySem.W.mg_none_of KX G ?z
        (case z => k_is)
      have b_all : mg "all" = none := by
        refine' PySem.W.mg_none_of KX G ?z
        (case z => k_is)
      have b_dict : mg "dict" = none := by
        refine' PySem.W.mg_none_of KX G ?z
        (case z => k_is)
      have c_MOST_KINDS : ∃ t, mg "MOST_KINDS" = some (.int 4 t) := by
        refine' ⟨?t_MOST_KINDS, PySem.W.mg_of KX G ?z⟩
        (case z => rfl)
      have c_MOST_ROOMS : ∃ t, mg "MOST_ROOMS" = some (.int 12 t) := by
        refine' ⟨?t_MOST_ROOMS, PySem.W.mg_of KX G ?z⟩
        (case z => rfl)
      exact ⟨d_is_whole, d_all_whole, d_is_whole_list, d_greatest_divisor, d_lowest, d_ratio, d_nights_of, d_holds, d_with_row, d_all_weights, d_common_bottom, d_comers_above, d_is_ladder, d_rooms_from, d_chance_at, d__law_cell, d__law_part, d__law_whole, d__law_divisor, d__law_low, d__law_is_ratio, d__law_chance, d__law_ladder, d__law_base, d__law_stay, d__law_chance_at, d__law_odd, d__law_is, d_law, ⟨b_len, b_range, b_abs, b_isinstance, b_int, b_bool, b_tuple, b_list, b_str, b_max, b_min, b_sorted, b_sum, b_reversed, b_enumerate, b_zip, b_set, b_any, b_all, b_dict⟩, c_MOST_KINDS, c_MOST_ROOMS⟩
    obtain ⟨f, fd, F, b, m⟩ := T.d_law.ex
    have e0 := hmg.symm.trans m
    cases e0
    exact ⟨fd, b, fun base kb nb => K25.law_fn T F⟩
  case S => exact fun K H a ns hl hO hS => ⟨a, ns, rfl, hS, hl, fun _ => rfl⟩
  case C => exact fun _ _ _ _ z => z
