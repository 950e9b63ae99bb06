import PyProof.Rows.All
import Wide.All
import OpenK.AllK
import Wide.FinOn
import Lean
import PyProof.EqAt
import PyProof.EqKinds
import PyProof.TupleCall
import PyProof.EqLayable
import PyProof.NsDelKeeps
import KE.KIsAll
import PyProof.ExcAttrAll.ValueError
import PyProof.ExcInit
import PyProof.ExcClass2
import PyProof.InstStore
import PyProof.RaisesMany
import PyProof.RulesTry
import PyProof.ExcBaseAll.ValueError
import PyProof.InstStoreFacts
import PyProof.RulesAs
import PyProof.Rows.CountFlat
import PyProof.CallStr
import KE.KSortTup
import PyProof.AttrMissHeap
import KE.KDictOf
import KE.KxText
import KE.KIntText
import PyProof.CallStr
import PyProof.Rows.StrJoin2
import PySem.Challenge.RW_nightbook_k91_texts_read
set_option Elab.async false
set_option linter.all false
set_option maxRecDepth 100000
set_option maxHeartbeats 4000000
set_option exponentiation.threshold 40000
namespace L2
open PySem PySem.Spec PyProof.Rows
abbrev Key := Sum Int Str
def keyIs : Key → Value → Bool
  | .inl k, v => Value.isInt k v
  | .inr x, v => Value.isStrOf x v
def keyH (w : World) : Key → Int
  | .inl k => hashInt k
  | .inr x => hashStr w x
theorem keyIs_shape : ∀ {k : Key} {v : Value}, keyIs k v = true → (∃ i t, k = Sum.inl i ∧ v = Value.int i t) ∨ (∃ x t, k = Sum.inr x ∧ v = Value.str x t)
  | .inl i, v, h => by
    obtain ⟨t, e⟩ := Value.isInt_shape (k := i) (v := v) h
    exact .inl ⟨i, t, rfl, e⟩
  | .inr x, v, h => by
    obtain ⟨t, e⟩ := Value.isStrOf_shape (x := x) (v := v) h
    exact .inr ⟨x, t, rfl, e⟩
theorem key_ll (a b : Int) : decide ((Sum.inl a : Key) = Sum.inl b) = (a == b) := by
  by_cases e : a = b
  · subst e; simp
  · have h : ¬ (Sum.inl a : Key) = Sum.inl b := fun q => e (Sum.inl.inj q)
    rw [decide_eq_false h]
    exact (beq_eq_false_iff_ne.mpr e).symm
theorem key_rr (a b : Str) : decide ((Sum.inr a : Key) = Sum.inr b) = decide (a = b) := by
  by_cases e : a = b
  · subst e; simp
  · have h : ¬ (Sum.inr a : Key) = Sum.inr b := fun q => e (Sum.inr.inj q)
    rw [decide_eq_false h, decide_eq_false e]
theorem key_lr (a : Int) (b : Str) : decide ((Sum.inl a : Key) = Sum.inr b) = false := decide_eq_false (fun q => nomatch q)
theorem key_rl (a : Str) (b : Int) : decide ((Sum.inr a : Key) = Sum.inl b) = false := decide_eq_false (fun q => nomatch q)
def mixKind (prog : Program) (w : World) : PySem.KeyKind prog w Key where
  is := keyIs
  hash := keyH w
  inj := fun v a b ha hb => by
    rcases keyIs_shape ha with ⟨i, t, rfl, rfl⟩ | ⟨x, t, rfl, rfl⟩
    · rcases keyIs_shape hb with ⟨j, u, rfl, e⟩ | ⟨y, u, rfl, e⟩
      · injection e with e1 _; rw [e1]
      · exact nomatch e
    · rcases keyIs_shape hb with ⟨j, u, rfl, e⟩ | ⟨y, u, rfl, e⟩
      · exact nomatch e
      · injection e with e1 _; rw [e1]
  byValue := fun k v h => by
    rcases keyIs_shape h with ⟨i, t, rfl, rfl⟩ | ⟨x, t, rfl, rfl⟩ <;> rfl
  pyHash := fun hv h => by
    rcases keyIs_shape hv with ⟨i, t, rfl, rfl⟩ | ⟨x, t, rfl, rfl⟩
    · exact wpAny_pyHash_int h
    · exact wpAny_pyHash_str h
  eqBool := fun hu hv h => by
    rcases keyIs_shape hu with ⟨i, t, rfl, rfl⟩ | ⟨x, t, rfl, rfl⟩
    · rcases keyIs_shape hv with ⟨j, u, rfl, rfl⟩ | ⟨y, u, rfl, rfl⟩
      · rw [key_ll] at h; exact wpAny_eqBool_int h
      · rw [key_lr] at h; exact SeqAt.EqAt.int_str i t y u _ _ _ _ h
    · rcases keyIs_shape hv with ⟨j, u, rfl, rfl⟩ | ⟨y, u, rfl, rfl⟩
      · rw [key_rl] at h; exact SeqAt.EqAt.str_int x t j u _ _ _ _ h
      · rw [key_rr] at h; exact wpAny_eqBool_str h
  «strs» := fun k x t v h => by
    rcases keyIs_shape h with ⟨i, u, rfl, e⟩ | ⟨y, u, rfl, e⟩
    · exact nomatch e
    · injection e with e1 _
      subst e1
      cases v <;> rfl
end L2
namespace L2
open PySem PySem.Spec PyProof.Rows
inductive V where
  | non | bl (b : Bool) | int (i : Int) | str (x : Str) | byt (b : Array UInt8) | flt (b : UInt64) | ref (a : Addr) | ty (n : String)
  deriving DecidableEq
def RelV : V → Value → Prop
  | .non, u => u = Value.none
  | .bl b, u => u = Value.bool b
  | .int i, u => ∃ t, u = Value.int i t
  | .str x, u => ∃ t, u = Value.str x t
  | .byt b, u => ∃ t, u = Value.bytes b t
  | .flt b, u => ∃ t, u = Value.float b t
  | .ref a, u => u = Value.ref a
  | .ty n, u => u = Value.type n
abbrev Vals : List V → List Value → Prop := Paired RelV
theorem Vals.length {xs : List V} {us : List Value} (r : Vals xs us) : xs.length = us.length := Paired.length r
theorem Vals.get : ∀ {xs : List V} {us : List Value} {i : Nat} {x : V}, Vals xs us → xs[i]? = some x → ∃ u, us[i]? = some u ∧ RelV x u
  | _, _, _, _, .nil, e => by simp at e
  | _, _, 0, _, .cons r _, e => by simp at e; subst e; exact ⟨_, rfl, r⟩
  | _, _, i + 1, x, .cons _ t, e => by
    obtain ⟨u, h1, h2⟩ := Vals.get (i := i) (x := x) t (by simpa using e)
    exact ⟨u, by simpa using h1, h2⟩
theorem Vals.set {x : V} {u : Value} (r : RelV x u) : ∀ {xs : List V} {us : List Value} (i : Nat), Vals xs us → Vals (xs.set i x) (us.set i u)
  | _, _, _, .nil => .nil
  | _, _, 0, .cons _ t => .cons r t
  | _, _, i + 1, .cons q t => .cons q (Vals.set r i t)
theorem Vals.append : ∀ {xs ys : List V} {us ws : List Value}, Vals xs us → Vals ys ws → Vals (xs ++ ys) (us ++ ws)
  | _, _, _, _, .nil, s => s
  | _, _, _, _, .cons r t, s => .cons r (Vals.append t s)
theorem Vals.take : ∀ {xs : List V} {us : List Value} (n : Nat), Vals xs us → Vals (xs.take n) (us.take n)
  | _, _, 0, _ => .nil
  | _, _, _ + 1, .nil => .nil
  | _, _, n + 1, .cons r t => .cons r (Vals.take n t)
theorem Vals.drop : ∀ {xs : List V} {us : List Value} (n : Nat), Vals xs us → Vals (xs.drop n) (us.drop n)
  | _, _, 0, r => r
  | _, _, _ + 1, .nil => .nil
  | _, _, n + 1, .cons _ t => Vals.drop n t
def RelO : Option V → Option Value → Prop
  | some v, some u => RelV v u
  | none, none => True
  | _, _ => False
def KV {κ : Type} : List (κ × V) → List (κ × Value) → Prop := Paired fun (p : κ × V) (q : κ × Value) => p.1 = q.1 ∧ RelV p.2 q.2
def kV : Key → V
  | .inl i => .int i
  | .inr x => .str x
inductive HO where
  /-- a list -/
  | lst (xs : List V)
  /-- a tuple (never changes) -/
  | tup (xs : List V)
  /-- a dict whose keys are ints and texts; one whose keys are tuples of ints and texts (the empty one is both) -/
  | dK (kvs : List (Key × V)) | dT (kvs : List (List Key × V))
  /-- a set of ints: its members, its size -/
  | set (S : Int → Bool) (n : Nat)
  /-- an instance of the class at C, its dict at dx, its attributes -/
  | ins (C dx : Addr) (fs : List (Str × V))
  /-- the dict of the instance at x -/
  | own (x : Addr)
  /-- the dict of an exception -/
  | xd (fs : List (Str × V))
  /-- a bound method, f of x -/
  | met (f x : Addr)
  /-- a range object lo, lo + 1, .. below hi -/
  | rng (lo hi : Int)
  /-- a thing that is known to the object (the script; a dict while a loop walks it): read, never written while it is so -/
  | frz (o : Obj) (u : HO)
  /-- a code object's table -/
  | tbl (q : Str) (p : Pos)
  /-- any other thing, by what is true of its one object (a def of one's own: SetO a S n := HO.ext fun h => ..) -/
  | ext (φ : Heap → Prop)
abbrev Hp := Addr → Option HO
def upd (H : Hp) (a : Addr) (o : HO) : Hp := fun b => if b = a then some o else H b
theorem upd_same {H : Hp} {a : Addr} {o : HO} : upd H a o a = some o := by unfold upd; rw [if_pos rfl]
theorem upd_ne {H : Hp} {a b : Addr} {o : HO} (h : b ≠ a) : upd H a o b = H b := by unfold upd; rw [if_neg h]
theorem ne_of {H : Hp} {a b : Addr} {o u : HO} (h : H a = some o) (h' : H b = some u) (d : o ≠ u) : a ≠ b := by
  intro e; subst e; rw [h] at h'; exact d (Option.some.inj h')
theorem ne_of_none {H : Hp} {a b : Addr} {o : HO} (h : H a = some o) (h' : H b = none) : a ≠ b := by
  intro e; subst e; rw [h] at h'; cases h'
section
variable (P : Program) (w : World)
def ObjOk (H : Hp) (h : Heap) (a : Addr) : HO → Prop
  | .lst xs => xs.length ≤ sizeLine ∧ ∃ (its : List Value) (n : Nat), Vals xs its ∧ h.get? a = some { cls := .type "list", data := .seq its.toArray n }
  | .tup xs => xs.length ≤ sizeLine ∧ ∃ its : List Value, Vals xs its ∧ IsTup h a its.toArray
  | .dK kvs => kvs.length ≤ sizeLine ∧ (a == sysModules) = false ∧ ∃ vs, KV kvs vs ∧ h.DictOf (mixKind P w) a vs
  | .dT kvs => kvs.length ≤ sizeLine ∧ (a == sysModules) = false ∧ ∃ xs : List (List Key × Addr × Value),
      Paired (fun (p : List Key × V) (q : List Key × Addr × Value) => p.1 = q.1 ∧ H q.2.1 = some (.tup (p.1.map kV)) ∧ RelV p.2 q.2.2) kvs xs ∧
      ∃ o es ep, h.get? a = some o ∧ o.ExactDict ∧ o.data = .dict es ep ∧ es.toList = xs.map (entryOfKey (tupleKind (mixKind P w))) ∧ (xs.map (·.1)).Nodup
  | .set S n => h.SetOf (intKind P w) a S n
  | .ins C dx fs => H dx = some (.own a) ∧ fs.length ≤ 1000 ∧ dx ≠ a ∧ h.get? a = some (PySem.W.instObj C dx) ∧
      ∃ mA, h.Ns1 dx mA ∧ (∀ f, RelO (fs.lookup f) (mA f)) ∧ PySem.Within mA (fs.map (·.1))
  | .own _ => ∃ o, h.get? a = some o
  | .xd fs => ∃ mA, h.Ns1 a mA ∧ ∀ f, RelO (fs.lookup f) (mA f)
  | .rng lo hi => ∃ t u v, h.get? a = some { cls := .type "range", data := .fields #[.int lo t, .int hi u, .int 1 v] }
  | .frz o u => h.get? a = some o ∧ ObjOk H h a u
  | .tbl q p => ∃ ps, h.get? a = some { cls := .none, data := .fields ps } ∧ (ps = #[] ∨ ∃ c', ps = #[rawInt p.line, rawInt p.col, .ref c'] ∧ H c' = some (.own a) ∧ h.CodeRec (.ref c') q)
  | .met f x => h.get? a = some (PySem.W.methodObj (.ref f) (.ref x))
  | .ext φ => φ h ∧ (∃ o, h.get? a = some o) ∧ ∀ h1 h2 : Heap, φ h1 → (∀ o, h1.get? a = some o → h2.get? a = some o) → φ h2
def HOk (H : Hp) (h : Heap) : Prop := ∀ a o, H a = some o → ObjOk P w H h a o
end
section
variable {P : Program} {w : World} {H H' : Hp} {h h' : Heap} {a : Addr} {o : HO}
theorem ObjOk.lt (x : ObjOk P w H h a o) : a < h.objs.size := by
  cases o with
  | lst xs => obtain ⟨_, _, _, _, e⟩ := x; exact Heap.lt_size e
  | tup xs => obtain ⟨_, _, _, p⟩ := x; exact p.lt
  | dK kvs => obtain ⟨_, _, _, _, o, _, _, e, _⟩ := x; exact Heap.lt_size e
  | dT kvs => obtain ⟨_, _, _, _, o, _, _, e, _⟩ := x; exact Heap.lt_size e
  | set S n => obtain ⟨o, _, _, _, e, _⟩ := x; exact Heap.lt_size e
  | ins C dx fs => obtain ⟨_, _, _, e, _⟩ := x; exact Heap.lt_size e
  | own y => obtain ⟨_, e⟩ := x; exact Heap.lt_size e
  | xd fs => obtain ⟨_, ⟨_, _, _, e, _⟩, _⟩ := x; exact Heap.lt_size e
  | rng lo hi => obtain ⟨_, _, _, e⟩ := x; exact Heap.lt_size e
  | frz ob u => obtain ⟨e, _⟩ := x; exact Heap.lt_size e
  | tbl q p => obtain ⟨_, e, _⟩ := x; exact Heap.lt_size e
  | met f y => exact Heap.lt_size (show h.get? a = some _ from x)
  | ext φ => obtain ⟨_, ⟨_, e⟩, _⟩ := x; exact Heap.lt_size e
theorem Paired.mapP {α β : Type} {F G : α → β → Prop} : ∀ {l₁ : List α} {l₂ : List β}, Paired F l₁ l₂ → (∀ a b, F a b → G a b) → Paired G l₁ l₂
  | _, _, .nil, _ => .nil
  | _, _, .cons r t, f => .cons (f _ _ r) (Paired.mapP t f)
theorem ObjOk.stay (x : ObjOk P w H h a o) (k : ∀ b u, (b = a ∨ H b = some (.own a)) → h.get? b = some u → h'.get? b = some u)
    (ho : ∀ b, H b = some (.own a) → H' b = some (.own a)) (ht : ∀ b xs, H b = some (.tup xs) → H' b = some (.tup xs)) : ObjOk P w H' h' a o := by
  induction o with
  | lst xs => obtain ⟨z, its, n, r, e⟩ := x; exact ⟨z, its, n, r, k _ _ (.inl rfl) e⟩
  | tup xs => obtain ⟨z, its, r, ob, e, c⟩ := x; exact ⟨z, its, r, ob, k _ _ (.inl rfl) e, c⟩
  | dK kvs => obtain ⟨z, y, vs, r, ob, es, ep, e, c⟩ := x; exact ⟨z, y, vs, r, ob, es, ep, k _ _ (.inl rfl) e, c⟩
  | dT kvs =>
    obtain ⟨z, y, xs, r, ob, es, ep, e, c⟩ := x
    exact ⟨z, y, xs, Paired.mapP r fun p q z => ⟨z.1, ht _ _ z.2.1, z.2.2⟩, ob, es, ep, k _ _ (.inl rfl) e, c⟩
  | set S n => obtain ⟨ob, es, ep, t, e, c⟩ := x; exact ⟨ob, es, ep, t, k _ _ (.inl rfl) e, c⟩
  | ins C dx fs =>
    obtain ⟨d, z, ne, e, mA, ⟨od, es, ep, e2, c⟩, r⟩ := x
    exact ⟨ho _ d, z, ne, k _ _ (.inl rfl) e, mA, ⟨od, es, ep, k _ _ (.inr d) e2, c⟩, r⟩
  | own y => obtain ⟨ob, e⟩ := x; exact ⟨ob, k _ _ (.inl rfl) e⟩
  | xd fs => obtain ⟨mA, ⟨od, es, ep, e, c⟩, r⟩ := x; exact ⟨mA, ⟨od, es, ep, k _ _ (.inl rfl) e, c⟩, r⟩
  | rng lo hi => obtain ⟨t, u, v, e⟩ := x; exact ⟨t, u, v, k _ _ (.inl rfl) e⟩
  | frz ob u ih => obtain ⟨e, q⟩ := x; exact ⟨k _ _ (.inl rfl) e, ih q⟩
  | tbl q p =>
    obtain ⟨ps, e, z⟩ := x
    refine ⟨ps, k a _ (.inl rfl) e, ?_⟩
    rcases z with z | ⟨c', z1, z2, z3⟩
    · exact .inl z
    · obtain ⟨c, oc, vs, tq, hc, hoc, hdc, hq⟩ := z3
      have hc' : c' = c := by injection hc
      exact .inr ⟨c', z1, ho _ z2, c, oc, vs, tq, hc, k _ _ (.inr (hc' ▸ z2)) hoc, hdc, hq⟩
  | met f y =>
    have e : h.get? a = some (PySem.W.methodObj (.ref f) (.ref y)) := x
    show h'.get? a = some (PySem.W.methodObj (.ref f) (.ref y))
    exact k a _ (.inl rfl) e
  | ext φ => obtain ⟨p, ⟨o, e⟩, st⟩ := x; exact ⟨st _ _ p fun o q => k _ _ (.inl rfl) q, ⟨o, k _ _ (.inl rfl) e⟩, st⟩
theorem HOk.lt (x : HOk P w H h) (e : H a = some o) : a < h.objs.size := (x a o e).lt
theorem HOk.fresh (x : HOk P w H h) (e : h.objs.size ≤ a) : H a = none := by
  cases q : H a with
  | none => rfl
  | some u => exact absurd (Nat.lt_of_lt_of_le (x.lt q) e) (Nat.lt_irrefl _)
theorem HOk.kept (x : HOk P w H h) (k : ∀ b u, h.get? b = some u → h'.get? b = some u) : HOk P w H h' := fun a o e =>
  (x a o e).stay (fun b u _ q => k b u q) (fun _ q => q) fun _ _ q => q
theorem HOk.laid (x : HOk P w H h) (k : ∀ b u, h.get? b = some u → h'.get? b = some u) (hp : h.objs.size ≤ a) (new : ObjOk P w (upd H a o) h' a o) : HOk P w (upd H a o) h' := fun b u e => by
  have hn := x.fresh hp
  by_cases hb : b = a
  · subst hb; rw [upd_same] at e; cases e; exact new
  · rw [upd_ne hb] at e
    exact (x b u e).stay (fun c v _ q => k c v q) (fun c q => by rw [upd_ne (ne_of_none q hn)]; exact q) fun c xs q => by rw [upd_ne (ne_of_none q hn)]; exact q
end
def Rd (H : Hp) (a : Addr) (u : HO) : Prop := H a = some u ∨ ∃ o, H a = some (.frz o u)
theorem Rd.of {H : Hp} {a : Addr} {u : HO} (h : H a = some u) : Rd H a u := .inl h
theorem Rd.ok {P : Program} {w : World} {H : Hp} {h : Heap} {a : Addr} {u : HO} (r : Rd H a u) (x : HOk P w H h) : ObjOk P w H h a u := by
  rcases r with r | ⟨o, r⟩
  · exact x a u r
  · obtain ⟨_, q⟩ := x a _ r
    exact q
def Mut : Option HO → Prop
  | some (.lst _) => True
  | some (.dK _) => True
  | some (.dT _) => True
  | some (.set _ _) => True
  | some (.ins _ _ _) => True
  | some (.ext _) => True
  | _ => False
section
variable {P : Program} {w : World} {H : Hp} {h h' : Heap} {x e : Addr} {o' : HO}
theorem HOk.write (ok : HOk P w H h) (mu : Mut (H x)) (he : e = x ∨ H e = some (.own x)) (k : ∀ b u, b ≠ e → h.get? b = some u → h'.get? b = some u) (heo : ∃ u, h'.get? e = some u)
    (new : ObjOk P w (upd H x o') h' x o') : HOk P w (upd H x o') h' := fun b u q => by
  have nown : ∀ c y, H c = some (.own y) → c ≠ x := fun c y r z => by subst z; rw [r] at mu; exact mu
  have ntup : ∀ c xs, H c = some (.tup xs) → c ≠ x := fun c xs r z => by subst z; rw [r] at mu; exact mu
  by_cases hb : b = x
  · subst hb; rw [upd_same] at q; cases q; exact new
  · rw [upd_ne hb] at q
    by_cases hbe : b = e
    · have q' : H b = some (.own x) := by
        rcases he with z | z
        · exact absurd (hbe.trans z) hb
        · rw [hbe]; exact z
      rw [q] at q'; cases q'
      obtain ⟨v, hv⟩ := heo
      exact ⟨v, by rw [hbe]; exact hv⟩
    · refine (ok b u q).stay (fun c v hc r => k c v ?_ r) (fun c r => by rw [upd_ne (nown c b r)]; exact r) fun c xs r => by rw [upd_ne (ntup c xs r)]; exact r
      rcases hc with rfl | hc
      · exact hbe
      · rintro rfl
        rcases he with z | z
        · exact nown c b hc z
        · rw [hc] at z; cases z; exact hb rfl
end
structure Un (fs ex : List Addr) (H H' : Hp) (h h' : Heap) : Prop where
  keep : ∀ b o, h.get? b = some o → H b = none → b ∉ fs → b ∉ ex → h'.get? b = some o
  slot : ∀ b o, h.get? b = some o → H b = none → b ∈ fs → b ∉ ex → ∃ sl, h'.get? b = some { o with slots := sl }
  free : ∀ b o, h.get? b = some o → H b = none → b ∉ ex → H' b = none
  there : ∀ b o, h.get? b = some o → b ∉ ex → ∃ o', h'.get? b = some o'
  tups : ∀ b xs, H b = some (.tup xs) → H' b = some (.tup xs)
  frzs : ∀ b o u, H b = some (.frz o u) → H' b = some (.frz o u)
  tbls : ∀ b q p, H b = some (.tbl q p) → H' b = some (.tbl q p)
section
variable {fs fs' ex ex' : List Addr} {H H1 H2 : Hp} {h h1 h2 h' : Heap} {a x e : Addr} {o : HO}
theorem Un.any (u : Un fs ex H H1 h h1) {b : Addr} {ob : Obj} (q : h.get? b = some ob) (n : H b = none) (hx : b ∉ ex) : ∃ sl, h1.get? b = some { ob with slots := sl } := by
  by_cases hb : b ∈ fs
  · exact u.slot b ob q n hb hx
  · exact ⟨ob.slots, u.keep b ob q n hb hx⟩
theorem Un.trans (a : Un fs ex H H1 h h1) (b : Un fs ex H1 H2 h1 h2) : Un fs ex H H2 h h2 where
  keep := fun c ob q n hc hx => b.keep c ob (a.keep c ob q n hc hx) (a.free c ob q n hx) hc hx
  slot := fun c ob q n hc hx => by
    obtain ⟨sl, e1⟩ := a.slot c ob q n hc hx
    obtain ⟨sl', e2⟩ := b.slot c _ e1 (a.free c ob q n hx) hc hx
    exact ⟨sl', e2⟩
  free := fun c ob q n hx => by
    obtain ⟨o', e1⟩ := a.there c ob q hx
    exact b.free c o' e1 (a.free c ob q n hx) hx
  there := fun c ob q hx => by
    obtain ⟨o', e1⟩ := a.there c ob q hx
    exact b.there c o' e1 hx
  tups := fun c xs q => b.tups c xs (a.tups c xs q)
  frzs := fun c ob xs q => b.frzs c ob xs (a.frzs c ob xs q)
  tbls := fun c q p e => b.tbls c q p (a.tbls c q p e)
theorem Un.kept (k : ∀ b u, h.get? b = some u → h'.get? b = some u) : Un fs ex H H h h' :=
  ⟨fun b ob q _ _ _ => k b ob q, fun b ob q _ _ _ => ⟨ob.slots, k b ob q⟩, fun _ _ _ n _ => n, fun b ob q _ => ⟨ob, k b ob q⟩, fun _ _ q => q, fun _ _ _ q => q, fun _ _ _ q => q⟩
theorem Un.refl : Un fs ex H H h h := Un.kept fun _ _ q => q
theorem Un.laid (k : ∀ b u, h.get? b = some u → h'.get? b = some u) (hp : h.objs.size ≤ a) (hn : H a = none) : Un fs ex H (upd H a o) h h' where
  keep := fun b u q _ _ _ => k b u q
  slot := fun b u q _ _ _ => ⟨u.slots, k b u q⟩
  free := fun b u q n _ => by rw [upd_ne (Nat.ne_of_lt (Nat.lt_of_lt_of_le (Heap.lt_size q) hp))]; exact n
  there := fun b u q _ => ⟨u, k b u q⟩
  tups := fun b xs q => by rw [upd_ne (ne_of_none q hn)]; exact q
  frzs := fun b u xs q => by rw [upd_ne (ne_of_none q hn)]; exact q
  tbls := fun b q p e => by rw [upd_ne (ne_of_none e hn)]; exact e
theorem Un.write (mu : Mut (H x)) (he : e = x ∨ H e = some (.own x)) (k : ∀ b u, b ≠ e → h.get? b = some u → h'.get? b = some u) (heo : ∃ u, h'.get? e = some u) : Un fs ex H (upd H x o) h h' := by
  have hx : ∀ b, H b = none → b ≠ x := fun b n z => by subst z; rw [n] at mu; exact mu
  have hb : ∀ b, H b = none → b ≠ e := fun b n z => by
    subst z
    rcases he with r | r
    · exact hx b n r
    · rw [n] at r; cases r
  have hm : ∀ b u, H b = some u → ¬ Mut (some u) → b ≠ x := fun b u q nm z => by subst z; rw [q] at mu; exact nm mu
  refine ⟨fun b u q n _ _ => k b u (hb b n) q, fun b u q n _ _ => ⟨u.slots, k b u (hb b n) q⟩, fun b u q n _ => by rw [upd_ne (hx b n)]; exact n, fun b u q _ => ?_,
    fun b xs q => by rw [upd_ne (hm b _ q fun z => z)]; exact q, fun b u xs q => by rw [upd_ne (hm b _ q fun z => z)]; exact q, fun b q p e => by rw [upd_ne (hm b _ e fun z => z)]; exact e⟩
  by_cases hbe : b = e
  · subst hbe; exact heo
  · exact ⟨u, k b u hbe q⟩
theorem Un.mono (u : Un fs ex H H1 h h1) (hs : ∀ b ∈ fs, b ∈ fs') (hx : ∀ b ∈ ex, b ∈ ex') : Un fs' ex' H H1 h h1 :=
  ⟨fun b ob q n hb he => u.keep b ob q n (fun z => hb (hs b z)) fun z => he (hx b z), fun _ _ q n _ he => u.any q n fun z => he (hx _ z), fun b ob q n he => u.free b ob q n fun z => he (hx b z), fun b ob q he => u.there b ob q fun z => he (hx b z), u.tups, u.frzs, u.tbls⟩
end
def trk (h : Heap) (H : Hp) : List Addr := (List.range h.objs.size).filter fun a => (H a).isSome
def hidT (h : Heap) (H : Hp) : Heap := PySem.W.hideAll h (trk h H)
theorem hidT_size (h : Heap) (H : Hp) : (hidT h H).objs.size = h.objs.size := PySem.W.hideAll_size _ _
theorem hidT_get {h : Heap} {H : Hp} {b : Addr} {o : Obj} (e : h.get? b = some o) (n : H b = none) : (hidT h H).get? b = some o :=
  PySem.W.hideAll_get _ e fun hm => by
    have q : (H b).isSome = true := (List.mem_filter.mp hm).2
    rw [n] at q; simp at q
theorem of_hidT {h : Heap} {H : Hp} {b : Addr} {o : Obj} (e : (hidT h H).get? b = some o) : h.get? b = some o ∧ H b = none := by
  have e' : h.get? b = some o := PySem.W.of_hideAll (trk h H) e
  refine ⟨e', ?_⟩
  cases q : H b with
  | none => rfl
  | some x =>
    have hm : b ∈ trk h H := List.mem_filter.mpr ⟨List.mem_range.mpr (Heap.lt_size e'), by simp [q]⟩
    have z : (hidT h H).get? b = none := PySem.W.hideAll_none (trk h H) hm
    rw [z] at e; cases e
def allNews (g h : Heap) (L : Addr) : List (Addr × Obj) := (List.range h.objs.size).filterMap fun a => if a = L ∨ (g.get? a).isSome = true then none else (h.get? a).map fun o => (a, o)
theorem mem_allNews {g h : Heap} {L a : Addr} {o : Obj} (h1 : a ≠ L) (h2 : g.get? a = none) (h3 : h.get? a = some o) : (a, o) ∈ allNews g h L :=
  List.mem_filterMap.mpr ⟨a, List.mem_range.mpr (Heap.lt_size h3), by simp [h1, h2, h3]⟩
theorem of_mem_allNews {g h : Heap} {L : Addr} {p : Addr × Obj} (hp : p ∈ allNews g h L) : p.1 ≠ L ∧ g.get? p.1 = none ∧ h.get? p.1 = some p.2 := by
  obtain ⟨b, _, e⟩ := List.mem_filterMap.mp hp
  split at e
  · cases e
  · rename_i hn
    cases q : h.get? b with
    | none => rw [q] at e; simp at e
    | some u =>
      rw [q] at e
      simp only [Option.map_some, Option.some.injEq] at e
      subst e
      refine ⟨fun z => hn (.inl z), ?_, q⟩
      show g.get? b = none
      cases r : g.get? b with
      | none => rfl
      | some v => exact (hn (.inr (by simp [r]))).elim
def rest (g h : Heap) (L d : Addr) : List (Addr × Obj) := (allNews g h L).filter fun p => decide (p.1 ≠ d)
theorem news_all {g h : Heap} {L : Addr} : News g L h (allNews g h L) := fun p hp => let ⟨a, b, c⟩ := of_mem_allNews hp; ⟨c, a, b⟩
end L2
namespace L2
open PySem PySem.Spec PyProof.Rows
structure Mod (K : PySem.W.Frag) (mg : Str → Option Value) (base : Heap) : Prop where
  kin : K.In base
  glob : base.Ns mainGlobals mg
  blt : ∃ mb, base.Ns builtinsNs mb ∧ ∀ x : Str, x ≠ "__name__" → mb x = bootBuiltins x
  nolimit : base.NoLimit
  bm : ∃ bm ob, mg "__builtins__" = some (.ref bm) ∧ bm ≠ builtinsNs ∧ base.get? bm = some ob ∧ ob.cls = .type "module" ∧ ob.dict = some builtinsNs ∧ ob.data = .plain
structure Cx where
  prog : Program
  w : World
  K : PySem.W.Frag
  mg : Str → Option Value
  base : Heap
  A : Around
  N : List Str
  s₀ : Shared
  H₀ : Hp
  env : Env
  outer : List Env
  stack : List Env
  ex : List Addr
  fn : Str → Bool
  calm : Bool
  pn : List (Addr × Obj)
  xe : Value → Shared → Prop
def frs (l : List Env) : List Addr := l.filterMap (·.frame)
abbrev Cx.fs (X : Cx) : List Addr := frs X.outer
def Vis (sc : Scope) (x : Str) : Prop := sc.names.lookup x = some .local ∨ sc.names.lookup x = some .cell ∨ sc.names.lookup x = some .free
def Loc (sc : Scope) (x : Str) : Prop := sc.names.lookup x = some .local ∨ sc.names.lookup x = some .cell
def Look (env : Env) (h : Heap) (m : Str → Option Value) (x : Str) (u : Value) : Prop :=
  (env.kindOf x = some .local ∧ m x = some u) ∨ ((env.kindOf x = some .cell ∨ env.kindOf x = some .free) ∧ ∃ c, env.cells.lookup x = some c ∧ h.IsCell c (some u))
structure Cx.Ok (X : Cx) : Prop where
  mod : Mod X.K X.mg X.base
  kind : X.env.scope.kind = .function
  glob : X.env.globals = mainGlobals
  blt : X.env.builtins = builtinsNs
  above : X.s₀.heap.objs.size ≤ X.env.locals
  inj : ∀ x y c, X.env.cells.lookup x = some c → X.env.cells.lookup y = some c → x = y
  has : ∀ x, (X.env.kindOf x = some .cell ∨ X.env.kindOf x = some .free) → ∃ c, X.env.cells.lookup x = some c
  cab : ∀ x c, X.fn x = true → X.env.cells.lookup x = some c → X.s₀.heap.objs.size ≤ c
  hd : X.calm = true → X.A.handled = none
  frames : X.A.frames = some X.stack
  stk : X.stack = X.outer ∨ (X.stack = X.env :: X.outer ∧ X.env.frame = some X.env.locals)
  exf : ∀ b ∈ X.ex, b ≠ X.env.locals ∧ ∀ x c, X.env.cells.lookup x = some c → c ≠ b
  bs : ∀ b o, X.base.get? b = some o → X.s₀.heap.get? b = some o ∧ X.H₀ b = none
  bsz : X.base.objs.size ≤ X.s₀.heap.objs.size
  noex : ∀ b o, X.base.get? b = some o → b ∉ X.ex
  exfs : ∀ b ∈ X.ex, b ∉ X.fs
  funs : X.s₀.heap.FunFrames X.base X.outer
  frf : ∀ b ∈ X.fs, X.H₀ b = none
structure Inv (X : Cx) (pins : List (Addr × Obj)) (σ : List (Option V)) (H : Hp) (s : Shared) : Prop where
  ok : X.Ok
  os : s.os = X.s₀.os
  bare : AllBare s.gens
  base : Un X.fs X.ex X.H₀ H X.s₀.heap s.heap
  loc : ∃ m, s.heap.Ns X.env.locals m ∧ ∀ (i : Nat) (x : Str) (v : V), X.N[i]? = some x → σ[i]? = some (some v) → Vis X.env.scope x → ∃ u, RelV v u ∧ Look X.env s.heap m x u
  cell : ∀ x c, X.env.cells.lookup x = some c → ∃ v, s.heap.IsCell c v
  free : H X.env.locals = none
  freeC : ∀ x c, X.env.cells.lookup x = some c → H c = none
  pin : ∀ p ∈ X.pn ++ pins, s.heap.get? p.1 = some p.2 ∧ H p.1 = none ∧ p.1 ≠ X.env.locals ∧ p.1 ∉ X.fs ∧ ∀ v, p.2.data ≠ .cell v
  hok : HOk X.prog X.w H s.heap
  len : σ.length = X.N.length
section
variable {X : Cx} {pins : List (Addr × Obj)} {σ : List (Option V)} {H H' : Hp} {s : Shared} {h' : Heap}
theorem Cx.Ok.nofr (ok : X.Ok) {b : Addr} {o : Obj} (e : X.base.get? b = some o) : b ∉ X.fs := fun hb => by
  have := (ok.funs.mem hb).1
  rw [e] at this; cases this
theorem Inv.bs (I : Inv X pins σ H s) : ∀ b o, X.base.get? b = some o → s.heap.get? b = some o ∧ H b = none := fun b o e =>
  ⟨I.base.keep b o (I.ok.bs b o e).1 (I.ok.bs b o e).2 (I.ok.nofr e) (I.ok.noex b o e), I.base.free b o (I.ok.bs b o e).1 (I.ok.bs b o e).2 (I.ok.noex b o e)⟩
theorem Inv.bk (I : Inv X pins σ H s) : ∀ b o, X.base.get? b = some o → s.heap.get? b = some o := fun b o e => (I.bs b o e).1
theorem Inv.mod (I : Inv X pins σ H s) : Mod X.K X.mg X.base := I.ok.mod
theorem Inv.kIn (I : Inv X pins σ H s) : X.K.In s.heap := I.ok.mod.kin.keeps I.bk
theorem Inv.nolimit (I : Inv X pins σ H s) : s.heap.NoLimit := I.ok.mod.nolimit.keeps I.bk
theorem Inv.fr (I : Inv X pins σ H s) : ∃ m, Fr X.base X.env.locals s.heap m :=
  let ⟨m, hn, _⟩ := I.loc
  ⟨m, hn, I.bk, Nat.le_trans I.ok.bsz I.ok.above⟩
theorem Inv.lt (I : Inv X pins σ H s) : X.env.locals < s.heap.objs.size := let ⟨_, hn, _⟩ := I.loc; hn.lt
theorem Inv.sz (I : Inv X pins σ H s) : X.s₀.heap.objs.size ≤ s.heap.objs.size := Nat.le_trans I.ok.above (Nat.le_of_lt I.lt)
theorem Inv.nofs (I : Inv X pins σ H s) {a : Addr} (h : s.heap.objs.size ≤ a) : a ∉ X.fs := fun hb => by
  obtain ⟨_, o, ho, _⟩ := I.ok.funs.mem hb
  exact absurd (Nat.lt_of_lt_of_le (Heap.lt_size ho) (Nat.le_trans I.sz h)) (Nat.lt_irrefl _)
theorem Inv.cne (I : Inv X pins σ H s) : ∀ x c, X.env.cells.lookup x = some c → c ≠ X.env.locals := fun x c e z => by
  obtain ⟨v, o, ho, hd⟩ := I.cell x c e
  obtain ⟨m, ⟨o', es, ep, ho', hd', _⟩, _⟩ := I.loc
  rw [z, ho'] at ho; cases ho; rw [hd'] at hd; cases hd
theorem Inv.funs (I : Inv X pins σ H s) : s.heap.FunFrames X.base X.outer := by
  have all : ∀ (l : List Env), (∀ b ∈ frs l, b ∈ X.fs) → X.s₀.heap.FunFrames X.base l → s.heap.FunFrames X.base l := by
    intro l
    induction l with
    | nil => intro _ _; trivial
    | cons env r ih =>
      intro hs hl
      obtain ⟨hk, ⟨L, o, hf, hn, ho, hd⟩, hr⟩ := hl
      have hL : L ∈ X.fs := hs L (by unfold frs; rw [List.filterMap_cons, hf]; exact List.mem_cons_self)
      obtain ⟨sl, e⟩ := I.base.slot L o ho (I.ok.frf L hL) hL fun z => I.ok.exfs L z hL
      exact ⟨hk, ⟨L, _, hf, hn, e, hd⟩, ih (fun b hb => hs b (by unfold frs; rw [List.filterMap_cons, hf]; exact List.mem_cons_of_mem _ hb)) hr⟩
  exact all X.outer (fun _ hb => hb) I.ok.funs
theorem Inv.stack (I : Inv X pins σ H s) : s.heap.FunFrames X.base X.stack := by
  rcases I.ok.stk with e | ⟨e, hf⟩
  · rw [e]; exact I.funs
  · rw [e]
    obtain ⟨m, hn, _⟩ := I.loc
    refine .cons (by rw [I.ok.kind]; decide) hf hn ?_ I.funs
    exact Heap.get?_none_of_le (Nat.le_trans I.ok.bsz I.ok.above)
theorem Inv.stkSub (I : Inv X pins σ H s) : ∀ b ∈ frs X.stack, b ∈ X.env.locals :: X.fs := fun b hb => by
  rcases I.ok.stk with e | ⟨e, hf⟩
  · rw [e] at hb; exact List.mem_cons_of_mem _ hb
  · rw [e] at hb
    unfold frs at hb
    rw [List.filterMap_cons, hf] at hb
    exact hb
theorem Inv.stkFree (I : Inv X pins σ H s) : ∀ b ∈ frs X.stack, H b = none := fun b hb => by
  rcases List.mem_cons.mp (I.stkSub b hb) with e | hb
  · rw [e]; exact I.free
  · obtain ⟨_, o, ho, _⟩ := I.ok.funs.mem hb
    exact I.base.free b o ho (I.ok.frf b hb) fun z => I.ok.exfs b z hb
theorem Inv.step {g' : Array GenState} {t' : Nat} {d' : Drawn} {ch : List Addr} (I : Inv X pins σ H s)
    (hch : ∀ b ∈ ch, (b ∈ X.ex ∨ X.s₀.heap.objs.size ≤ b) ∧ b ≠ X.env.locals ∧ (∀ x c, X.env.cells.lookup x = some c → c ≠ b) ∧ ∀ p ∈ X.pn ++ pins, p.1 ≠ b)
    (keep : ∀ b o, b ≠ X.env.locals → b ∉ X.fs → b ∉ ch → s.heap.get? b = some o → H b = none → h'.get? b = some o)
    (slot : ∀ b o, b ≠ X.env.locals → b ∈ X.fs → b ∉ ch → s.heap.get? b = some o → H b = none → ∃ sl, h'.get? b = some { o with slots := sl }) (free : ∀ b o, b ∉ ch → s.heap.get? b = some o → H b = none → H' b = none)
    (there : ∀ b o, b ∉ ch → s.heap.get? b = some o → ∃ o', h'.get? b = some o')
    (tups : ∀ b xs, H b = some (.tup xs) → H' b = some (.tup xs)) (frzs : ∀ b o u, H b = some (.frz o u) → H' b = some (.frz o u)) (tbls : ∀ b q p, H b = some (.tbl q p) → H' b = some (.tbl q p))
    (ns : ∀ m, s.heap.Ns X.env.locals m → h'.Ns X.env.locals m) (hok : HOk X.prog X.w H' h') (hg : AllBare g') :
    Inv X pins σ H' { s with heap := h', gens := g', drawn := d', toks := t' } := by
  have neL : ∀ b o, X.s₀.heap.get? b = some o → b ≠ X.env.locals := fun b o e => Nat.ne_of_lt (Nat.lt_of_lt_of_le (Heap.lt_size e) I.ok.above)
  have neC : ∀ b o, X.s₀.heap.get? b = some o → b ∉ X.ex → b ∉ ch := fun b o e hx hb => by
    rcases (hch b hb).1 with z | z
    · exact hx z
    · exact absurd (Nat.lt_of_lt_of_le (Heap.lt_size e) z) (Nat.lt_irrefl _)
  have cellK : ∀ x c, X.env.cells.lookup x = some c → ∀ v, s.heap.IsCell c v → h'.IsCell c v := fun x c e v ⟨o, ho, hd⟩ => by
    have nch : c ∉ ch := fun z => (hch c z).2.2.1 x c e rfl
    by_cases hc : c ∈ X.fs
    · obtain ⟨sl, q⟩ := slot c o (I.cne x c e) hc nch ho (I.freeC x c e)
      exact ⟨_, q, hd⟩
    · exact ⟨o, keep c o (I.cne x c e) hc nch ho (I.freeC x c e), hd⟩
  refine ⟨I.ok, I.os, hg, ⟨fun b o e n hb hx => ?_, fun b o e n hb hx => ?_, fun b o e n hx => ?_, fun b o e hx => ?_, fun b xs e => tups b xs (I.base.tups b xs e), fun b o xs e => frzs b o xs (I.base.frzs b o xs e), fun b q p e => tbls b q p (I.base.tbls b q p e)⟩, ?_, fun x c e => ?_, ?_, fun x c e => ?_, fun p hp => ?_, hok, I.len⟩
  · exact keep b o (neL b o e) hb (neC b o e hx) (I.base.keep b o e n hb hx) (I.base.free b o e n hx)
  · obtain ⟨sl, e1⟩ := I.base.slot b o e n hb hx
    obtain ⟨sl', e2⟩ := slot b _ (neL b o e) hb (neC b o e hx) e1 (I.base.free b o e n hx)
    exact ⟨sl', e2⟩
  · obtain ⟨o', e1⟩ := I.base.there b o e hx
    exact free b o' (neC b o e hx) e1 (I.base.free b o e n hx)
  · obtain ⟨o', e1⟩ := I.base.there b o e hx
    exact there b o' (neC b o e hx) e1
  · obtain ⟨m, hn, hl⟩ := I.loc
    refine ⟨m, ns m hn, fun i x v e1 e2 e3 => ?_⟩
    obtain ⟨u, r, l⟩ := hl i x v e1 e2 e3
    refine ⟨u, r, ?_⟩
    rcases l with l | ⟨k, c, e, z⟩
    · exact .inl l
    · exact .inr ⟨k, c, e, cellK x c e _ z⟩
  · obtain ⟨v, z⟩ := I.cell x c e
    exact ⟨v, cellK x c e v z⟩
  · obtain ⟨m, ⟨o, _, _, ho, _⟩, _⟩ := I.loc
    exact free _ o (fun z => (hch _ z).2.1 rfl) ho I.free
  · obtain ⟨v, o, ho, hd⟩ := I.cell x c e
    exact free c o (fun z => (hch c z).2.2.1 x c e rfl) ho (I.freeC x c e)
  · obtain ⟨e, n, ne, nf, d⟩ := I.pin p hp
    have nch : p.1 ∉ ch := fun z => (hch p.1 z).2.2.2 p hp rfl
    exact ⟨keep p.1 p.2 ne nf nch e n, free p.1 p.2 nch e n, ne, nf, d⟩
theorem Inv.un {t' : Nat} (I : Inv X pins σ H s) (u : Un X.fs [] H H' s.heap h') (hok : HOk X.prog X.w H' h') : Inv X pins σ H' { s with heap := h', toks := t' } := by
  obtain ⟨m, ⟨o, es, ep, ho, r⟩, _⟩ := id I.loc
  obtain ⟨sl, hL⟩ := u.any ho I.free (by simp)
  exact I.step (g' := s.gens) (d' := s.drawn) (ch := []) (fun _ z => nomatch z) (fun b o _ hb _ e n => u.keep b o e n hb (by simp)) (fun b o _ hb _ e n => u.slot b o e n hb (by simp)) (fun b o _ e n => u.free b o e n (by simp)) (fun b o _ e => u.there b o e (by simp)) u.tups u.frzs u.tbls (fun m' hm => by
    obtain ⟨o', es', ep', ho', r'⟩ := hm
    rw [ho] at ho'; cases ho'
    exact ⟨_, es', ep', hL, r'⟩) hok I.bare
theorem Inv.call {g' : Array GenState} {t' : Nat} {d' : Drawn} {ch : List Addr} (I : Inv X pins σ H s) (u : Un (frs X.stack) ch H H' s.heap h') (hok : HOk X.prog X.w H' h') (hg : AllBare g')
    (hch : ∀ b ∈ ch, (b ∈ X.ex ∨ X.s₀.heap.objs.size ≤ b) ∧ b ≠ X.env.locals ∧ (∀ x c, X.env.cells.lookup x = some c → c ≠ b) ∧ ∀ p ∈ X.pn ++ pins, p.1 ≠ b) :
    Inv X pins σ H' { s with heap := h', gens := g', drawn := d', toks := t' } := by
  obtain ⟨m, ⟨o, es, ep, ho, r⟩, _⟩ := id I.loc
  obtain ⟨sl, hL⟩ := u.any ho I.free fun z => (hch _ z).2.1 rfl
  exact I.step (ch := ch) hch (fun b o hL hb hc e n => u.keep b o e n (fun z => (List.mem_cons.mp (I.stkSub b z)).elim hL hb) hc) (fun b o _ _ hc e n => u.any e n hc) (fun b o hc e n => u.free b o e n hc) (fun b o hc e => u.there b o e hc) u.tups u.frzs u.tbls (fun m' hm => by
    obtain ⟨o', es', ep', ho', r'⟩ := hm
    rw [ho] at ho'; cases ho'
    exact ⟨_, es', ep', hL, r'⟩) hok hg
theorem Inv.turned {t' : Nat} {it : Addr} (I : Inv X pins σ H s) (k : ∀ b o, b ≠ it → s.heap.get? b = some o → h'.get? b = some o) (hn : H it = none) (hL : it ≠ X.env.locals)
    (h1 : it ∈ X.ex ∨ X.s₀.heap.objs.size ≤ it) (h2 : ∀ x c, X.env.cells.lookup x = some c → c ≠ it) (h3 : ∀ p ∈ X.pn ++ pins, p.1 ≠ it) : Inv X pins σ H { s with heap := h', toks := t' } := by
  have nit : ∀ b u, H b = some u → b ≠ it := fun b u e z => by rw [z, hn] at e; cases e
  refine I.step (g' := s.gens) (d' := s.drawn) (ch := [it]) (fun b hb => ?_) (fun b o _ _ hc e _ => k b o (fun z => hc (by simp [z])) e) (fun b o _ _ hc e _ => ⟨o.slots, k b o (fun z => hc (by simp [z])) e⟩) (fun _ _ _ _ n => n)
    (fun b o hc e => ⟨o, k b o (fun z => hc (by simp [z])) e⟩) (fun _ _ e => e) (fun _ _ _ e => e) (fun _ _ _ e => e) (fun m hm => ?_) (fun b u e => ?_) I.bare
  · have e : b = it := by simpa using hb
    subst e
    exact ⟨h1, hL, h2, h3⟩
  · obtain ⟨o, es, ep, ho, r⟩ := hm
    exact ⟨o, es, ep, k _ o (Ne.symm hL) ho, r⟩
  · refine (I.hok b u e).stay (fun c v hc q => k c v ?_ q) (fun _ q => q) fun _ _ q => q
    rcases hc with z | z
    · rw [z]; exact nit b u e
    · exact nit c _ z
theorem Inv.tok (I : Inv X pins σ H s) (t : Nat) : Inv X pins σ H { s with toks := t } := I.un (h' := s.heap) (t' := t) Un.refl I.hok
theorem Inv.kept {t' : Nat} (I : Inv X pins σ H s) (k : ∀ b u, s.heap.get? b = some u → h'.get? b = some u) : Inv X pins σ H { s with heap := h', toks := t' } := I.un (Un.kept k) (I.hok.kept k)
theorem Inv.laid {a : Addr} {o : HO} {t' : Nat} (I : Inv X pins σ H s) (k : ∀ b u, s.heap.get? b = some u → h'.get? b = some u) (hp : s.heap.objs.size ≤ a) (new : ObjOk X.prog X.w (upd H a o) h' a o) :
    Inv X pins σ (upd H a o) { s with heap := h', toks := t' } := I.un (Un.laid k hp (I.hok.fresh hp)) (I.hok.laid k hp new)
theorem Inv.write {x e : Addr} {o : HO} {t' : Nat} (I : Inv X pins σ H s) (mu : Mut (H x)) (he : e = x ∨ H e = some (.own x)) (k : ∀ b u, b ≠ e → s.heap.get? b = some u → h'.get? b = some u) (heo : ∃ u, h'.get? e = some u)
    (new : ObjOk X.prog X.w (upd H x o) h' x o) : Inv X pins σ (upd H x o) { s with heap := h', toks := t' } := I.un (Un.write mu he k heo) (I.hok.write mu he k heo new)
theorem Inv.pins_of {pins' : List (Addr × Obj)} (I : Inv X pins σ H s) (h : ∀ p ∈ pins', s.heap.get? p.1 = some p.2 ∧ H p.1 = none ∧ p.1 ≠ X.env.locals ∧ p.1 ∉ X.fs ∧ ∀ v, p.2.data ≠ .cell v) : Inv X pins' σ H s :=
  ⟨I.ok, I.os, I.bare, I.base, I.loc, I.cell, I.free, I.freeC, fun p hp => (List.mem_append.mp hp).elim (fun z => I.pin p (List.mem_append_left _ z)) (h p), I.hok, I.len⟩
theorem nodup_ix {N : List Str} (hN : N.Nodup) {i j : Nat} {x : Str} (a : N[i]? = some x) (b : N[j]? = some x) : i = j := by
  obtain ⟨h1, e1⟩ := List.getElem?_eq_some_iff.mp a
  obtain ⟨h2, e2⟩ := List.getElem?_eq_some_iff.mp b
  exact (List.getElem_inj hN).mp (e1.trans e2.symm)
theorem store_ok2 {M : Model} {A : Around} {E : Value → Shared → Prop} {i : Nat} {x : Str} {v : V} {u : Value} {Q : Unit → Shared → Prop} (I : Inv X pins σ H s) (hN : X.N.Nodup) (hi : X.N[i]? = some x) (hx : Loc X.env.scope x) (r : RelV v u)
    (h : ∀ s', Inv X pins (σ.set i (some v)) H s' → (∃ a, Heap.SameBut a s.heap s'.heap ∧ (a = X.env.locals ∨ X.env.cells.lookup x = some a)) → Q () s') (hf : X.fn x = true ∨ X.env.scope.names.lookup x = some .local := by first | exact .inl rfl | exact .inr rfl | assumption) : wpAny M A (storeName X.env x u) Q E s := by
  obtain ⟨m, hn, hl⟩ := id I.loc
  have hcls : (X.env.scope.kind == .class || (X.env.scope.kind == .module && X.env.locals != X.env.globals)) = false := by rw [I.ok.kind]; rfl
  have hiσ : i < σ.length := by rw [I.len]; exact (List.getElem?_eq_some_iff.mp hi).1
  have cne := I.cne
  have tracked : ∀ {a : Addr} {h' : Heap}, (∃ o, s.heap.get? a = some o ∧ H a = none) → Heap.SameBut a s.heap h' → HOk X.prog X.w H h' := fun {a h'} ha hs b ob e => by
    obtain ⟨_, _, hfree⟩ := ha
    refine (I.hok b ob e).stay (fun c w' hc q => (hs.2 c ?_).trans q) (fun _ q => q) fun _ _ q => q
    rintro rfl
    rcases hc with rfl | hc
    · rw [hfree] at e; cases e
    · rw [hfree] at hc; cases hc
  rcases hx with hk | hk
  · refine wpAny_storeName_local hk hn (fun h' hn' hs => ?_) hcls
    obtain ⟨oL, _, _, hoL, _⟩ := id hn
    refine h _ ⟨I.ok, I.os, I.bare, ⟨fun b o e n hb hx => ?_, fun b o e n hb hx => ?_, I.base.free, fun b o e hx => ?_, I.base.tups, I.base.frzs, I.base.tbls⟩, ⟨_, hn', fun j y v' e1 e2 e3 => ?_⟩, fun y c e => ?_, I.free, I.freeC, fun p hp => ?_, tracked ⟨oL, hoL, I.free⟩ hs, by simpa using I.len⟩ ⟨_, hs, .inl rfl⟩
    · exact (hs.2 b (Nat.ne_of_lt (Nat.lt_of_lt_of_le (Heap.lt_size e) I.ok.above))).trans (I.base.keep b o e n hb hx)
    · obtain ⟨sl, e1⟩ := I.base.slot b o e n hb hx
      exact ⟨sl, (hs.2 b (Nat.ne_of_lt (Nat.lt_of_lt_of_le (Heap.lt_size e) I.ok.above))).trans e1⟩
    · obtain ⟨o', e1⟩ := I.base.there b o e hx
      exact ⟨o', (hs.2 b (Nat.ne_of_lt (Nat.lt_of_lt_of_le (Heap.lt_size e) I.ok.above))).trans e1⟩
    · by_cases hj : j = i
      · subst hj
        rw [hi] at e1; cases e1
        rw [List.getElem?_set_self hiσ] at e2
        cases e2
        exact ⟨u, r, .inl ⟨hk, by simp⟩⟩
      · rw [List.getElem?_set_ne (Ne.symm hj)] at e2
        obtain ⟨u', r', q⟩ := hl j y v' e1 e2 e3
        refine ⟨u', r', ?_⟩
        rcases q with ⟨k, e⟩ | ⟨k, c, e, z⟩
        · refine .inl ⟨k, ?_⟩
          have : y ≠ x := fun e => hj (nodup_ix hN e1 (e ▸ hi))
          simp [this, e]
        · exact .inr ⟨k, c, e, z.sameBut hs (cne y c e)⟩
    · obtain ⟨w', z⟩ := I.cell y c e
      exact ⟨w', z.sameBut hs (cne y c e)⟩
    · obtain ⟨e, n, ne, nf, d⟩ := I.pin p hp
      exact ⟨(hs.2 p.1 ne).trans e, n, ne, nf, d⟩
  · have hfn : X.fn x = true := by
      rcases hf with z | z
      · exact z
      · rw [z] at hk; cases hk
    obtain ⟨c, hc⟩ := I.ok.has x (.inl hk)
    obtain ⟨w', z⟩ := I.cell x c hc
    refine wpAny_storeName_cell I.ok.kind hk hc z (fun h' hc' hs => ?_)
    obtain ⟨oc, hoc, hocd⟩ := id z
    refine h { s with heap := h' } ⟨I.ok, I.os, I.bare, ⟨fun b o e n hb hx => ?_, fun b o e n hb hx => ?_, I.base.free, fun b o e hx => ?_, I.base.tups, I.base.frzs, I.base.tbls⟩, ⟨m, hn.sameBut hs (Ne.symm (cne x c hc)), fun j y v' e1 e2 e3 => ?_⟩, fun y c' e => ?_, I.free, I.freeC, fun p hp => ?_, tracked ⟨oc, hoc, I.freeC x c hc⟩ hs, by simpa using I.len⟩ ⟨c, hs, .inr hc⟩
    · exact (hs.2 b (Nat.ne_of_lt (Nat.lt_of_lt_of_le (Heap.lt_size e) (I.ok.cab x c hfn hc)))).trans (I.base.keep b o e n hb hx)
    · obtain ⟨sl, e1⟩ := I.base.slot b o e n hb hx
      exact ⟨sl, (hs.2 b (Nat.ne_of_lt (Nat.lt_of_lt_of_le (Heap.lt_size e) (I.ok.cab x c hfn hc)))).trans e1⟩
    · obtain ⟨o', e1⟩ := I.base.there b o e hx
      exact ⟨o', (hs.2 b (Nat.ne_of_lt (Nat.lt_of_lt_of_le (Heap.lt_size e) (I.ok.cab x c hfn hc)))).trans e1⟩
    · by_cases hj : j = i
      · subst hj
        rw [hi] at e1; cases e1
        rw [List.getElem?_set_self hiσ] at e2
        cases e2
        exact ⟨u, r, .inr ⟨.inl hk, c, hc, hc'⟩⟩
      · rw [List.getElem?_set_ne (Ne.symm hj)] at e2
        obtain ⟨u', r', q⟩ := hl j y v' e1 e2 e3
        refine ⟨u', r', ?_⟩
        rcases q with q | ⟨k, c', e, z'⟩
        · exact .inl q
        · refine .inr ⟨k, c', e, z'.sameBut hs ?_⟩
          rintro rfl
          exact hj (nodup_ix hN e1 (I.ok.inj _ _ _ e hc ▸ hi))
    · by_cases hcc : c' = c
      · subst hcc; exact ⟨_, hc'⟩
      · obtain ⟨w2, z2⟩ := I.cell y c' e
        exact ⟨w2, z2.sameBut hs hcc⟩
    · obtain ⟨e, n, ne, nf, d⟩ := I.pin p hp
      refine ⟨(hs.2 p.1 ?_).trans e, n, ne, nf, d⟩
      intro q
      rw [q, hoc] at e
      have q' : oc = p.2 := Option.some.inj e
      exact d w' (by rw [← q']; exact hocd)
theorem store_ok {M : Model} {A : Around} {E : Value → Shared → Prop} {i : Nat} {x : Str} {v : V} {u : Value} {Q : Unit → Shared → Prop} (I : Inv X pins σ H s) (hN : X.N.Nodup) (hi : X.N[i]? = some x) (hx : Loc X.env.scope x) (r : RelV v u)
    (h : ∀ s', Inv X pins (σ.set i (some v)) H s' → Q () s') (hf : X.fn x = true ∨ X.env.scope.names.lookup x = some .local := by first | exact .inl rfl | exact .inr rfl | assumption) : wpAny M A (storeName X.env x u) Q E s :=
  store_ok2 I hN hi hx r (fun s' I' _ => h s' I') hf
theorem Inv.call' {s' : Shared} {ch : List Addr} (I : Inv X pins σ H s) (ho : s'.os = s.os) (u : Un (frs X.stack) ch H H' s.heap s'.heap) (hok : HOk X.prog X.w H' s'.heap) (hg : AllBare s'.gens)
    (hch : ∀ b ∈ ch, (b ∈ X.ex ∨ X.s₀.heap.objs.size ≤ b) ∧ b ≠ X.env.locals ∧ (∀ x c, X.env.cells.lookup x = some c → c ≠ b) ∧ ∀ p ∈ X.pn ++ pins, p.1 ≠ b) : Inv X pins σ H' s' := by
  obtain ⟨h', g', d', t', o'⟩ := s'
  have e : o' = s.os := ho
  subst e
  exact I.call (g' := g') (t' := t') (d' := d') u hok hg hch
end
abbrev XK := Value → Option Addr → Hp → Prop
abbrev St := List (Option V)
abbrev VK := V → Hp → Prop
abbrev TE := St → Hp → VK → Prop
abbrev TT := St → Hp → (Bool → Hp → Prop) → Prop
abbrev TA := St → Hp → (List V → Hp → Prop) → Prop
structure Ends where
  nx : St → Hp → Prop
  rt : VK
  bk : St → Hp → Prop := fun _ _ => False
  ct : St → Hp → Prop := fun _ _ => False
abbrev TS := Ends → St → Hp → Prop
def EP (X : Cx) (pins : List (Addr × Obj)) (σ : St) (Q : VK) (u : Value) (s' : Shared) : Prop := ∃ v H', Inv X pins σ H' s' ∧ RelV v u ∧ Q v H'
def TP (X : Cx) (pins : List (Addr × Obj)) (σ : St) (Q : Bool → Hp → Prop) (b : Bool) (s' : Shared) : Prop := ∃ H', Inv X pins σ H' s' ∧ Q b H'
def AP (X : Cx) (pins : List (Addr × Obj)) (σ : St) (Q : List V → Hp → Prop) (us : List Value) (s' : Shared) : Prop := ∃ vs H', Inv X pins σ H' s' ∧ Vals vs us ∧ Q vs H'
def SP (X : Cx) (pins : List (Addr × Obj)) (D : Ends) (f : Flow) (s' : Shared) : Prop :=
  match f with
  | .next => ∃ σ' H', Inv X pins σ' H' s' ∧ D.nx σ' H'
  | .brk => ∃ σ' H', Inv X pins σ' H' s' ∧ D.bk σ' H'
  | .cont => ∃ σ' H', Inv X pins σ' H' s' ∧ D.ct σ' H'
  | .ret u => ∃ v σ' H', Inv X pins σ' H' s' ∧ RelV v u ∧ D.rt v H'
def PE (X : Cx) (e : Expr) (t : TE) : Prop :=
  ∀ (pins : List (Addr × Obj)) (s : Shared) (σ : St) (H : Hp) (Q : VK), Inv X pins σ H s → t σ H Q → wpAny (model X.prog X.w) X.A (eval e X.env) (EP X pins σ Q) X.xe s
def PT (X : Cx) (e : Expr) (t : TT) : Prop :=
  ∀ (pins : List (Addr × Obj)) (s : Shared) (σ : St) (H : Hp) (Q : Bool → Hp → Prop), Inv X pins σ H s → t σ H Q → wpAny (model X.prog X.w) X.A (isTrue e X.env (eval e X.env)) (TP X pins σ Q) X.xe s
def PW (X : Cx) (e : Expr) (t : TT) : Prop :=
  ∀ (whole : Sem Value) (pins : List (Addr × Obj)) (s : Shared) (σ : St) (H : Hp) (Q : Bool → Hp → Prop), Inv X pins σ H s → t σ H Q → wpAny (model X.prog X.w) X.A (isTrue e X.env whole) (TP X pins σ Q) X.xe s
theorem PW.pt {X : Cx} {e : Expr} {t : TT} (h : PW X e t) : PT X e t := h _
def PA (X : Cx) (es : List Expr) (t : TA) : Prop :=
  ∀ (pos : Pos) (pins : List (Addr × Obj)) (s : Shared) (σ : St) (H : Hp) (Q : List V → Hp → Prop), Inv X pins σ H s → t σ H Q → wpAny (model X.prog X.w) X.A (spliced (backTo pos (starEach es X.env))) (AP X pins σ Q) X.xe s
def PS (X : Cx) (st : Stmt) (t : TS) : Prop :=
  ∀ (pins : List (Addr × Obj)) (s : Shared) (σ : St) (H : Hp) (D : Ends), Inv X pins σ H s → t D σ H → wpAny (model X.prog X.w) X.A (exec st X.env) (SP X pins D) X.xe s
def PSs (X : Cx) (st : List Stmt) (t : TS) : Prop :=
  ∀ (pins : List (Addr × Obj)) (s : Shared) (σ : St) (H : Hp) (D : Ends), Inv X pins σ H s → t D σ H → wpAny (model X.prog X.w) X.A (execs st X.env) (SP X pins D) X.xe s
theorem thn {α : Type} {t : Sem α} {Q Q' : α → Shared → Prop} {M : Model} {A : Around} {E : Value → Shared → Prop} {s : Shared} (h : wpAny M A t Q E s) (hQ : ∀ a s, Q a s → Q' a s) : wpAny M A t Q' E s := wpAny_mono h hQ fun _ _ x => x
end L2
namespace L2
open PySem PySem.Spec PyProof.Rows
section
variable {X : Cx}
def tVar (i : Nat) : TE := fun σ H Q => ∃ v, σ[i]? = some (some v) ∧ Q v H
def tC (v : V) : TE := fun _ H Q => Q v H
theorem pe_var {i : Nat} {x : Str} {pos : Pos} (hN : X.N[i]? = some x) (hv : Vis X.env.scope x) (hd : (x == ("__debug__" : Str)) = false := by decide) (hcd : (x == ("__classdict__" : Str)) = false := by decide) : PE X (.Name x pos) (tVar i) := by
  intro pins s σ H Q I h
  obtain ⟨v, e, h⟩ := h
  obtain ⟨m, hn, hl⟩ := I.loc
  obtain ⟨u, r, l⟩ := hl i x v hN e hv
  have fin : EP X pins σ Q u s := ⟨v, H, I, r, h⟩
  rcases l with ⟨hk, hm⟩ | ⟨hk, c, hc, hcell⟩
  · exact wpAny_Name (wpAny_loadName_local I.ok.kind hk hn hm fin) hd
  · rcases hk with hk | hk
    · exact wpAny_Name (wpAny_loadName_cell I.ok.kind hk hc hcell fin) hd
    · exact wpAny_Name (wpAny_loadName_free I.ok.kind hk hc hcell fin hcd) hd
theorem pe_int {i j pos} : PE X (.Constant (.int i) j pos) (tC (.int i)) := fun _ _ _ H _ I h => wpAny_Constant_int ⟨.int i, H, I.tok _, ⟨_, rfl⟩, h⟩
theorem pe_bl {b j pos} : PE X (.Constant (.bool b) j pos) (tC (.bl b)) := fun _ _ _ H _ I h => Constant_bool ⟨.bl b, H, I, rfl, h⟩
theorem pe_non {j pos} : PE X (.Constant .none j pos) (tC .non) := fun _ _ _ H _ I h => Constant_none ⟨.non, H, I, rfl, h⟩
theorem pe_str {x j pos} : PE X (.Constant (.str x) j pos) (tC (.str x)) := fun _ _ _ H _ I h => Calls.Constant_str ⟨.str x, H, I.tok _, ⟨_, rfl⟩, h⟩
def Gl (X : Cx) (x : Str) : Prop := X.env.kindOf x = some .globalImplicit
theorem ld_glob {E : Value → Shared → Prop} {pins : List (Addr × Obj)} {s : Shared} {σ : St} {H : Hp} {x : Str} {u : Value} {pos : Pos} {Q : Value → Shared → Prop} (I : Inv X pins σ H s) (hg : Gl X x) (hm : X.mg x = some u) (h : Q u s)
    (hd : (x == ("__debug__" : Str)) = false := by decide) : wpAny (model X.prog X.w) X.A (eval (.Name x pos) X.env) Q E s :=
  Calls.Name_function_global I.ok.kind hg (Calls.loadGlobal_global (by rw [I.ok.glob]; exact I.mod.glob.keeps I.bk) hm h) hd
theorem ld_blt {E : Value → Shared → Prop} {pins : List (Addr × Obj)} {s : Shared} {σ : St} {H : Hp} {x : Str} {u : Value} {pos : Pos} {Q : Value → Shared → Prop} (I : Inv X pins σ H s) (hg : Gl X x) (hm : X.mg x = none) (hv : bootBuiltins x = some u) (h : Q u s)
    (hn : x ≠ "__name__" := by decide) (hd : (x == ("__debug__" : Str)) = false := by decide) : wpAny (model X.prog X.w) X.A (eval (.Name x pos) X.env) Q E s := by
  obtain ⟨mb, h1, h2⟩ := I.mod.blt
  exact Calls.Name_function_global I.ok.kind hg (Calls.loadGlobal_builtin (by rw [I.ok.glob]; exact I.mod.glob.keeps I.bk) hm (by rw [I.ok.blt]; exact h1.keeps I.bk) ((h2 x hn).trans hv) h) hd
theorem pe_glob {x : Str} {v : V} {u : Value} {pos : Pos} (hg : Gl X x) (hm : X.mg x = some u) (r : RelV v u) (hd : (x == ("__debug__" : Str)) = false := by decide) : PE X (.Name x pos) (tC v) :=
  fun _ _ _ H _ I h => ld_glob I hg hm ⟨v, H, I, r, h⟩ hd
theorem pe_bltn {x : Str} {v : V} {u : Value} {pos : Pos} (hg : Gl X x) (hm : X.mg x = none) (hv : bootBuiltins x = some u) (r : RelV v u) (hn : x ≠ "__name__" := by decide) (hd : (x == ("__debug__" : Str)) = false := by decide) : PE X (.Name x pos) (tC v) :=
  fun _ _ _ H _ I h => ld_blt I hg hm hv ⟨v, H, I, r, h⟩ hn hd
variable {a b : Expr} {ta tb : TE} {pos : Pos}
def PC (X : Cx) (op : CmpOp) (a b : Expr) (t : TE) : Prop :=
  ∀ (pins : List (Addr × Obj)) (s : Shared) (σ : St) (H : Hp) (Q : VK), Inv X pins σ H s → t σ H Q →
    wpAny (model X.prog X.w) X.A (eval a X.env) (fun v s₁ => wpAny (model X.prog X.w) X.A (eval b X.env) (fun u s₂ => wpAny (model X.prog X.w) X.A (compareOp op v u) (EP X pins σ Q) X.xe s₂) X.xe s₁) X.xe s
theorem nobehind (b : Expr) {op : CmpOp} (h : op ≠ .In) (h2 : op ≠ .NotIn) : behindInMarks op b = false := by
  have e1 : (op == CmpOp.In) = false := by cases op <;> first | rfl | exact absurd rfl h
  have e2 : (op == CmpOp.NotIn) = false := by cases op <;> first | rfl | exact absurd rfl h2
  cases b <;> simp [behindInMarks, e1, e2]
def tIsN (ta : TE) : TE := fun σ H Q => ta σ H fun x H1 => Q (.bl (decide (x = .non))) H1
def tNotN (ta : TE) : TE := fun σ H Q => ta σ H fun x H1 => Q (.bl (!decide (x = .non))) H1
theorem RelV.none_iff {x : V} {v : Value} (r : RelV x v) : (v == Value.none) = decide (x = .non) := by
  cases x with
  | non => cases r; rfl
  | bl _ => cases r; rfl
  | int _ => obtain ⟨t, rfl⟩ := r; rfl
  | str _ => obtain ⟨t, rfl⟩ := r; rfl
  | byt _ => obtain ⟨t, rfl⟩ := r; rfl
  | flt _ => obtain ⟨t, rfl⟩ := r; rfl
  | ref _ => cases r; rfl
  | ty _ => cases r; rfl
theorem pc_isN {j pos'} (ha : PE X a ta) : PC X .Is a (.Constant .none j pos') (tIsN ta) := by
  intro pins s σ H Q I h
  refine thn (ha pins s σ H _ I h) fun v s1 ⟨x, H1, I1, r1, q1⟩ => ?_
  exact Constant_none (is_none_gen ⟨.bl _, H1, I1, by rw [r1.none_iff]; rfl, q1⟩)
theorem pc_notN {j pos'} (ha : PE X a ta) : PC X .IsNot a (.Constant .none j pos') (tNotN ta) := by
  intro pins s σ H Q I h
  refine thn (ha pins s σ H _ I h) fun v s1 ⟨x, H1, I1, r1, q1⟩ => ?_
  exact Constant_none (isnot_none_gen ⟨.bl _, H1, I1, by rw [r1.none_iff]; rfl, q1⟩)
def tB (t : TE) : TT := fun σ H Q => t σ H fun x H1 => ∃ c, x = .bl c ∧ Q c H1
theorem pe_cmp {op : CmpOp} {t : TE} (h : PC X op a b t) (h1 : behindInMarks op b = false := by first | exact nobehind _ (by decide) (by decide) | rfl) : PE X (.Compare a [op] [b] pos) t := fun pins s σ H Q I hw => wpAny_Compare1 (h pins s σ H Q I hw) h1
theorem pt_cmp {op : CmpOp} {t : TE} (h : PC X op a b t) (h1 : behindInMarks op b = false := by first | exact nobehind _ (by decide) (by decide) | rfl) : PT X (.Compare a [op] [b] pos) (tB t) := by
  intro pins s σ H Q I hw
  refine wpAny_isTrue_Compare1 (thn (h pins s σ H _ I hw) fun v s1 h1 => thn h1 fun u s2 h2 => thn h2 fun c s3 ⟨x, H1, I1, r1, q1⟩ => ?_) h1
  obtain ⟨d, rfl, q⟩ := q1
  cases r1
  exact wpAny_truthy_bool ⟨H1, I1, q⟩
theorem pt_val {e : Expr} {t : TE} (h : PE X e t) (he : ∀ whole, isTrue e X.env whole = (do let v ← whole; standAt e.pos; holding [v] (truthy v)) := by intro _; rfl) : PT X e (tB t) := by
  intro pins s σ H Q I hw
  refine isTrue_plain (thn (h pins s σ H _ I hw) fun v s1 ⟨x, H1, I1, r1, q1⟩ => ?_) (he _)
  obtain ⟨d, rfl, q⟩ := q1
  cases r1
  exact wpAny_truthy_bool ⟨H1, I1, q⟩
variable {tA tB' : TT} {rest : List Expr}
def tAnd (t u : TT) : TT := fun σ H Q => t σ H fun c H1 => if c = true then u σ H1 Q else Q false H1
def tOr (t u : TT) : TT := fun σ H Q => t σ H fun c H1 => if c = true then Q true H1 else u σ H1 Q
def tNot (t : TT) : TT := fun σ H Q => t σ H fun c H1 => Q (!c) H1
theorem pw_and1 (ha : PT X a tA) : PW X (.BoolOp .And [a] pos) tA := by
  intro wh pins s σ H Q I h
  refine isTrue_and (thn (ha pins s σ H Q I h) fun c s1 e => ?_)
  cases c with
  | true => exact isTrue_and_nil e
  | false => exact e
theorem pw_or1 (ha : PT X a tA) : PW X (.BoolOp .Or [a] pos) tA := by
  intro wh pins s σ H Q I h
  refine isTrue_or (thn (ha pins s σ H Q I h) fun c s1 e => ?_)
  cases c with
  | false => exact isTrue_or_nil e
  | true => exact e
theorem pw_and (ha : PT X a tA) (hb : PW X (.BoolOp .And (b :: rest) pos) tB') : PW X (.BoolOp .And (a :: b :: rest) pos) (tAnd tA tB') := by
  intro wh pins s σ H Q I h
  refine isTrue_and (thn (ha pins s σ H _ I h) fun c s1 ⟨H1, I1, q1⟩ => ?_)
  cases c with
  | true => exact hb wh pins s1 σ H1 Q I1 q1
  | false => exact ⟨H1, I1, q1⟩
theorem pw_or (ha : PT X a tA) (hb : PW X (.BoolOp .Or (b :: rest) pos) tB') : PW X (.BoolOp .Or (a :: b :: rest) pos) (tOr tA tB') := by
  intro wh pins s σ H Q I h
  refine isTrue_or (thn (ha pins s σ H _ I h) fun c s1 ⟨H1, I1, q1⟩ => ?_)
  cases c with
  | true => exact ⟨H1, I1, q1⟩
  | false => exact hb wh pins s1 σ H1 Q I1 q1
theorem pt_not (ha : PT X a tA) : PT X (.UnaryOp .Not a pos) (tNot tA) := by
  intro pins s σ H Q I h
  exact isTrue_not (ha pins s σ H (fun c H1 => Q (!c) H1) I h)
def tAndV (ta tb : TE) : TE := fun σ H Q => ta σ H fun x H1 => ∃ c, x = .bl c ∧ if c = true then tb σ H1 Q else Q (.bl false) H1
def tOrV (ta tb : TE) : TE := fun σ H Q => ta σ H fun x H1 => ∃ c, x = .bl c ∧ if c = true then Q (.bl true) H1 else tb σ H1 Q
def tNotV (ta : TE) : TE := fun σ H Q => ta σ H fun x H1 => ∃ c, x = .bl c ∧ Q (.bl (!c)) H1
theorem pe_one {op} {t : TE} (h : PE X a t) : PE X (.BoolOp op [a] pos) t := fun pins s σ H Q I hw => BoolOp_one (h pins s σ H Q I hw)
theorem pe_and (ha : PE X a ta) (hb : PE X (.BoolOp .And (b :: rest) pos) tb) : PE X (.BoolOp .And (a :: b :: rest) pos) (tAndV ta tb) := by
  intro pins s σ H Q I h
  refine BoolOp_and (thn (ha pins s σ H _ I h) fun v s1 ⟨x, H1, I1, r1, q1⟩ => ?_)
  obtain ⟨c, rfl, q1⟩ := q1
  cases r1
  refine wpAny_truthy_bool ?_
  cases c with
  | true => exact hb pins s1 σ H1 Q I1 q1
  | false => exact ⟨.bl false, H1, I1, rfl, q1⟩
theorem pe_or (ha : PE X a ta) (hb : PE X (.BoolOp .Or (b :: rest) pos) tb) : PE X (.BoolOp .Or (a :: b :: rest) pos) (tOrV ta tb) := by
  intro pins s σ H Q I h
  refine BoolOp_or (thn (ha pins s σ H _ I h) fun v s1 ⟨x, H1, I1, r1, q1⟩ => ?_)
  obtain ⟨c, rfl, q1⟩ := q1
  cases r1
  refine wpAny_truthy_bool ?_
  cases c with
  | false => exact hb pins s1 σ H1 Q I1 q1
  | true => exact ⟨.bl true, H1, I1, rfl, q1⟩
theorem pe_not (ha : PE X a ta) : PE X (.UnaryOp .Not a pos) (tNotV ta) := by
  intro pins s σ H Q I h
  refine UnaryOp_ (thn (ha pins s σ H _ I h) fun v s1 ⟨x, H1, I1, r1, q1⟩ => ?_)
  obtain ⟨c, rfl, q1⟩ := q1
  cases r1
  exact not_of (wpAny_truthy_bool ⟨.bl (!c), H1, I1, rfl, q1⟩)
end
end L2
namespace L2
open PySem PySem.Spec PyProof.Rows
def SqL (K : PySem.W.Frag) (H : Hp) (a : Addr) (xs : List V) : Prop :=
  Rd H a (.lst xs) ∨
    ∃ (o : Obj) (its : Array Value) (n : Nat), K.lookup a = some o ∧ o.cls = .type "list" ∧ o.dict = none ∧ o.data = .seq its n ∧ its.size ≤ sizeLine ∧ Vals xs its.toList
def SqT (K : PySem.W.Frag) (H : Hp) (a : Addr) (xs : List V) : Prop :=
  Rd H a (.tup xs) ∨
    ∃ (o : Obj) (its : Array Value) (n : Nat), K.lookup a = some o ∧ o.cls = .type "tuple" ∧ o.data = .seq its n ∧ its.size ≤ sizeLine ∧ Vals xs its.toList
def absV : Value → Option V
  | .none => some .non
  | .bool b => some (.bl b)
  | .int i _ => some (.int i)
  | .str x _ => some (.str x)
  | .bytes b _ => some (.byt b)
  | .float b _ => some (.flt b)
  | .ref a => some (.ref a)
  | .type n => some (.ty n)
  | _ => none
theorem RelV.abs {x : V} {u : Value} (r : RelV x u) : absV u = some x := by
  cases x with
  | non => cases r; rfl
  | bl _ => cases r; rfl
  | int _ => obtain ⟨t, rfl⟩ := r; rfl
  | str _ => obtain ⟨t, rfl⟩ := r; rfl
  | byt _ => obtain ⟨t, rfl⟩ := r; rfl
  | flt _ => obtain ⟨t, rfl⟩ := r; rfl
  | ref _ => cases r; rfl
  | ty _ => cases r; rfl
theorem RelV.inj {x y : V} {u : Value} (r : RelV x u) (q : RelV y u) : x = y := Option.some.inj (r.abs.symm.trans q.abs)
theorem Vals.inj : ∀ {xs ys : List V} {us : List Value}, Vals xs us → Vals ys us → xs = ys
  | _, _, _, .nil, .nil => rfl
  | _, _, _, .cons r t, .cons r' t' => by rw [r.inj r', Vals.inj t t']
section
variable {X : Cx} {pins : List (Addr × Obj)} {σ : St} {H : Hp} {s : Shared} {a : Addr} {xs ys : List V}
theorem SqL.of {K : PySem.W.Frag} (h : H a = some (.lst xs)) : SqL K H a xs := .inl (.inl h)
theorem SqT.of {K : PySem.W.Frag} (h : H a = some (.tup xs)) : SqT K H a xs := .inl (.inl h)
theorem Inv.list (I : Inv X pins σ H s) (h : SqL X.K H a xs) : ∃ its : List Value, Vals xs its ∧ PlainL s.heap a its.toArray ∧ xs.length ≤ sizeLine := by
  rcases h with h | ⟨o, its, n, hk, hc, hd, hs, hz, r⟩
  · obtain ⟨z, its, n, r, e⟩ := h.ok I.hok
    exact ⟨its, r, ⟨_, n, e, rfl, rfl, rfl⟩, z⟩
  · refine ⟨its.toList, r, ⟨o, n, I.kIn a o hk, hc, hd, by simpa using hs⟩, ?_⟩
    have e := r.length
    simp only [Array.length_toList] at e
    omega
theorem Inv.tuple (I : Inv X pins σ H s) (h : SqT X.K H a xs) : ∃ its : List Value, Vals xs its ∧ IsTup s.heap a its.toArray ∧ xs.length ≤ sizeLine := by
  rcases h with h | ⟨o, its, n, hk, hc, hs, hz, r⟩
  · obtain ⟨z, its, r, p⟩ := h.ok I.hok
    exact ⟨its, r, p, z⟩
  · refine ⟨its.toList, r, ⟨o, I.kIn a o hk, hc, n, by simpa using hs⟩, ?_⟩
    have e := r.length
    simp only [Array.length_toList] at e
    omega
theorem Inv.list_inj (I : Inv X pins σ H s) (h : SqL X.K H a xs) (h' : SqL X.K H a ys) : xs = ys := by
  obtain ⟨its, r, ⟨o, n, e, _, _, d⟩, _⟩ := I.list h
  obtain ⟨its', r', ⟨o', n', e', _, _, d'⟩, _⟩ := I.list h'
  rw [e] at e'; cases e'
  rw [d] at d'
  injection d' with d1 _
  have : its = its' := by simpa using congrArg Array.toList d1
  subst this
  exact r.inj r'
theorem Inv.tuple_inj (I : Inv X pins σ H s) (h : SqT X.K H a xs) (h' : SqT X.K H a ys) : xs = ys := by
  obtain ⟨its, r, ⟨o, e, _, n, d⟩, _⟩ := I.tuple h
  obtain ⟨its', r', ⟨o', e', _, n', d'⟩, _⟩ := I.tuple h'
  rw [e] at e'; cases e'
  rw [d] at d'
  injection d' with d1 _
  have : its = its' := by simpa using congrArg Array.toList d1
  subst this
  exact r.inj r'
end
abbrev Cx.wish (X : Cx) (E : Value → Shared → Prop) : Cx := { X with xe := E }
abbrev Cx.nox (X : Cx) : Cx := X.wish fun _ _ => False
theorem Cx.Ok.wish {X : Cx} (ok : X.Ok) (E : Value → Shared → Prop) : (X.wish E).Ok :=
  ⟨ok.mod, ok.kind, ok.glob, ok.blt, ok.above, ok.inj, ok.has, ok.cab, ok.hd, ok.frames, ok.stk, ok.exf, ok.bs, ok.bsz, ok.noex, ok.exfs, ok.funs, ok.frf⟩
theorem Cx.Ok.unwish {X : Cx} {E : Value → Shared → Prop} (ok : (X.wish E).Ok) : X.Ok :=
  ⟨ok.mod, ok.kind, ok.glob, ok.blt, ok.above, ok.inj, ok.has, ok.cab, ok.hd, ok.frames, ok.stk, ok.exf, ok.bs, ok.bsz, ok.noex, ok.exfs, ok.funs, ok.frf⟩
section
variable {X : Cx} {pins : List (Addr × Obj)} {σ : St} {H : Hp} {s : Shared} {E : Value → Shared → Prop}
theorem Inv.wish (I : Inv X pins σ H s) (E : Value → Shared → Prop) : Inv (X.wish E) pins σ H s := ⟨I.ok.wish E, I.os, I.bare, I.base, I.loc, I.cell, I.free, I.freeC, I.pin, I.hok, I.len⟩
theorem Inv.unwish (I : Inv (X.wish E) pins σ H s) : Inv X pins σ H s := ⟨I.ok.unwish, I.os, I.bare, I.base, I.loc, I.cell, I.free, I.freeC, I.pin, I.hok, I.len⟩
theorem SP.unwish {D : Ends} {f : Flow} {s' : Shared} (h : SP (X.wish E) pins D f s') : SP X pins D f s' := by
  cases f with
  | next => obtain ⟨σ', H', I, q⟩ := h; exact ⟨σ', H', I.unwish, q⟩
  | brk => obtain ⟨σ', H', I, q⟩ := h; exact ⟨σ', H', I.unwish, q⟩
  | cont => obtain ⟨σ', H', I, q⟩ := h; exact ⟨σ', H', I.unwish, q⟩
  | ret u => obtain ⟨v, σ', H', I, r, q⟩ := h; exact ⟨v, σ', H', I.unwish, r, q⟩
theorem PE.nox {e : Expr} {t : TE} (h : PE X.nox e t) : PE X e t := fun pins s σ H Q I hw =>
  wpAny_mono (h pins s σ H Q (I.wish _) hw) (fun _ _ ⟨v, H', I', r, q⟩ => ⟨v, H', I'.unwish, r, q⟩) fun _ _ z => False.elim z
theorem PT.nox {e : Expr} {t : TT} (h : PT X.nox e t) : PT X e t := fun pins s σ H Q I hw =>
  wpAny_mono (h pins s σ H Q (I.wish _) hw) (fun _ _ ⟨H', I', q⟩ => ⟨H', I'.unwish, q⟩) fun _ _ z => False.elim z
theorem PSs.nox {st : List Stmt} {t : TS} (h : PSs X.nox st t) : PSs X st t := fun pins s σ H D I hw =>
  wpAny_mono (h pins s σ H D (I.wish _) hw) (fun _ _ q => q.unwish) fun _ _ z => False.elim z
end
section
variable {X : Cx} {st : Stmt} {rest : List Stmt} {t u : TS} {e : Expr} {te : TE} {pos : Pos}
def tNext : TS := fun D σ H => D.nx σ H
def tSeq (t u : TS) : TS := fun D σ H => t { D with nx := u D } σ H
theorem pss_nil : PSs X [] tNext := fun _ _ σ H _ I h => wpAny_execs_nil ⟨σ, H, I, h⟩
theorem pss_cons (h1 : PS X st t) (h2 : PSs X rest u) : PSs X (st :: rest) (tSeq t u) := by
  intro pins s σ H D I h
  refine wpAny_execs_cons (thn (h1 pins s σ H { D with nx := u D } I h) fun f s1 q => ?_)
  cases f with
  | next =>
    obtain ⟨σ', H', I', q⟩ := q
    exact h2 pins s1 σ' H' D I' q
  | ret v => exact q
  | brk => exact q
  | cont => exact q
theorem pss_one (h1 : PS X st t) : PSs X [st] t := by
  intro pins s σ H D I h
  refine wpAny_execs_cons (thn (h1 pins s σ H D I h) fun f s1 q => ?_)
  cases f with
  | next => exact wpAny_execs_nil q
  | ret v => exact q
  | brk => exact q
  | cont => exact q
theorem Inv.quiet {pins : List (Addr × Obj)} {σ : St} {H : Hp} {s : Shared} (I : Inv X pins σ H s) : interactive X.env = false := by simp [interactive, I.ok.kind]
def tDrop (te : TE) : TS := fun D σ H => te σ H fun _ H1 => D.nx σ H1
theorem ps_expr (he : PE X e te) (hs : swapsWith e none pos.line X.env = pure false := by rfl) : PS X (.Expr e pos) (tDrop te) := by
  intro pins s σ H D I h
  exact wpAny_Expr_any (thn (he pins s σ H _ I h) fun v s1 ⟨x, H1, I1, r1, q1⟩ => ⟨σ, H1, I1, q1⟩) I.quiet hs
def tRet (te : TE) : TS := fun D σ H => te σ H D.rt
theorem ps_ret (he : PE X e te) : PS X (.Return (some e) pos) (tRet te) := by
  intro pins s σ H D I h
  exact wpAny_Return_some (thn (he pins s σ H _ I h) fun v s1 ⟨x, H1, I1, r1, q1⟩ => ⟨x, σ, H1, I1, r1, q1⟩)
def tIfS (c : TT) (t u : TS) : TS := fun D σ H => c σ H fun b H1 => if b = true then t D σ H1 else u D σ H1
theorem ps_if {c : Expr} {a b : List Stmt} {tc : TT} (hc : PT X c tc) (ha : PSs X a t) (hb : PSs X b u) : PS X (.If c a b pos) (tIfS tc t u) := by
  intro pins s σ H D I h
  refine wpAny_If (thn (hc pins s σ H _ I h) fun d s1 ⟨H1, I1, q1⟩ => ?_)
  cases d with
  | true => exact ha pins s1 σ H1 D I1 q1
  | false => exact hb pins s1 σ H1 D I1 q1
end
abbrev TG := V → St → Hp → (St → Hp → Prop) → Prop
abbrev TGs := List V → St → Hp → (St → Hp → Prop) → Prop
def PG (X : Cx) (target : Expr) (t : TG) : Prop :=
  ∀ (pins : List (Addr × Obj)) (s : Shared) (σ : St) (H : Hp) (v : V) (u : Value) (Q : St → Hp → Prop), Inv X pins σ H s → RelV v u → t v σ H Q →
    wpAny (model X.prog X.w) X.A (assign target X.env u) (fun _ s' => ∃ σ' H', Inv X pins σ' H' s' ∧ Q σ' H') X.xe s
def PGs (X : Cx) (ts : List Expr) (t : TGs) : Prop :=
  ∀ (pins : List (Addr × Obj)) (s : Shared) (σ : St) (H : Hp) (vs : List V) (us : List Value) (Q : St → Hp → Prop), Inv X pins σ H s → Vals vs us → t vs σ H Q →
    wpAny (model X.prog X.w) X.A (assignInOrder ((assignEach ts X.env).map (·.2)) us) (fun _ s' => ∃ σ' H', Inv X pins σ' H' s' ∧ Q σ' H') X.xe s
abbrev TSet := V → V → V → Hp → (Hp → Prop) → Prop
section
variable {X : Cx} {pos : Pos}
def gName (i : Nat) : TG := fun v σ H Q => Q (σ.set i (some v)) H
theorem pg_name {i : Nat} {x : Str} (hN : X.N.Nodup) (hi : X.N[i]? = some x) (hx : Loc X.env.scope x) (hf : X.fn x = true ∨ X.env.scope.names.lookup x = some .local := by first | exact .inl rfl | exact .inr rfl | assumption) : PG X (.Name x pos) (gName i) := by
  intro pins s σ H v u Q I r h
  exact wpAny_assign_Name (store_ok I hN hi hx r (fun s' I' => ⟨_, H, I', h⟩) hf)
def gNil : TGs := fun vs σ H Q => vs = [] ∧ Q σ H
def gCons (t : TG) (u : TGs) : TGs := fun vs σ H Q => ∃ v r, vs = v :: r ∧ t v σ H fun σ' H' => u r σ' H' Q
theorem pgs_nil : PGs X [] gNil := by
  intro pins s σ H vs us Q I r h
  obtain ⟨e, h⟩ := h
  subst e
  cases r
  exact assignInOrder_nil ⟨σ, H, I, h⟩
theorem pgs_cons {e : Expr} {es : List Expr} {t : TG} {u : TGs} (h1 : PG X e t) (h2 : PGs X es u)
    (hs : (assignEach (e :: es) X.env).map (·.2) = assign e X.env :: (assignEach es X.env).map (·.2) := by rfl) : PGs X (e :: es) (gCons t u) := by
  intro pins s σ H vs us Q I r h
  obtain ⟨v, vr, e1, h⟩ := h
  subst e1
  cases r with
  | cons r rr =>
    rw [hs]
    refine assignInOrder_cons (thn (h1 pins s σ H _ _ _ I r h) fun _ s1 ⟨σ1, H1, I1, q1⟩ => ?_)
    exact h2 pins s1 σ1 H1 _ _ Q I1 rr q1
def gTup (K : PySem.W.Frag) (n : Nat) (t : TGs) : TG := fun v σ H Q => ∃ a xs, v = .ref a ∧ SqT K H a xs ∧ xs.length = n ∧ t xs σ H Q
theorem pg_tup {es : List Expr} {k : Nat} {t : TGs} {n : Nat} (hc : X.calm = true) (h : PGs X es t)
    (hn : (assignEach es X.env).length = n := by rfl) (hst : (assignEach es X.env).findIdx? (·.1) = none := by rfl) : PG X (.Tuple es k pos) (gTup X.K n t) := by
  intro pins s σ H v u Q I r hw
  obtain ⟨a, xs, e1, hq, hl, hw⟩ := hw
  subst e1
  cases r
  obtain ⟨its, rv, ht, hz⟩ := I.tuple hq
  refine assign_Tuple_tuple (I.ok.hd hc) ht (by simp [hn, ← hl, rv.length]) hst fun h' hx => ?_
  have I1 : Inv X pins σ H { s with heap := h' } := I.kept (t' := s.toks) fun b o e => hx b o (Nat.ne_of_lt (Heap.lt_size e)) e
  exact h pins _ σ H xs _ Q I1 (by simpa using rv) hw
def gSub (to ti : TE) (t : TSet) : TG := fun v σ H Q => to σ H fun o H1 => ti σ H1 fun i H2 => t o i v H2 fun H3 => Q σ H3
def tAsg (te : TE) (g : TG) : TS := fun D σ H => te σ H fun x H1 => g x σ H1 D.nx
theorem ps_asg {tg e : Expr} {te : TE} {g : TG} (he : PE X e te) (hg : PG X tg g) (hs : swapsWithSole [tg] e pos.line X.env = pure false := by rfl) (hw : swappedStores [tg] e X.env = pure none := by rfl)
    (h1 : (assignEach [tg] X.env).map (·.2) = [assign tg X.env] := by rfl) : PS X (.Assign [tg] e pos) (tAsg te g) := by
  intro pins s σ H D I h
  refine wpAny_Assign_stores (thn (he pins s σ H _ I h) fun v s1 ⟨x, H1, I1, r1, q1⟩ => ?_) hs hw
  rw [h1]
  exact thn (hg pins s1 σ H1 x v _ I1 r1 q1) fun _ s2 q => q
theorem ps_set {i : Nat} {x : Str} {e : Expr} {te : TE} {pos' : Pos} (hN : X.N.Nodup) (hi : X.N[i]? = some x) (hx : Loc X.env.scope x) (he : PE X e te) (hs : swapsWith e (some (.Name x pos')) pos.line X.env = pure false := by rfl) (hf : X.fn x = true ∨ X.env.scope.names.lookup x = some .local := by first | exact .inl rfl | exact .inr rfl | assumption) :
    PS X (.Assign [.Name x pos'] e pos) (tAsg te (gName i)) := by
  intro pins s σ H D I h
  refine wpAny_Assign_Name (thn (he pins s σ H _ I h) fun v s1 ⟨y, H1, I1, r1, q1⟩ => ?_) hs
  exact store_ok I1 hN hi hx r1 (fun s2 I2 => ⟨_, H1, I2, q1⟩) hf
end
section
variable {X : Cx} {pos : Pos}
def tWhile (c : TT) (tb : TS) : TS := fun D σ H => ∃ W : Nat → St → Hp → Prop, (∃ m, W m σ H) ∧ ∀ m σ H, W m σ H →
  c σ H fun b H1 => if b = true then ∃ N : St → Hp → Prop, (∀ σ' H', N σ' H' → ∃ m', m' < m ∧ W m' σ' H') ∧ tb { D with nx := N, ct := N, bk := D.nx } σ H1 else D.nx σ H1
theorem ps_while {c : Expr} {body : List Stmt} {tc : TT} {tb : TS} (hp : PassesOwn (model X.prog X.w) X.A X.env X.xe) (hc : PT X c tc) (hb : PSs X body tb) : PS X (.While c body [] pos) (tWhile tc tb) := by
  intro pins s σ H D I h
  obtain ⟨W, ⟨m0, w0⟩, turn⟩ := h
  refine wpAny_While (codeAny_whileLoop (fun n s' => ∃ σ' H', Inv X pins σ' H' s' ∧ W n σ' H') ?_ m0 ⟨σ, H, I, w0⟩)
  rintro n s1 ⟨σ1, H1, I1, w1⟩
  refine wpAny_passesOwn hp (thn (hc pins s1 σ1 H1 _ I1 (turn n σ1 H1 w1)) fun b s2 ⟨H2, I2, q2⟩ => ?_)
  cases b with
  | true =>
    obtain ⟨N, hN, q2⟩ := q2
    rw [if_pos rfl]
    refine wpAny_passesOwn hp (thn (hb pins s2 σ1 H2 _ I2 q2) fun f s3 q3 => ?_)
    cases f with
    | next =>
      obtain ⟨σ3, H3, I3, n3⟩ := q3
      obtain ⟨m', hm, w3⟩ := hN σ3 H3 n3
      exact ⟨m', hm, σ3, H3, I3, w3⟩
    | cont =>
      obtain ⟨σ3, H3, I3, n3⟩ := q3
      obtain ⟨m', hm, w3⟩ := hN σ3 H3 n3
      exact ⟨m', hm, σ3, H3, I3, w3⟩
    | brk => exact q3
    | ret v => exact q3
  | false =>
    rw [if_neg Bool.false_ne_true]
    exact wpAny_execs_nil ⟨σ1, H2, I2, q2⟩
end
structure It where
  go : Nat → Hp → Prop
  yld : Nat → Hp → V → Hp → Prop
  stop : Nat → Hp → Prop
def FpOk (X : Cx) (pins : List (Addr × Obj)) (H : Hp) (b : Addr) : Prop :=
  H b = none ∧ b ≠ X.env.locals ∧ b ∉ X.fs ∧ (b ∈ X.ex ∨ X.s₀.heap.objs.size ≤ b) ∧ (∀ x c, X.env.cells.lookup x = some c → c ≠ b) ∧ ∀ p ∈ X.pn ++ pins, p.1 ≠ b
theorem Inv.fpOk {X : Cx} {pins : List (Addr × Obj)} {σ : St} {H H' : Hp} {s : Shared} {b : Addr} (I : Inv X pins σ H s) (hb : s.heap.objs.size ≤ b) (hn : H' b = none) : FpOk X pins H' b := by
  refine ⟨hn, Nat.ne_of_gt (Nat.lt_of_lt_of_le I.lt hb), I.nofs hb, .inr (Nat.le_trans I.sz hb), fun x c e z => ?_, fun p hp z => ?_⟩
  · obtain ⟨v, q⟩ := I.cell x c e
    exact absurd (Nat.lt_of_lt_of_le q.lt (by rw [z]; exact hb)) (Nat.lt_irrefl _)
  · exact absurd (Nat.lt_of_lt_of_le (Heap.lt_size (I.pin p hp).1) (by rw [z]; exact hb)) (Nat.lt_irrefl _)
structure Turn (P : Program) (w : World) (K : PySem.W.Frag) (tg : Expr) (J : It) (fp : List Addr) (it : Addr) (tn : Nat → Heap → Prop) : Prop where
  mem : it ∈ fp
  obj : ∀ i h, tn i h → ∀ b ∈ fp, ∃ o, h.get? b = some o ∧ ∀ v, o.data ≠ .cell v
  keep : ∀ i h h', tn i h → (∀ b ∈ fp, ∀ o, h.get? b = some o → h'.get? b = some o) → tn i h'
  item : ∀ (X : Cx), X.prog = P → X.w = w → X.K = K → X.calm = true → ∀ (i : Nat) (pins : List (Addr × Obj)) (s : Shared) (σ : St) (H : Hp) (E : Value → Shared → Prop), Inv X pins σ H s → (∀ b ∈ fp, FpOk X pins H b) → tn i s.heap → J.go i H →
    wpAny (model P w) X.A (pyNext (.ref it)) (fun r s1 => ∃ u, r = some u ∧
      wpAny (model P w) X.A (letOwnedTupleGo tg (.ref it) u) (fun _ s2 => ∃ x H', Inv X pins σ H' s2 ∧ RelV x u ∧ J.yld i H x H' ∧ tn (i + 1) s2.heap ∧ ∀ b ∈ fp, H' b = none) E s1) E s
  done : ∀ (X : Cx), X.prog = P → X.w = w → X.K = K → X.calm = true → ∀ (i : Nat) (pins : List (Addr × Obj)) (s : Shared) (σ : St) (H : Hp) (E : Value → Shared → Prop), Inv X pins σ H s → (∀ b ∈ fp, FpOk X pins H b) → tn i s.heap → J.stop i H →
    wpAny (model P w) X.A (pyNext (.ref it)) (fun r s1 => r = none ∧ Inv X pins σ H s1) E s
  self : ∀ (A : Around) (i : Nat) (s : Shared) (Q : Value → Shared → Prop) (E : Value → Shared → Prop), tn i s.heap → Q (.ref it) s → wpAny (model P w) A (pyIter (.ref it)) Q E s
abbrev TI := St → Hp → (It → Hp → Prop) → Prop
def PIE (X : Cx) (pins : List (Addr × Obj)) (σ : St) (tg : Expr) (R : It → Hp → Prop) (itv : Value) (s2 : Shared) : Prop :=
  ∃ (it : Addr) (fp : List Addr) (tn : Nat → Heap → Prop) (J : It) (H' : Hp), itv = .ref it ∧ Inv X pins σ H' s2 ∧ Turn X.prog X.w X.K tg J fp it tn ∧ tn 0 s2.heap ∧ (∀ b ∈ fp, FpOk X pins H' b) ∧ R J H'
def PI (X : Cx) (tg iter : Expr) (wi : TI) : Prop :=
  ∀ (pins : List (Addr × Obj)) (s : Shared) (σ : St) (H : Hp) (R : It → Hp → Prop), Inv X pins σ H s → wi σ H R →
    wpAny (model X.prog X.w) X.A (eval iter X.env) (fun v s1 => wpAny (model X.prog X.w) X.A (pyIter v) (PIE X pins σ tg R) X.xe s1) X.xe s
theorem go_of {M : Model} {A : Around} {E : Value → Shared → Prop} {s : Shared} {tg : Expr} {it : Addr} {u : Value} {o : Obj} {n : String} {vs : Array Value} {Q : Unit → Shared → Prop} (ho : s.heap.get? it = some o) (hc : o.cls = .type n) (hd : o.data = .fields vs)
    (hn : ["enumerate", "zip", "dict_itemiterator", "dict_reverseitemiterator", "odict_iterator", "itertools.zip_longest", "itertools.pairwise"].contains n = false) (hQ : Q () s) : wpAny M A (letOwnedTupleGo tg (.ref it) u) Q E s := by
  unfold letOwnedTupleGo
  cases tg <;> first
    | exact wpAny_pure hQ
    | (cases u <;> first
        | exact wpAny_pure hQ
        | (refine wpAny_bind (wpAny_load ho ?_)
           rw [hc, hd]
           show wpAny M A (if (["enumerate", "zip", "dict_itemiterator", "dict_reverseitemiterator", "odict_iterator", "itertools.zip_longest", "itertools.pairwise"].contains n && vs[0]? == some (rawInt _)) = true then _ else _) Q E s
           rw [if_neg (by intro h; rw [hn, Bool.false_and] at h; cases h)]
           exact wpAny_pure hQ))
def Itl (K : PySem.W.Frag) (a : Addr) : It :=
  ⟨fun i H => ∃ xs x, SqL K H a xs ∧ xs[i]? = some x, fun i H x H' => H' = H ∧ ∀ xs, SqL K H a xs → xs[i]? = some x, fun i H => ∃ xs, SqL K H a xs ∧ xs.length ≤ i⟩
def Itt (K : PySem.W.Frag) (a : Addr) : It :=
  ⟨fun i H => ∃ xs x, SqT K H a xs ∧ xs[i]? = some x, fun i H x H' => H' = H ∧ ∀ xs, SqT K H a xs → xs[i]? = some x, fun i H => ∃ xs, SqT K H a xs ∧ xs.length ≤ i⟩
def Itr (lo : Int) (n : Nat) : It := ⟨fun i _ => i < n, fun i H x H' => H' = H ∧ x = .int (lo + i), fun i _ => n ≤ i⟩
theorem turn_list {P : Program} {w : World} {K : PySem.W.Frag} {tg : Expr} (a it : Addr) : Turn P w K tg (Itl K a) [it] it (fun i h => h.IsListIter it a i) where
  mem := by simp
  obj := fun i h st b hb => by
    have e : b = it := by simpa using hb
    subst e
    obtain ⟨o, e, c, d⟩ := st
    exact ⟨o, e, fun v z => by rw [d] at z; cases z⟩
  keep := fun i h h' st k => st.at fun o e => k it (by simp) o e
  item := by
    intro X hP hw hK hc i pins s σ H E I hf st hg
    subst hP hw hK
    obtain ⟨xs, x, hq, hx⟩ := hg
    obtain ⟨its, rv, p, hz⟩ := I.list hq
    obtain ⟨u, hu, ru⟩ := rv.get hx
    obtain ⟨f0, f1, f2, f3, f4, f5⟩ := hf it (by simp)
    refine wpAny_pyNext_list_item st p.isList (x := u) (by simpa using hu) fun h' st' sb => ?_
    have I1 : Inv X pins σ H { s with heap := h' } := I.turned (t' := s.toks) (fun b o hb e => (sb.2 b hb).trans e) f0 f1 f3 f4 f5
    obtain ⟨o, e, c, d⟩ := id st'
    exact ⟨u, rfl, go_of (s := { s with heap := h' }) e c d (by decide) ⟨x, H, I1, ru, ⟨rfl, fun ys hy => by rw [I.list_inj hy hq]; exact hx⟩, st', fun b hb => (hf b hb).1⟩⟩
  done := by
    intro X hP hw hK hc i pins s σ H E I hf st hg
    subst hP hw hK
    obtain ⟨xs, hq, hx⟩ := hg
    obtain ⟨its, rv, p, hz⟩ := I.list hq
    obtain ⟨f0, f1, f2, f3, f4, f5⟩ := hf it (by simp)
    have hl := rv.length
    exact wpAny_pyNext_list_end (I.ok.hd hc) st p.isList (by simp; omega) fun h' eb => ⟨rfl, I.turned (t' := s.toks) (fun b o hb e => eb b o hb e) f0 f1 f3 f4 f5⟩
  self := fun _ _ _ _ _ st h => wpAny_pyIter_listiter st h
theorem turn_tuple {P : Program} {w : World} {K : PySem.W.Frag} {tg : Expr} (a it : Addr) : Turn P w K tg (Itt K a) [it] it (fun i h => h.IsTupleIter it a i) where
  mem := by simp
  obj := fun i h st b hb => by
    have e : b = it := by simpa using hb
    subst e
    obtain ⟨o, e, c, d⟩ := st
    exact ⟨o, e, fun v z => by rw [d] at z; cases z⟩
  keep := fun i h h' st k => st.at fun o e => k it (by simp) o e
  item := by
    intro X hP hw hK hc i pins s σ H E I hf st hg
    subst hP hw hK
    obtain ⟨xs, x, hq, hx⟩ := hg
    obtain ⟨its, rv, p, hz⟩ := I.tuple hq
    obtain ⟨u, hu, ru⟩ := rv.get hx
    obtain ⟨f0, f1, f2, f3, f4, f5⟩ := hf it (by simp)
    refine wpAny_pyNext_tuple_item st (show s.heap.IsTuple a its.toArray from p) (x := u) (by simpa using hu) fun h' st' sb => ?_
    have I1 : Inv X pins σ H { s with heap := h' } := I.turned (t' := s.toks) (fun b o hb e => (sb.2 b hb).trans e) f0 f1 f3 f4 f5
    obtain ⟨o, e, c, d⟩ := id st'
    exact ⟨u, rfl, go_of (s := { s with heap := h' }) e c d (by decide) ⟨x, H, I1, ru, ⟨rfl, fun ys hy => by rw [I.tuple_inj hy hq]; exact hx⟩, st', fun b hb => (hf b hb).1⟩⟩
  done := by
    intro X hP hw hK hc i pins s σ H E I hf st hg
    subst hP hw hK
    obtain ⟨xs, hq, hx⟩ := hg
    obtain ⟨its, rv, p, hz⟩ := I.tuple hq
    obtain ⟨f0, f1, f2, f3, f4, f5⟩ := hf it (by simp)
    have hl := rv.length
    exact wpAny_pyNext_tuple_end (I.ok.hd hc) st (show s.heap.IsTuple a its.toArray from p) (by simp; omega) fun h' eb => ⟨rfl, I.turned (t' := s.toks) (fun b o hb e => eb b o hb e) f0 f1 f3 f4 f5⟩
  self := fun _ _ _ _ _ st h => wpAny_pyIter_tupleiter st h
theorem turn_range {P : Program} {w : World} {K : PySem.W.Frag} {tg : Expr} (it : Addr) (lo : Int) (n : Nat) : Turn P w K tg (Itr lo n) [it] it (fun i h => IsRangeIter h it (lo + (i : Nat) * 1) ((n : Int) - (i : Nat)) 1) where
  mem := by simp
  obj := fun i h st b hb => by
    have e : b = it := by simpa using hb
    subst e
    exact ⟨_, st, fun v z => by
      have z' : Data.fields _ = Data.cell v := z
      cases z'⟩
  keep := fun i h h' st k => k it (by simp) _ st
  item := by
    intro X hP hw hK hc i pins s σ H E I hf st hg
    subst hP hw hK
    obtain ⟨f0, f1, f2, f3, f4, f5⟩ := hf it (by simp)
    have W := Walks.range (prog := X.prog) (w := X.w) (I.ok.hd hc) it lo 1 n
    refine W.item i s _ _ hg st fun v h' tk hv st' kk => ?_
    obtain ⟨t, rfl⟩ := hv
    have I1 : Inv X pins σ H { s with heap := h', toks := tk } := I.turned (fun b o hb e => kk b o (by simpa using hb) e) f0 f1 f3 f4 f5
    refine ⟨_, rfl, go_of (s := { s with heap := h', toks := tk }) (n := "range_iterator") st' rfl rfl (by decide) ⟨.int (lo + i), H, I1, ⟨t, ?_⟩, ⟨rfl, rfl⟩, st', fun b hb => (hf b hb).1⟩⟩
    rw [Int.mul_one]
  done := by
    intro X hP hw hK hc i pins s σ H E I hf st hg
    subst hP hw hK
    obtain ⟨f0, f1, f2, f3, f4, f5⟩ := hf it (by simp)
    exact wpAny_pyNext_range_end (I.ok.hd hc) st (by have : n ≤ i := hg; omega) fun h' eb => ⟨rfl, I.turned (t' := s.toks) (fun b o hb e => eb b o hb e) f0 f1 f3 f4 f5⟩
  self := fun _ _ _ _ _ st h => wpAny_pyIter_rangeiter st h
end L2
namespace L2
open PySem PySem.Spec PyProof.Rows
section
variable {X : Cx} {tg : Expr}
def iList (K : PySem.W.Frag) (tl : TE) : TI := fun σ H R => tl σ H fun x H1 => ∃ a, x = .ref a ∧ (∃ xs, SqL K H1 a xs) ∧ R (Itl K a) H1
def iTup (K : PySem.W.Frag) (tl : TE) : TI := fun σ H R => tl σ H fun x H1 => ∃ a, x = .ref a ∧ (∃ xs, SqT K H1 a xs) ∧ R (Itt K a) H1
theorem pi_list {l : Expr} {tl : TE} (hl : PE X l tl) : PI X tg l (iList X.K tl) := by
  intro pins s σ H R I h
  refine thn (hl pins s σ H _ I h) fun v s1 ⟨x, H1, I1, r1, q1⟩ => ?_
  obtain ⟨a, e, ⟨xs, hq⟩, q⟩ := q1
  subst e
  cases r1
  obtain ⟨its, rv, p, hz⟩ := I1.list hq
  refine wpAny_pyIter_list p.isList ?_
  refine ⟨s1.heap.objs.size, [s1.heap.objs.size], _, _, H1, rfl, I1.kept (t' := s1.toks) fun b o e => Heap.get?_push_of_some _ e, turn_list a _, ⟨_, Heap.get?_push_size _ rfl, rfl, rfl⟩, fun b hb => ?_, q⟩
  have e : b = s1.heap.objs.size := by simpa using hb
  subst e
  exact I1.fpOk (Nat.le_refl _) (I1.hok.fresh (Nat.le_refl _))
theorem pi_tup {l : Expr} {tl : TE} (hl : PE X l tl) : PI X tg l (iTup X.K tl) := by
  intro pins s σ H R I h
  refine thn (hl pins s σ H _ I h) fun v s1 ⟨x, H1, I1, r1, q1⟩ => ?_
  obtain ⟨a, e, ⟨xs, hq⟩, q⟩ := q1
  subst e
  cases r1
  obtain ⟨its, rv, p, hz⟩ := I1.tuple hq
  refine wpAny_pyIter_tuple (show s1.heap.IsTuple a its.toArray from p) ?_
  refine ⟨s1.heap.objs.size, [s1.heap.objs.size], _, _, H1, rfl, I1.kept (t' := s1.toks) fun b o e => Heap.get?_push_of_some _ e, turn_tuple a _, ⟨_, Heap.get?_push_size _ rfl, rfl, rfl⟩, fun b hb => ?_, q⟩
  have e : b = s1.heap.objs.size := by simpa using hb
  subst e
  exact I1.fpOk (Nat.le_refl _) (I1.hok.fresh (Nat.le_refl _))
theorem range_it {pins : List (Addr × Obj)} {σ : St} {H : Hp} {s : Shared} {R : It → Hp → Prop} {E : Value → Shared → Prop} {lo hi : Int} {t u v : Tok} {tk : Nat} (I : Inv X pins σ H s) (h1 : -(2 ^ 62) ≤ lo) (h2 : lo < 2 ^ 62) (h3 : -(2 ^ 62) ≤ hi) (h4 : hi < 2 ^ 62)
    (q : R (Itr lo (hi - lo).toNat) H) : wpAny (model X.prog X.w) X.A (pyIter (.ref s.heap.objs.size)) (PIE X pins σ tg R) E { s with heap := s.heap.push { cls := .type "range", data := .fields #[.int lo t, .int hi u, .int 1 v] }, toks := tk } := by
  refine wpAny_pyIter_range (IsRange.new ..) (small_one h1 h2 h3 h4) ?_
  have I1 : Inv X pins σ H { s with heap := s.heap.push { cls := .type "range", data := .fields #[.int lo t, .int hi u, .int 1 v] }, toks := tk } := I.kept fun b o e => Heap.get?_push_of_some _ e
  refine ⟨(s.heap.push { cls := .type "range", data := .fields #[.int lo t, .int hi u, .int 1 v] }).objs.size, [(s.heap.push { cls := .type "range", data := .fields #[.int lo t, .int hi u, .int 1 v] }).objs.size], _, _, H, rfl,
    I1.kept (t' := tk) fun b o e => Heap.get?_push_of_some _ e, turn_range _ lo (hi - lo).toNat, ?_, fun b hb => ?_, q⟩
  · have e1 : lo + ((0 : Nat) : Int) * 1 = lo := by simp
    have e2 : (((hi - lo).toNat : Nat) : Int) - ((0 : Nat) : Int) = Builtin.Range.rangeSize lo hi 1 := by rw [rangeSize_one]; split <;> omega
    show IsRangeIter _ _ (lo + ((0 : Nat) : Int) * 1) ((((hi - lo).toNat : Nat) : Int) - ((0 : Nat) : Int)) 1
    rw [e1, e2]
    exact Heap.get?_push_size _ rfl
  · have e : b = (s.heap.push { cls := .type "range", data := .fields #[.int lo t, .int hi u, .int 1 v] }).objs.size := by simpa using hb
    subst e
    exact I1.fpOk (Nat.le_refl _) (I1.hok.fresh (Nat.le_refl _))
def iRng1 (ta : TA) : TI := fun σ H R => ta σ H fun vs H1 => ∃ j : Int, vs = [.int j] ∧ -(2 ^ 62) ≤ j ∧ j < 2 ^ 62 ∧ R (Itr 0 j.toNat) H1
theorem pi_range1 {a : Expr} {ta : TA} {p pos : Pos} (hg : Gl X "range") (hm : X.mg "range" = none) (ha : PA X [a] ta) (hs : starEach [a] X.env = [(false, eval a X.env)] := by rfl) : PI X tg (.Call (.Name "range" p) [a] [] pos) (iRng1 ta) := by
  intro pins s σ H R I h
  refine Call_ (ld_blt I hg hm boot_range (PyProof.Rows.callWith_type1 (thn (ha pos pins s σ H _ I h) fun us s1 ⟨vs, H1, I1, r1, q1⟩ => ?_) hs rfl))
  obtain ⟨j, e, q1, q2, q⟩ := q1
  subst e
  cases r1 with
  | cons r rr =>
    cases rr
    obtain ⟨t, rfl⟩ := r
    exact call_range_1 (range_it I1 (by omega) (by omega) q1 q2 (by simpa using q))
def tFor (wi : TI) (g : TG) (tb : TS) : TS := fun D σ H => wi σ H fun J H1 => ∃ W : Nat → Nat → St → Hp → Prop, (∃ m, W 0 m σ H1) ∧ ∀ i m σ H, W i m σ H →
  (J.stop i H ∧ D.nx σ H) ∨ (J.go i H ∧ ∃ N : St → Hp → Prop, (∀ σ' H', N σ' H' → ∃ m', m' < m ∧ W (i + 1) m' σ' H') ∧ ∀ x H', J.yld i H x H' → g x σ H' fun σ2 H2 => tb { D with nx := N, ct := N, bk := D.nx } σ2 H2)
def pinsAt (fp : List Addr) (h : Heap) : List (Addr × Obj) := fp.filterMap fun b => (h.get? b).map fun o => (b, o)
theorem mem_pinsAt {fp : List Addr} {h : Heap} {b : Addr} {o : Obj} (hb : b ∈ fp) (e : h.get? b = some o) : (b, o) ∈ pinsAt fp h := List.mem_filterMap.mpr ⟨b, hb, by rw [e]; rfl⟩
theorem of_pinsAt {fp : List Addr} {h : Heap} {p : Addr × Obj} (hp : p ∈ pinsAt fp h) : p.1 ∈ fp ∧ h.get? p.1 = some p.2 := by
  obtain ⟨b, hb, e⟩ := List.mem_filterMap.mp hp
  cases q : h.get? b with
  | none => rw [q] at e; cases e
  | some o =>
    rw [q] at e
    have e' : (b, o) = p := Option.some.inj e
    subst e'
    exact ⟨hb, q⟩
theorem Inv.pinned {pins : List (Addr × Obj)} {σ : St} {H : Hp} {s : Shared} {fp : List Addr} (I : Inv X pins σ H s) (hf : ∀ b ∈ fp, FpOk X pins H b) (ho : ∀ b ∈ fp, ∃ o, s.heap.get? b = some o ∧ ∀ v, o.data ≠ .cell v) : Inv X (pins ++ pinsAt fp s.heap) σ H s :=
  I.pins_of fun p hp => (List.mem_append.mp hp).elim (fun z => I.pin p (List.mem_append_right _ z)) fun z => by
    obtain ⟨hb, e⟩ := of_pinsAt z
    obtain ⟨f0, f1, f2, _⟩ := hf p.1 hb
    obtain ⟨o, e', d⟩ := ho p.1 hb
    rw [e] at e'; cases e'
    exact ⟨e, f0, f1, f2, d⟩
theorem Inv.unpinned {pins pl : List (Addr × Obj)} {σ : St} {H : Hp} {s : Shared} (I : Inv X (pins ++ pl) σ H s) : Inv X pins σ H s := I.pins_of fun p hp => I.pin p (List.mem_append_right _ (List.mem_append_left _ hp))
theorem ps_for {iter : Expr} {body : List Stmt} {wi : TI} {g : TG} {tb : TS} {pos : Pos} (hp : PassesOwn (model X.prog X.w) X.A X.env X.xe) (hc : X.calm = true) (hi : PI X tg iter wi) (hg : PG X tg g) (hb : PSs X body tb)
    (hs : ∀ x, foldedSetIterable iter X.env x = pure x := by intro _; rfl) : PS X (.For tg iter body [] pos) (tFor wi g tb) := by
  intro pins s σ H D I h
  refine wpAny_For (thn (hi pins s σ H _ I h) fun v s1 h1 => thn h1 fun itv s2 h2 => ?_) hs
  obtain ⟨it, fp, tn, J, H2, e, I2, T, st2, f2, W, ⟨m0, w0⟩, turn⟩ := h2
  subst e
  have stat : ∀ {H' : Hp}, (∀ b ∈ fp, H' b = none) → ∀ b ∈ fp, FpOk X pins H' b := fun hn b hb => ⟨hn b hb, (f2 b hb).2⟩
  refine codeAny_forLoop_any (fun n s' => ∃ i σ' H', Inv X pins σ' H' s' ∧ tn i s'.heap ∧ (∀ b ∈ fp, H' b = none) ∧ W i n σ' H') ?_ m0 ⟨0, σ, H2, I2, st2, fun b hb => (f2 b hb).1, w0⟩
  rintro n s3 ⟨i, σ3, H3, I3, st3, fr3, w3⟩
  rcases turn i n σ3 H3 w3 with ⟨stop, qn⟩ | ⟨go, N, hN, step⟩
  · refine wpAny_passesOwn hp (thn (T.done X rfl rfl rfl hc i pins s3 σ3 H3 X.xe I3 (stat fr3) st3 stop) fun r s4 ⟨hr, I4⟩ => ?_)
    subst hr
    exact wpAny_execs_nil ⟨σ3, H3, I4, qn⟩
  · refine wpAny_passesOwn hp (thn (T.item X rfl rfl rfl hc i pins s3 σ3 H3 X.xe I3 (stat fr3) st3 go) fun r s4 ⟨u, hr, h4⟩ => ?_)
    subst hr
    refine wpAny_passesOwn hp (thn h4 fun _ s5 ⟨x, H5, I5, r5, y5, st5, fr5⟩ => ?_)
    have I5' := I5.pinned (stat fr5) (T.obj _ _ st5)
    refine wpAny_passesOwn hp (thn (hg _ s5 σ3 H5 x u _ I5' r5 (step x H5 y5)) fun _ s6 ⟨σ6, H6, I6, q6⟩ => ?_)
    refine wpAny_passesOwn hp (thn (hb _ s6 σ6 H6 _ I6 q6) fun f s7 q7 => ?_)
    have again : ∀ {σ7 : St} {H7 : Hp}, Inv X (pins ++ pinsAt fp s5.heap) σ7 H7 s7 → N σ7 H7 → ∃ m, m < n ∧ ∃ i σ' H', Inv X pins σ' H' s7 ∧ tn i s7.heap ∧ (∀ b ∈ fp, H' b = none) ∧ W i m σ' H' := fun {σ7 H7} I7 n7 => by
      obtain ⟨m', hm, w7⟩ := hN σ7 H7 n7
      refine ⟨m', hm, i + 1, σ7, H7, I7.unpinned, T.keep _ _ _ st5 fun b hb o e => (I7.pin (b, o) (List.mem_append_right _ (List.mem_append_right _ (mem_pinsAt hb e)))).1, fun b hb => ?_, w7⟩
      obtain ⟨o, e, d⟩ := T.obj _ _ st5 b hb
      exact (I7.pin (b, o) (List.mem_append_right _ (List.mem_append_right _ (mem_pinsAt hb e)))).2.1
    cases f with
    | next => obtain ⟨σ7, H7, I7, n7⟩ := q7; exact again I7 n7
    | cont => obtain ⟨σ7, H7, I7, n7⟩ := q7; exact again I7 n7
    | brk => obtain ⟨σ7, H7, I7, q7⟩ := q7; exact ⟨σ7, H7, I7.unpinned, q7⟩
    | ret v => obtain ⟨x7, σ7, H7, I7, r7, q7⟩ := q7; exact ⟨x7, σ7, H7, I7.unpinned, r7, q7⟩
end
end L2
namespace L2
open PySem PySem.Spec PyProof.Rows
abbrev R2 := V → V → Hp → VK → Prop
def OpR (X : Cx) (f : Value → Value → Sem Value) (r : R2) : Prop :=
  ∀ (pins : List (Addr × Obj)) (s : Shared) (σ : St) (H : Hp) (x y : V) (v u : Value) (Q : VK), Inv X pins σ H s → RelV x v → RelV y u → r x y H Q →
    wpAny (model X.prog X.w) X.A (f v u) (EP X pins σ Q) X.xe s
def CallR (X : Cx) (f : Value) (r : List V → Hp → VK → Prop) : Prop :=
  ∀ (pins : List (Addr × Obj)) (s : Shared) (σ : St) (H : Hp) (xs : List V) (us : List Value) (Q : VK), Inv X pins σ H s → Vals xs us → r xs H Q →
    wpAny (model X.prog X.w) X.A (call f us) (EP X pins σ Q) X.xe s
def tOp (r : R2) (ta tb : TE) : TE := fun σ H Q => ta σ H fun x H1 => tb σ H1 fun y H2 => r x y H2 Q
def rI (C : Int → Int → Prop) (g : Int → Int → V) : R2 := fun x y H Q => ∃ i j, x = .int i ∧ y = .int j ∧ C i j ∧ Q (g i j) H
def rI0 (g : Int → Int → V) : R2 := fun x y H Q => ∃ i j, x = .int i ∧ y = .int j ∧ Q (g i j) H
section
variable {X : Cx} {a b c : Expr} {ta tb tc : TE} {pos : Pos}
theorem binT (ha : PE X a ta) (hb : PE X b tb) {pins : List (Addr × Obj)} {s : Shared} {σ : St} {H : Hp} {R : V → V → Hp → Prop} (I : Inv X pins σ H s)
    (h : ta σ H fun x H1 => tb σ H1 fun y H2 => R x y H2) {Q : Value → Shared → Prop} {f : Value → Value → Sem Value}
    (hf : ∀ v u s2 x y H2, Inv X pins σ H2 s2 → RelV x v → RelV y u → R x y H2 → wpAny (model X.prog X.w) X.A (f v u) Q X.xe s2) :
    wpAny (model X.prog X.w) X.A (eval a X.env) (fun v s₁ => wpAny (model X.prog X.w) X.A (eval b X.env) (fun u s₂ => wpAny (model X.prog X.w) X.A (f v u) Q X.xe s₂) X.xe s₁) X.xe s := by
  refine thn (ha pins s σ H _ I h) fun v s1 ⟨x, H1, I1, r1, q1⟩ => ?_
  refine thn (hb pins s1 σ H1 _ I1 q1) fun u s2 ⟨y, H2, I2, r2, q2⟩ => ?_
  exact hf v u s2 x y H2 I2 r1 r2 q2
theorem pe_op {op : Operator} {r : R2} (ho : OpR X (binaryOp op) r) (ha : PE X a ta) (hb : PE X b tb) : PE X (.BinOp a op b pos) (tOp r ta tb) := by
  intro pins s σ H Q I h
  exact wpAny_BinOp (binT ha hb I h fun v u s2 x y H2 I2 rx ry q => ho pins s2 σ H2 x y v u Q I2 rx ry q)
theorem opI {f : Value → Value → Sem Value} {C : Int → Int → Prop} {g : Int → Int → Int}
    (rule : ∀ (i j : Int) (t u : Tok) (s : Shared) (Q : Value → Shared → Prop) (E : Value → Shared → Prop), C i j → Q (.int (g i j) s.toks) { s with toks := s.toks + 1 } → wpAny (model X.prog X.w) X.A (f (.int i t) (.int j u)) Q E s) :
    OpR X f (rI C fun i j => .int (g i j)) := by
  intro pins s σ H x y v u Q I rx ry h
  obtain ⟨i, j, rfl, rfl, hc, q⟩ := h
  obtain ⟨t, rfl⟩ := rx
  obtain ⟨t', rfl⟩ := ry
  exact rule i j t t' s _ _ hc ⟨.int (g i j), H, I.tok _, ⟨_, rfl⟩, q⟩
theorem opI0 {f : Value → Value → Sem Value} {g : Int → Int → Int}
    (rule : ∀ (i j : Int) (t u : Tok) (s : Shared) (Q : Value → Shared → Prop) (E : Value → Shared → Prop), Q (.int (g i j) s.toks) { s with toks := s.toks + 1 } → wpAny (model X.prog X.w) X.A (f (.int i t) (.int j u)) Q E s) :
    OpR X f (rI0 fun i j => .int (g i j)) := by
  intro pins s σ H x y v u Q I rx ry h
  obtain ⟨i, j, rfl, rfl, q⟩ := h
  obtain ⟨t, rfl⟩ := rx
  obtain ⟨t', rfl⟩ := ry
  exact rule i j t t' s _ _ ⟨.int (g i j), H, I.tok _, ⟨_, rfl⟩, q⟩
theorem opB0 {f : Value → Value → Sem Value} {g : Int → Int → Bool}
    (rule : ∀ (i j : Int) (t u : Tok) (s : Shared) (Q : Value → Shared → Prop) (E : Value → Shared → Prop), Q (.bool (g i j)) s → wpAny (model X.prog X.w) X.A (f (.int i t) (.int j u)) Q E s) :
    OpR X f (rI0 fun i j => .bl (g i j)) := by
  intro pins s σ H x y v u Q I rx ry h
  obtain ⟨i, j, rfl, rfl, q⟩ := h
  obtain ⟨t, rfl⟩ := rx
  obtain ⟨t', rfl⟩ := ry
  exact rule i j t t' s _ _ ⟨.bl (g i j), H, I, rfl, q⟩
def CPow (i j : Int) : Prop := 0 ≤ j ∧ j ≤ 1000000 ∧ i.natAbs < 2 ^ 64
def CMul (i j : Int) : Prop := (-(2 ^ 64) < i ∧ i < 2 ^ 64) ∨ (-(2 ^ 64) < j ∧ j < 2 ^ 64)
theorem CMul.ok {i j : Int} (h : CMul i j) : IntMulOk i j := by
  rcases h with ⟨h1, h2⟩ | ⟨h1, h2⟩
  · exact .of_left (intBits_le_64 h1 h2)
  · exact .of_right (intBits_le_64 h1 h2)
theorem op_add : OpR X (binaryOp .Add) (rI0 fun i j => .int (i + j)) := opI0 fun _ _ _ _ _ _ _ q => add_int q
theorem op_modN : OpR X (binaryOp .Mod) (rI (fun _ j => j ≠ 0) fun i j => .int (i.fmod j)) := opI fun _ _ _ _ _ _ _ hc q => mod_int' hc q
theorem op_pow : OpR X (binaryOp .Pow) (rI CPow fun i j => .int (i ^ j.toNat)) := opI fun _ _ _ _ _ _ _ hc q => pow_int_small hc.1 hc.2.1 hc.2.2 q
end
section
variable {X : Cx} {a b c : Expr} {ta tb tc : TE} {pos : Pos}
theorem fin_bl {pins : List (Addr × Obj)} {σ : St} {H : Hp} {s : Shared} {Q : VK} {k k' : Bool} (I : Inv X pins σ H s) (q : Q (.bl k) H) (e : k = k') : EP X pins σ Q (.bool k') s := by
  subst e
  exact ⟨.bl k, H, I, rfl, q⟩
theorem op_lt : OpR X (compareOp .Lt) (rI0 fun i j => .bl (decide (i < j))) := opB0 fun _ _ _ _ _ _ _ q => lt_int q
theorem op_le : OpR X (compareOp .LtE) (rI0 fun i j => .bl (decide (i ≤ j))) := opB0 fun _ _ _ _ _ _ _ q => le_int q
theorem op_gt : OpR X (compareOp .Gt) (rI0 fun i j => .bl (decide (j < i))) := opB0 fun _ _ _ _ _ _ _ q => gt_int q
theorem op_ge : OpR X (compareOp .GtE) (rI0 fun i j => .bl (decide (j ≤ i))) := opB0 fun _ _ _ _ _ _ _ q => ge_int q
theorem op_in_str : OpR X (compareOp .In) (fun x y H Q => ∃ i j, x = .str i ∧ y = .str j ∧ Q (.bl (!(Builtin.Str.occurrences j i 0 j.length 1).isEmpty)) H) := by
  intro pins s σ H x y v u Q I rx ry h
  obtain ⟨i, j, rfl, rfl, q⟩ := h
  obtain ⟨t, rfl⟩ := rx
  obtain ⟨t', rfl⟩ := ry
  exact in_str (fin_bl I q rfl)
theorem op_notin_str : OpR X (compareOp .NotIn) (fun x y H Q => ∃ i j, x = .str i ∧ y = .str j ∧ Q (.bl (!(!(Builtin.Str.occurrences j i 0 j.length 1).isEmpty))) H) := by
  intro pins s σ H x y v u Q I rx ry h
  obtain ⟨i, j, rfl, rfl, q⟩ := h
  obtain ⟨t, rfl⟩ := rx
  obtain ⟨t', rfl⟩ := ry
  exact notIn_str (fin_bl I q rfl)
def isObj : HO → Bool
  | .lst _ => true
  | .ins _ _ _ => true
  | _ => false
theorem obj_there {pins : List (Addr × Obj)} {s : Shared} {σ : St} {H : Hp} {a : Addr} {o : HO} (I : Inv X pins σ H s) (h : H a = some o) (p : isObj o = true) : ∃ ob, s.heap.get? a = some ob ∧ ob.cls ≠ .type "tuple" := by
  cases o with
  | lst xs =>
    obtain ⟨_, its, n, _, e⟩ : xs.length ≤ sizeLine ∧ ∃ (its : List Value) (n : Nat), Vals xs its ∧ s.heap.get? a = some { cls := .type "list", data := .seq its.toArray n } := I.hok a _ h
    exact ⟨_, e, (by show Value.type "list" ≠ .type "tuple"; decide +kernel)⟩
  | ins C dx fs =>
    have x := I.hok a _ h
    obtain ⟨_, _, _, e, _⟩ := x
    exact ⟨_, e, (by show Value.ref C ≠ .type "tuple"; exact fun z => by cases z)⟩
  | _ => exact absurd (show false = true from p) Bool.false_ne_true
theorem OpR.or {f : Value → Value → Sem Value} {r r' : R2} (h : OpR X f r) (h' : OpR X f r') : OpR X f (fun x y H Q => r x y H Q ∨ r' x y H Q) := by
  intro pins s σ H x y v u Q I rx ry q
  rcases q with q | q
  · exact h pins s σ H x y v u Q I rx ry q
  · exact h' pins s σ H x y v u Q I rx ry q
theorem nomark (b : Expr) {op : CmpOp} (h : op ≠ .In := by decide) (h2 : op ≠ .NotIn := by decide) : behindInMarks op b = false := by
  have e1 : (op == CmpOp.In) = false := by cases op <;> first | rfl | exact absurd rfl h
  have e2 : (op == CmpOp.NotIn) = false := by cases op <;> first | rfl | exact absurd rfl h2
  cases b <;> simp [behindInMarks, e1, e2]
theorem pe_cmpR {op : CmpOp} {r : R2} (ho : OpR X (compareOp op) r) (ha : PE X a ta) (hb : PE X b tb) (hm : behindInMarks op b = false) : PE X (.Compare a [op] [b] pos) (tOp r ta tb) := by
  intro pins s σ H Q I h
  exact wpAny_Compare1 (binT ha hb I h fun v u s2 x y H2 I2 rx ry q => ho pins s2 σ H2 x y v u Q I2 rx ry q) hm
def tTest (t : TE) : TT := fun σ H Q => t σ H fun x H' => ∃ k, x = .bl k ∧ Q k H'
theorem pt_cmpR {op : CmpOp} {r : R2} (ho : OpR X (compareOp op) r) (ha : PE X a ta) (hb : PE X b tb) (hm : behindInMarks op b = false) : PT X (.Compare a [op] [b] pos) (tTest (tOp r ta tb)) := by
  intro pins s σ H Q I h
  refine wpAny_isTrue_Compare1 (thn (ha pins s σ H _ I h) fun v s1 ⟨x, H1, I1, r1, q1⟩ => thn (hb pins s1 σ H1 _ I1 q1) fun u s2 ⟨y, H2, I2, r2, q2⟩ =>
    thn (ho pins s2 σ H2 x y v u _ I2 r1 r2 q2) fun c s3 ⟨z, H3, I3, r3, k, e, q3⟩ => ?_) hm
  subst e
  cases r3
  exact wpAny_truthy_bool ⟨H3, I3, q3⟩
def tChain (r r' : R2) (ta tb tc : TE) : TE := fun σ H Q => ta σ H fun x H1 => tb σ H1 fun y H2 => r x y H2 fun z H3 => ∃ k, z = .bl k ∧
  (if k = true then tc σ H3 fun w' H4 => r' y w' H4 Q else Q (.bl false) H3)
theorem pt_chain {op op' : CmpOp} {r r' : R2} (ho : OpR X (compareOp op) r) (ho' : OpR X (compareOp op') r') (ha : PE X a ta) (hb : PE X b tb) (hc : PE X c tc)
    (hm : lastMarks [op, op'] [b, c] = false := by with_unfolding_all rfl) : PT X (.Compare a [op, op'] [b, c] pos) (tTest (tChain r r' ta tb tc)) := by
  intro pins s σ H Q I h
  refine isTrue_chain (thn (ha pins s σ H _ I h) fun v s1 ⟨x, H1, I1, r1, q1⟩ => test_link (thn (hb pins s1 σ H1 _ I1 q1) fun u s2 ⟨y, H2, I2, r2, q2⟩ =>
    thn (ho pins s2 σ H2 x y v u _ I2 r1 r2 q2) fun d s3 ⟨z, H3, I3, r3, k, e, q3⟩ => ?_)) hm
  subst e
  cases r3
  refine wpAny_truthy_bool ?_
  cases k with
  | false =>
    obtain ⟨k', e', q'⟩ := q3
    cases e'
    exact ite_ff ⟨H3, I3, q'⟩
  | true =>
    refine ite_tt (test_last (thn (hc pins s3 σ H3 _ I3 q3) fun w' s4 ⟨z', H4, I4, r4, q4⟩ => thn (ho' pins s4 σ H4 y z' u w' _ I4 r2 r4 q4) fun d' s5 ⟨z2, H5, I5, r5, k2, e2, q5⟩ => ?_))
    subst e2
    cases r5
    exact wpAny_truthy_bool ⟨H5, I5, q5⟩
theorem line63 : (sizeLine : Nat) < 2 ^ 63 := by rw [sizeLine_eq]; decide
theorem op_add_str : OpR X (binaryOp .Add) (fun x y H Q => ∃ i j, x = .str i ∧ y = .str j ∧ i.length + j.length ≤ sizeLine ∧ Q (.str (i ++ j)) H) := by
  intro pins s σ H x y v u Q I rx ry h
  obtain ⟨i, j, rfl, rfl, hz, q⟩ := h
  obtain ⟨t, rfl⟩ := rx
  obtain ⟨t', rfl⟩ := ry
  exact add_str (fun t' tk => ⟨.str (i ++ j), H, I.tok _, ⟨_, rfl⟩, q⟩) hz
theorem vals1 {x : V} {us : List Value} (r : Vals [x] us) : ∃ u, us = [u] ∧ RelV x u := by
  cases r with
  | cons r1 r2 => cases r2; exact ⟨_, rfl, r1⟩
theorem vals2 {x y : V} {us : List Value} (r : Vals [x, y] us) : ∃ u w', us = [u, w'] ∧ RelV x u ∧ RelV y w' := by
  cases r with
  | cons r1 r2 =>
    cases r2 with
    | cons r3 r4 => cases r4; exact ⟨_, _, rfl, r1, r3⟩
theorem call_abs : CallR X (.builtin "abs") (fun xs H Q => ∃ i, xs = [.int i] ∧ Q (.int (if i < 0 then -i else i)) H) := by
  intro pins s σ H xs us Q I r h
  obtain ⟨i, rfl, q⟩ := h
  obtain ⟨u, rfl, t, rfl⟩ := vals1 r
  exact call_abs_int fun u tk => ⟨.int (if i < 0 then -i else i), H, I.tok _, ⟨_, rfl⟩, q⟩
theorem call_max2 (hc : X.calm = true) : CallR X (.builtin "max") (fun xs H Q => ∃ i j, xs = [.int i, .int j] ∧ Q (.int (if j > i then j else i)) H) := by
  intro pins s σ H xs us Q I r h
  obtain ⟨i, j, rfl, q⟩ := h
  obtain ⟨u, w', rfl, ⟨t, rfl⟩, ⟨t', rfl⟩⟩ := vals2 r
  refine max_two_ints (I.ok.hd hc) fun h' tk k => ⟨_, H, I.kept k, ?_, q⟩
  by_cases hj : j > i
  · rw [if_pos hj, if_pos hj]; exact ⟨_, rfl⟩
  · rw [if_neg hj, if_neg hj]; exact ⟨_, rfl⟩
theorem call_min2 (hc : X.calm = true) : CallR X (.builtin "min") (fun xs H Q => ∃ i j, xs = [.int i, .int j] ∧ Q (.int (if j < i then j else i)) H) := by
  intro pins s σ H xs us Q I r h
  obtain ⟨i, j, rfl, q⟩ := h
  obtain ⟨u, w', rfl, ⟨t, rfl⟩, ⟨t', rfl⟩⟩ := vals2 r
  refine min_two_ints (I.ok.hd hc) fun h' tk k => ⟨_, H, I.kept k, ?_, q⟩
  by_cases hj : j < i
  · rw [if_pos hj, if_pos hj]; exact ⟨_, rfl⟩
  · rw [if_neg hj, if_neg hj]; exact ⟨_, rfl⟩
theorem call_int1 : CallR X (.type "int") (fun xs H Q => (∃ i, xs = [.int i] ∧ Q (.int i) H) ∨ ∃ k, xs = [.bl k] ∧ Q (.int (if k then 1 else 0)) H) := by
  intro pins s σ H xs us Q I r h
  rcases h with ⟨i, rfl, q⟩ | ⟨k, rfl, q⟩
  · obtain ⟨u, rfl, t, rfl⟩ := vals1 r
    exact call_int_int ⟨.int i, H, I, ⟨_, rfl⟩, q⟩
  · obtain ⟨u, rfl, r1⟩ := vals1 r
    cases r1
    exact call_int_bool ⟨.int (if k then 1 else 0), H, I.tok _, ⟨_, rfl⟩, q⟩
end
end L2
namespace L2
open PySem PySem.Spec PyProof.Rows
structure ObjM (h : Heap) (x dx C : Addr) (mA : Str → Option Value) : Prop where
  obj : h.get? x = some (PySem.W.instObj C dx)
  ns : h.Ns1 dx mA
  ne : dx ≠ x
theorem lookIn_ns {h : Heap} {dx : Addr} {mA : Str → Option Value} (n : h.Ns1 dx mA) : ∃ od, h.get? dx = some od ∧ ∀ name, PySem.W.lookIn name od = some (mA name) := by
  obtain ⟨o, es, ep, ho, hd, hk, _, hm⟩ := n
  refine ⟨o, ho, fun name => ?_⟩
  have e := hm name
  unfold nsFind findBy at e
  rw [← Array.find?_toList] at e
  unfold PySem.W.lookIn
  rw [hd]
  dsimp only
  split
  · rename_i y q
    rw [q] at e
    exact congrArg some e
  · rename_i q
    rw [q] at e
    have a : es.toList.any (·.refKey) = false := by
      rw [List.any_eq_false]
      intro y hy
      obtain ⟨z, t, hkey⟩ := hk y (Array.mem_toList_iff.mp hy)
      simp [DictEntry.refKey, hkey]
    have a' : ¬ es.toList.any (·.refKey) = true := by rw [a]; exact Bool.false_ne_true
    rw [if_neg a']
    exact congrArg some e
theorem ObjM.look {h : Heap} {x dx C : Addr} {mA : Str → Option Value} (I : ObjM h x dx C mA) : ∃ od, PySem.W.InstAt h x (PySem.W.instObj C dx) C (some od) ∧ ∀ name, PySem.W.lookIn name od = some (mA name) :=
  let ⟨od, ho, hl⟩ := lookIn_ns I.ns
  ⟨od, ⟨I.obj, rfl, rfl, ho⟩, hl⟩
section
variable {prog : Program} {w : World} {A : Around} {E : Value → Shared → Prop} {s : Shared} {K : PySem.W.Frag} {x dx C f : Addr} {mA : Str → Option Value} {name : Str} {v : Value}
end
theorem handed_of {v : V} {u : Value} (r : RelV v u) : PySem.W.handedIn u = true := by
  cases v with
  | non => cases (show u = Value.none from r); rfl
  | bl b => cases (show u = Value.bool b from r); rfl
  | int i => obtain ⟨t, e⟩ := (show ∃ t, u = Value.int i t from r); cases e; rfl
  | str x => obtain ⟨t, e⟩ := (show ∃ t, u = Value.str x t from r); cases e; rfl
  | byt b => obtain ⟨t, e⟩ := (show ∃ t, u = Value.bytes b t from r); cases e; rfl
  | flt b => obtain ⟨t, e⟩ := (show ∃ t, u = Value.float b t from r); cases e; rfl
  | ref a => cases (show u = Value.ref a from r); rfl
  | ty n => cases (show u = Value.type n from r); rfl
section
variable {P : Program} {w : World} {H H' : Hp} {h h' : Heap} {a C dx : Addr} {fs fs' : List (Str × V)}
theorem ins_get (hok : HOk P w H h) (e : H a = some (.ins C dx fs)) : ∃ mA, ObjM h a dx C mA ∧ (∀ f, RelO (fs.lookup f) (mA f)) ∧ PySem.Within mA (fs.map (·.1)) ∧ fs.length ≤ 1000 ∧ H dx = some (.own a) := by
  obtain ⟨d, z, ne, ob, mA, n, r, q⟩ := (show ObjOk P w H h a (.ins C dx fs) from hok a _ e)
  exact ⟨mA, ⟨ob, n, ne⟩, r, q, z, d⟩
end
structure Cls (K : PySem.W.Frag) (C : Addr) : Prop where
  pg : PySem.W.plainGet K C Str.empty = true
  hd : PySem.W.hasDictIn K C = true
  po : PySem.W.plainOver K C = true
  sa : PySem.W.findIn K (.ref C) "__setattr__" = some (some (.builtin "object.__setattr__"))
theorem Cls.get {K : PySem.W.Frag} {C : Addr} (c : Cls K C) (f : Str) : PySem.W.plainGet K C f = true := c.pg
structure Con (K : PySem.W.Frag) (C : Addr) (f : Str) (v : V) (u : Value) : Prop where
  at_ : PySem.W.findIn K (.ref C) f = some (some u)
  rel : RelV v u
  get : PySem.W.specialIn K u "__get__" = some none
  cp : PySem.W.copiedNames.contains f = false
structure Meth (K : PySem.W.Frag) (C : Addr) (m : Str) (f : Addr) : Prop where
  at_ : PySem.W.findIn K (.ref C) m = some (some (.ref f))
  fn : PySem.W.isFn K (.ref f) = true
  kp : PySem.W.keepIn K (.ref f) = true
section
variable {X : Cx} {pins : List (Addr × Obj)} {σ : St} {H : Hp} {s : Shared} {a C dx : Addr} {fs : List (Str × V)} {f : Str} {v : V} {A : Around} {E : Value → Shared → Prop}
theorem attr_of {prog : Program} {w : World} {env : Env} {e : Expr} {f : Str} {pos : Pos} {s : Shared} {Q : Value → Shared → Prop} (hb : attributeBase e f env (eval e env) = eval e env)
    (h : wpAny (model prog w) A (eval e env) (fun o s₁ => wpAny (model prog w) A (getAttr o f true) Q E s₁) E s) : wpAny (model prog w) A (eval (.Attribute e f pos) env) Q E s :=
  Attribute_any_ h (by rw [arm_eval_Attribute, hb])
end
section
variable {X : Cx} {o e value : Expr} {f : Str} {pos pos' tpos : Pos} {ta tv : TE}
end
section
variable {X : Cx} {pins : List (Addr × Obj)} {σ : St} {H : Hp} {s : Shared} {A : Around} {E : Value → Shared → Prop} {Q : Value → Shared → Prop} {c : Value} {b : Bool}
inductive TyOf (K : PySem.W.Frag) (H : Hp) : V → Value → Prop where
  | non : TyOf K H .non (.type "NoneType")
  | bl (x : Bool) : TyOf K H (.bl x) (.type "bool")
  | int (i : Int) : TyOf K H (.int i) (.type "int")
  | str (x : Str) : TyOf K H (.str x) (.type "str")
  | flt (x : UInt64) : TyOf K H (.flt x) (.type "float")
  | lst {a : Addr} {xs : List V} (e : H a = some (.lst xs)) : TyOf K H (.ref a) (.type "list")
  | frz {a : Addr} {o : Obj} {xs : List V} (e : H a = some (.frz o (.lst xs))) : TyOf K H (.ref a) (.type "list")
  | tup {a : Addr} {xs : List V} (e : H a = some (.tup xs)) : TyOf K H (.ref a) (.type "tuple")
  | dK {a : Addr} {kvs : List (Key × V)} (e : H a = some (.dK kvs)) : TyOf K H (.ref a) (.type "dict")
  | dT {a : Addr} {kvs : List (List Key × V)} (e : H a = some (.dT kvs)) : TyOf K H (.ref a) (.type "dict")
  | ins {a C dx : Addr} {fs : List (Str × V)} (e : H a = some (.ins C dx fs)) (cl : Cls K C) (ha : PySem.W.findIn K (.ref C) "__class__" = some (some (.builtin "object.__class__")))
      (hn : PySem.W.specialIn K (.builtin "object.__class__") "__get__" = some (some (.builtin "getset_descriptor.__get__"))) (htk : PySem.W.takesIn K (.builtin "object.__class__") = some true)
      (hm : PySem.W.mroIn K C (.type "object") = some true) : TyOf K H (.ref a) (.ref C)
theorem isinst_ok {x : V} {u t : Value} (I : Inv X pins σ H s) (rx : RelV x u) (ty : TyOf X.K H x t) (e : PySem.W.kitOne X.K t c = some b) (h : ∀ tk, Q (.bool b) { s with toks := tk }) :
    wpAny (model X.prog X.w) A (call (.builtin "isinstance") [u, c]) Q E s := by
  cases ty with
  | non => cases (show u = Value.none from rx); exact PySem.W.kia_one PySem.W.kitx_none I.kIn True.intro e (fun z => nomatch z) h
  | bl y => cases (show u = Value.bool y from rx); exact PySem.W.kia_one PySem.W.kitx_bool I.kIn True.intro e (fun z => nomatch z) h
  | int i => obtain ⟨t, q⟩ := (show ∃ t, u = Value.int i t from rx); cases q; exact PySem.W.kia_one PySem.W.kitx_int I.kIn True.intro e (fun z => nomatch z) h
  | str y => obtain ⟨t, q⟩ := (show ∃ t, u = Value.str y t from rx); cases q; exact PySem.W.kia_one PySem.W.kitx_str I.kIn True.intro e (fun z => nomatch z) h
  | flt y => obtain ⟨t, q⟩ := (show ∃ t, u = Value.float y t from rx); cases q; exact PySem.W.kia_one PySem.W.kitx_float I.kIn True.intro e (fun z => nomatch z) h
  | @lst a xs ea =>
    cases (show u = Value.ref a from rx)
    obtain ⟨_, _, n, _, h1⟩ := (show ObjOk X.prog X.w H s.heap a (.lst xs) from I.hok a _ ea)
    exact PySem.W.kia_one PySem.W.kitx_list I.kIn ⟨_, h1, rfl⟩ e (fun z => nomatch z) h
  | @frz a ob xs ea =>
    cases (show u = Value.ref a from rx)
    obtain ⟨_, _, _, n, _, h1⟩ := (show ObjOk X.prog X.w H s.heap a (.frz ob (.lst xs)) from I.hok a _ ea)
    exact PySem.W.kia_one PySem.W.kitx_list I.kIn ⟨_, h1, rfl⟩ e (fun z => nomatch z) h
  | @tup a xs ea =>
    cases (show u = Value.ref a from rx)
    obtain ⟨_, _, _, p⟩ := (show ObjOk X.prog X.w H s.heap a (.tup xs) from I.hok a _ ea)
    obtain ⟨o, h1, h2, _⟩ := p
    exact PySem.W.kia_one PySem.W.kitx_tuple I.kIn ⟨o, h1, h2⟩ e (fun z => nomatch z) h
  | @dK a kvs ea =>
    cases (show u = Value.ref a from rx)
    obtain ⟨_, _, vs, _, p⟩ := (show ObjOk X.prog X.w H s.heap a (.dK kvs) from I.hok a _ ea)
    obtain ⟨o, es, ep, h1, h2, _⟩ := p
    exact PySem.W.kia_one PySem.W.kitx_dict I.kIn ⟨o, h1, h2.1⟩ e (fun z => nomatch z) h
  | @dT a kvs ea =>
    cases (show u = Value.ref a from rx)
    obtain ⟨_, _, xs, _, o, es, ep, h1, h2, _⟩ := (show ObjOk X.prog X.w H s.heap a (.dT kvs) from I.hok a _ ea)
    exact PySem.W.kia_one PySem.W.kitx_dict I.kIn ⟨o, h1, h2.1⟩ e (fun z => nomatch z) h
  | @ins a C dx fs ea cl ha hn htk hm =>
    cases (show u = Value.ref a from rx)
    obtain ⟨mA, O, _⟩ := ins_get I.hok ea
    obtain ⟨od, J, _⟩ := O.look
    exact PySem.W.kia_one (PySem.W.kitx_own (cl.get _) cl.hd ha hn htk hm) I.kIn J e (fun z => nomatch z) h
end
end L2
namespace L2
open PySem PySem.Spec PyProof.Rows
structure Room (k : Nat) (A : Around) : Prop where
  hd : A.handled = none
  dp : A.depth + 3 * k + 5 < recursionLimit
  un : A.units + 16 * k + 200 < cLine
theorem Room.mono {j k : Nat} {A : Around} (r : Room k A) (h : j ≤ k) : Room j A := ⟨r.hd, by have := r.dp; omega, by have := r.un; omega⟩
theorem Room.deeper {k : Nat} {A : Around} (r : Room (k + 1) A) (env : Env) : Room k (A.deeper env) :=
  ⟨r.hd, by have := r.dp; show A.depth + 1 + 3 * k + 5 < _; omega, by have := r.un; show A.units + 3 + 16 * k + 200 < _; omega⟩
theorem Room.in1 {k : Nat} {A : Around} (r : Room (k + 1) A) : Room k A.in1 :=
  ⟨r.hd, by have := r.dp; show A.depth + 3 * k + 5 < _; omega, by have := r.un; show A.units + 1 + 16 * k + 200 < _; omega⟩
theorem make_depth {A : Around} {C : Addr} {us : List Value} {kw : List (Str × Value)} : (A.under (.builtin "type.__call__" ⟨.ref C :: us, kw⟩)).depth = A.depth + 1 := by
  first | rfl | simp [Around.under, Code.weight, Code.isCreation, Code.isGuard, Code.isCaller, Code.frames, Code.isFrame, guardIds]
theorem make_units {A : Around} {C : Addr} {us : List Value} {kw : List (Str × Value)} : (A.under (.builtin "type.__call__" ⟨.ref C :: us, kw⟩)).units = A.units + 1 := by
  first | rfl | simp [Around.under, Code.cUnits, Code.frames, Code.isFrame]
theorem Room.make {k : Nat} {A : Around} (r : Room (k + 1) A) (C : Addr) (us : List Value) (kw : List (Str × Value)) : Room k (A.under (.builtin "type.__call__" ⟨.ref C :: us, kw⟩)) :=
  ⟨r.hd, by have := r.dp; rw [make_depth]; omega, by have := r.un; rw [make_units]; omega⟩
theorem Room.depth {k : Nat} {A : Around} (r : Room k A) : A.depth < recursionLimit := by have := r.dp; omega
theorem Room.units {k : Nat} {A : Around} (r : Room k A) : A.units + 64 < cLine := by have := r.un; omega
def tNil : TA := fun _ H Q => Q [] H
def tCons (ta : TE) (tr : TA) : TA := fun σ H Q => ta σ H fun x H1 => tr σ H1 fun xs H2 => Q (x :: xs) H2
section
variable {X : Cx} {e : Expr} {es : List Expr} {te : TE} {t : TA} {pos : Pos}
theorem pa_nil : PA X [] tNil := fun _ _ _ _ H Q I h => Calls.spliced_nil ⟨[], H, I, .nil, h⟩
theorem pa_cons (ha : PE X e te) (hr : PA X es t) (hs : starEach (e :: es) X.env = (false, eval e X.env) :: starEach es X.env := by rfl) : PA X (e :: es) (tCons te t) := by
  intro pos pins s σ H Q I h
  rw [hs]
  show wpAny _ _ (spliced ((false, eval e X.env) :: backTo pos (starEach es X.env))) _ _ s
  refine Calls.spliced_cons (thn (ha pins s σ H _ I h) fun u s1 ⟨x, H1, I1, r1, q1⟩ => ?_)
  exact thn (hr pos pins s1 σ H1 _ I1 q1) fun us s2 ⟨xs, H2, I2, r2, q2⟩ => ⟨x :: xs, H2, I2, .cons r1 r2, q2⟩
def tTup (t : TA) : TE := fun σ H Q => t σ H fun xs H1 => xs.length ≤ sizeLine ∧ ∀ p, H1 p = none → Q (.ref p) (upd H1 p (.tup xs))
def tLst (t : TA) : TE := fun σ H Q => t σ H fun xs H1 => xs.length ≤ sizeLine ∧ ∀ p, H1 p = none → Q (.ref p) (upd H1 p (.lst xs))
theorem pe_tup {x1} (h : PA X es t) : PE X (.Tuple es x1 pos) (tTup t) := by
  intro pins s σ H Q I hq
  refine wpAny_Tuple_spliced (thn (h pos pins s σ H _ I hq) fun us s1 ⟨xs, H1, I1, r, z, q⟩ => ⟨by rw [← r.length]; exact z, ?_⟩)
  have hf : H1 s1.heap.objs.size = none := I1.hok.fresh (Nat.le_refl _)
  refine ⟨.ref s1.heap.objs.size, upd H1 s1.heap.objs.size (.tup xs), I1.laid (t' := s1.toks) (fun b u e => Heap.get?_push_of_some _ e) (Nat.le_refl _) ?_, rfl, q _ hf⟩
  exact ⟨z, us, r, ⟨_, Heap.get?_push_size _ rfl, rfl, _, rfl⟩⟩
theorem pe_lst (h : PA X es t) : PE X (.List es pos) (tLst t) := by
  intro pins s σ H Q I hq
  refine wpAny_List_spliced (thn (h pos pins s σ H _ I hq) fun us s1 ⟨xs, H1, I1, r, z, q⟩ => ⟨by rw [← r.length]; exact z, ?_⟩)
  have hf : H1 s1.heap.objs.size = none := I1.hok.fresh (Nat.le_refl _)
  refine ⟨.ref s1.heap.objs.size, upd H1 s1.heap.objs.size (.lst xs), I1.laid (t' := s1.toks) (fun b u e => Heap.get?_push_of_some _ e) (Nat.le_refl _) ?_, rfl, q _ hf⟩
  exact ⟨z, us, 0, r, Heap.get?_push_size _ rfl⟩
end
abbrev Sp := List V → Hp → VK → XK → Prop
abbrev CXT := List Env → Hp → Shared → XK → Value → Shared → Prop
structure Env0 (P : Program) (w : World) (K : PySem.W.Frag) (mg : Str → Option Value) (base : Heap) (A : Around) (outer : List Env) (s : Shared) (H : Hp) : Prop where
  frames : A.frames = some outer
  mod : Mod K mg base
  bs : ∀ b o, base.get? b = some o → s.heap.get? b = some o ∧ H b = none
  bsz : base.objs.size ≤ s.heap.objs.size
  funs : s.heap.FunFrames base outer
  frf : ∀ b ∈ frs outer, H b = none
  hok : HOk P w H s.heap
  bare : AllBare s.gens
def CE (outer : List Env) (P : Program) (w : World) (H : Hp) (s : Shared) (Q : VK) (u : Value) (s' : Shared) : Prop :=
  ∃ v H', s'.os = s.os ∧ AllBare s'.gens ∧ Un (frs outer) [] H H' s.heap s'.heap ∧ HOk P w H' s'.heap ∧ RelV v u ∧ Q v H'
def CR (CX : CXT) (outer : List Env) (P : Program) (w : World) (H : Hp) (s : Shared) (Q : VK) (E : XK) (r : Result) (s' : Shared) : Prop :=
  match r with
  | .ok (.ret u) => CE outer P w H s Q u s'
  | .ok _ => False
  | .error e => CX outer H s E e s'
structure FnOk (P : Program) (w : World) (K : PySem.W.Frag) (mg : Str → Option Value) (base : Heap) (CX : CXT) (k : Nat) (f : Addr) (fd : FuncData) (ps : List Str) (sp : Sp) : Prop where
  len : ∀ vs H Q E, sp vs H Q E → vs.length = ps.length
  run : ∀ (A : Around) (outer : List Env) (s : Shared) (H : Hp) (args : Args) (us : List Value) (vs : List V) (Q : VK) (E : XK), Room k A → Env0 P w K mg base A outer s H → BindsTo s fd args (ps.zip us) → Vals vs us → sp vs H Q E →
    codeAny (model P w) A (.call (.ref f) args) (CR CX outer P w H s Q E) s
theorem FnOk.mono {P : Program} {w : World} {K : PySem.W.Frag} {mg : Str → Option Value} {base : Heap} {CX : CXT} {j k : Nat} {f : Addr} {fd : FuncData} {ps : List Str} {sp : Sp} (F : FnOk P w K mg base CX j f fd ps sp) (h : j ≤ k) :
    FnOk P w K mg base CX k f fd ps sp := ⟨F.len, fun A outer s H args us vs Q E hr => F.run A outer s H args us vs Q E (hr.mono h)⟩
theorem FnOk.imp {P : Program} {w : World} {K : PySem.W.Frag} {mg : Str → Option Value} {base : Heap} {CX : CXT} {k : Nat} {f : Addr} {fd : FuncData} {ps : List Str} {sp sp' : Sp} (F : FnOk P w K mg base CX k f fd ps sp)
    (h : ∀ vs H Q E, sp' vs H Q E → sp vs H Q E) : FnOk P w K mg base CX k f fd ps sp' :=
  ⟨fun vs H Q E q => F.len vs H Q E (h _ _ _ _ q), fun A outer s H args us vs Q E hr he hb hv hs => F.run A outer s H args us vs Q E hr he hb hv (h _ _ _ _ hs)⟩
theorem Env0.make {P : Program} {w : World} {K : PySem.W.Frag} {mg : Str → Option Value} {base : Heap} {A : Around} {outer : List Env} {s : Shared} {H : Hp} (e : Env0 P w K mg base A outer s H) (C : Addr) (us : List Value) (kw : List (Str × Value)) :
    Env0 P w K mg base (A.under (.builtin "type.__call__" ⟨.ref C :: us, kw⟩)) outer s H := ⟨by first | exact e.frames | (simpa [Around.under, Code.envs, Code.isFrame, pushEnvs] using e.frames), e.mod, e.bs, e.bsz, e.funs, e.frf, e.hok, e.bare⟩
theorem Env0.in1 {P : Program} {w : World} {K : PySem.W.Frag} {mg : Str → Option Value} {base : Heap} {A : Around} {outer : List Env} {s : Shared} {H : Hp} (e : Env0 P w K mg base A outer s H) :
    Env0 P w K mg base A.in1 outer s H := ⟨e.frames, e.mod, e.bs, e.bsz, e.funs, e.frf, e.hok, e.bare⟩
section
variable {X : Cx} {pins : List (Addr × Obj)} {σ : St} {H : Hp} {s s' : Shared}
theorem Inv.env0 (I : Inv X pins σ H s) : Env0 X.prog X.w X.K X.mg X.base X.A X.stack s H :=
  ⟨I.ok.frames, I.ok.mod, I.bs, Nat.le_trans I.ok.bsz I.sz, I.stack, I.stkFree, I.hok, I.bare⟩
theorem Inv.after {Q : VK} {u : Value} (I : Inv X pins σ H s) (h : CE X.stack X.prog X.w H s Q u s') : EP X pins σ Q u s' := by
  obtain ⟨v, H', os, bare, un, hok, r, q⟩ := h
  obtain ⟨hh, g, d, t, os'⟩ := s'
  obtain rfl : os' = s.os := os
  exact ⟨v, H', I.call (h' := hh) (g' := g) (d' := d) (t' := t) (ch := []) un hok bare (fun b z => absurd z (by simp)), r, q⟩
end
def tCall (sp : Sp) (dvs : List V) (E : XK) (t : TA) : TE := fun σ H Q => t σ H fun vs H1 => sp (vs ++ dvs) H1 Q E
def Binds (K : PySem.W.Frag) (fd : FuncData) (ps : List Str) (ds : List Value) : Prop :=
  ∀ (s : Shared) (us : List Value), K.In s.heap → (us ++ ds).length = ps.length → BindsTo s fd ⟨us, []⟩ (ps.zip (us ++ ds))
theorem Binds.all {K : PySem.W.Frag} {fd : FuncData} {ps : List Str} (h : ∀ us : List Value, us.length = ps.length → bindArgs fd ⟨us, []⟩ = pure (ps.zip us)) : Binds K fd ps [] := fun s us _ hl => by
  rw [List.append_nil] at hl ⊢
  exact .of_eq (h us hl)
def Passes (CX : CXT) (X : Cx) (E : XK) : Prop := ∀ (pins : List (Addr × Obj)) (σ : St) (H : Hp) (s : Shared) (e : Value) (s' : Shared), Inv X pins σ H s → CX X.stack H s E e s' → X.xe e s'
section
variable {X : Cx} {CX : CXT} {k : Nat} {f C : Addr} {fd : FuncData} {ps : List Str} {sp : Sp} {dvs : List V} {ds : List Value} {E : XK} {x m : Str} {p pos apos : Pos} {e o : Expr} {es : List Expr} {ta : TE} {t : TA}
theorem run_fn {pins : List (Addr × Obj)} {σ : St} {H : Hp} {s : Shared} {Q : VK} {us : List Value} {vs : List V} (F : FnOk X.prog X.w X.K X.mg X.base CX k f fd ps sp) (hr : Room k X.A) (hb : Binds X.K fd ps ds) (hd : Vals dvs ds) (hx : Passes CX X E)
    (I : Inv X pins σ H s) (r : Vals vs us) (h : sp (vs ++ dvs) H Q E) : wpAny (model X.prog X.w) X.A (call (.ref f) us) (EP X pins σ Q) X.xe s := by
  have r2 : Vals (vs ++ dvs) (us ++ ds) := r.append hd
  have hl : (us ++ ds).length = ps.length := by rw [← r2.length]; exact F.len _ _ _ _ h
  refine wpAny_call (codeAny_mono (F.run X.A X.stack s H ⟨us, []⟩ (us ++ ds) (vs ++ dvs) Q E hr I.env0 (hb s us I.kIn hl) r2 h) fun r s' hq => ?_)
  cases r with
  | error e => exact hx pins σ H s e s' I hq
  | ok fl =>
    cases fl with
    | ret u => exact I.after hq
    | next => exact False.elim hq
    | brk => exact False.elim hq
    | cont => exact False.elim hq
theorem pe_call (F : FnOk X.prog X.w X.K X.mg X.base CX k f fd ps sp) (hr : Room k X.A) (hg : Gl X x) (hm : X.mg x = some (.ref f)) (hk : PySem.W.keepIn X.K (.ref f) = true) (hb : Binds X.K fd ps ds) (hd : Vals dvs ds) (hx : Passes CX X E)
    (ha : PA X (e :: es) t) (hdb : (x == ("__debug__" : Str)) = false := by decide) (he : starEach (e :: es) X.env = (false, eval e X.env) :: starEach es X.env := by rfl) (hpl : (backTo pos (starEach es X.env)).any (·.1) = false := by rfl) :
    PE X (.Call (.Name x p) (e :: es) [] pos) (tCall sp dvs E t) := by
  intro pins s σ H Q I h
  refine wpAny_Call_Name_kw (ld_glob I hg hm ?_ hdb)
  refine PySem.W.callWith_K (h₀ := X.base) I.ok.mod.kin hk (thn (ha pos pins s σ H _ I h) fun us s1 ⟨vs, H1, I1, r, q⟩ => ⟨I1.kIn, ?_⟩) he hpl
  exact run_fn F hr hb hd hx I1 r q
structure Mk (K : PySem.W.Frag) (C f : Addr) : Prop where
  makes : PySem.W.makesIn K C = true
  init : PySem.W.findIn K (.ref C) "__init__" = some (some (.ref f))
  fn : PySem.W.isFn K (.ref f) = true
  kp : PySem.W.keepIn K (.ref C) = true
end
section
variable {X : Cx} {CX : CXT} {k : Nat} {f C : Addr} {fd : FuncData} {ps ks : List Str} {sp : Sp} {E : XK} {x m : Str} {p pos apos kpos : Pos} {e o : Expr} {es : List Expr} {kws : List Keyword} {te ta : TE} {t tk : TA} {nm : Option Str}
structure KBinds (K : PySem.W.Frag) (fd : FuncData) (ps ks : List Str) (g : List Value → List Value → List Value) (gV : List V → List V → List V) : Prop where
  to : ∀ (s : Shared) (us ws : List Value), K.In s.heap → (g us ws).length = ps.length → BindsTo s fd ⟨us, ks.zip ws⟩ (ps.zip (g us ws))
  rel : ∀ {vs : List V} {us : List Value} {zs : List V} {ws : List Value}, Vals vs us → Vals zs ws → Vals (gV vs zs) (g us ws)
variable {g : List Value → List Value → List Value} {gV : List V → List V → List V}
end
structure FnScope (N P : List Str) (sc : Scope) : Prop where
  kind : sc.kind = .function
  co : sc.isCoroutine = false
  gen : sc.isGenerator = false
  nd : N.Nodup
  pre : N.take P.length = P
  par : ∀ x ∈ P, sc.names.lookup x = some .local ∨ sc.names.lookup x = some .cell
  nofree : ∀ y ∈ sc.names, y.2 ≠ .free
theorem bindL_out {kindOf : Str → Option NameKind} {x : Str} : ∀ {binds : List (Str × Value)} {m : Str → Option Value}, (∀ v, (x, v) ∉ binds) → bindL kindOf binds m x = m x
  | [], _, _ => rfl
  | (n, v) :: r, m, h => by
    unfold bindL
    rw [bindL_out fun w hw => h w (List.mem_cons_of_mem _ hw)]
    split
    · have : x ≠ n := by rintro rfl; exact h v List.mem_cons_self
      simp [this]
    · rfl
theorem bindC_out {kindOf : Str → Option NameKind} {x : Str} : ∀ {binds : List (Str × Value)} {m : Str → Option Value}, (∀ v, (x, v) ∉ binds) → bindC kindOf binds m x = m x
  | [], _, _ => rfl
  | (n, v) :: r, m, h => by
    unfold bindC
    rw [bindC_out fun w hw => h w (List.mem_cons_of_mem _ hw)]
    split
    · rfl
    · have : x ≠ n := by rintro rfl; exact h v List.mem_cons_self
      simp [this]
theorem bindL_get {kindOf : Str → Option NameKind} {x : Str} {v : Value} : ∀ {P : List Str} {vs : List Value} {i : Nat} {m : Str → Option Value}, P.Nodup → P[i]? = some x → vs[i]? = some v → kindOf x = some .local →
    bindL kindOf (P.zip vs) m x = some v
  | [], _, _, _, _, h, _, _ => by simp at h
  | _ :: _, [], _, _, _, _, h, _ => by simp at h
  | p :: P, w :: vs, 0, m, nd, h1, h2, hk => by
    simp at h1 h2; subst h1; subst h2
    show bindL kindOf ((p, w) :: P.zip vs) m p = _
    unfold bindL
    rw [bindL_out fun v hv => (List.nodup_cons.mp nd).1 (List.of_mem_zip hv).1, if_pos hk]
    simp
  | p :: P, w :: vs, i + 1, m, nd, h1, h2, hk => by
    show bindL kindOf ((p, w) :: P.zip vs) m x = _
    unfold bindL
    exact bindL_get (i := i) (List.nodup_cons.mp nd).2 (by simpa using h1) (by simpa using h2) hk
theorem bindC_get {kindOf : Str → Option NameKind} {x : Str} {v : Value} : ∀ {P : List Str} {vs : List Value} {i : Nat} {m : Str → Option Value}, P.Nodup → P[i]? = some x → vs[i]? = some v → kindOf x ≠ some .local →
    bindC kindOf (P.zip vs) m x = some v
  | [], _, _, _, _, h, _, _ => by simp at h
  | _ :: _, [], _, _, _, _, h, _ => by simp at h
  | p :: P, w :: vs, 0, m, nd, h1, h2, hk => by
    simp at h1 h2; subst h1; subst h2
    show bindC kindOf ((p, w) :: P.zip vs) m p = _
    unfold bindC
    rw [bindC_out fun v hv => (List.nodup_cons.mp nd).1 (List.of_mem_zip hv).1, if_neg hk]
    simp
  | p :: P, w :: vs, i + 1, m, nd, h1, h2, hk => by
    show bindC kindOf ((p, w) :: P.zip vs) m x = _
    unfold bindC
    exact bindC_get (i := i) (List.nodup_cons.mp nd).2 (by simpa using h1) (by simpa using h2) hk
def start (N : List Str) (vs : List V) : St := vs.map some ++ List.replicate (N.length - vs.length) none
def cxOf (CX : CXT) (P : Program) (w : World) (K : PySem.W.Frag) (mg : Str → Option Value) (base : Heap) (N : List Str) (qual : Str) (scope : Scope) (f : Addr) (cd : Value) (A : Around) (outer : List Env) (s : Shared) (H : Hp) (E : XK) : Cx where
  prog := P
  w := w
  K := K
  mg := mg
  base := base
  A := A.deeper (envOfC qual scope s.heap.objs.size f cd)
  N := N
  s₀ := s
  H₀ := H
  env := envOfC qual scope s.heap.objs.size f cd
  outer := outer
  stack := envOfC qual scope s.heap.objs.size f cd :: outer
  ex := []
  calm := true
  fn := fun _ => true
  pn := []
  xe := fun e s' => wpAny (model P w) (A.deeper (envOfC qual scope s.heap.objs.size f cd)) (leaving (envOfC qual scope s.heap.objs.size f cd) e) (fun _ s'' => CX outer H s E e s'') (fun e' s'' => CX outer H s E e' s'') s'
theorem cell_has {sc : Scope} {n : Nat} {x : Str} (h : sc.names.lookup x = some .cell) : ∃ c, (cellsFrom n sc.names []).lookup x = some c := by
  have q := PySem.W.cellsFrom_some sc.names n [] (.inl h)
  exact Option.isSome_iff_exists.mp q
theorem inv_start {CX : CXT} {P : Program} {w : World} {K : PySem.W.Frag} {mg : Str → Option Value} {base : Heap} {N ps : List Str} {qual : Str} {scope : Scope} {f : Addr} {cd : Value} {A : Around} {outer : List Env} {s s1 : Shared} {H : Hp} {E : XK} {us : List Value} {vs : List V}
    (S : FnScope N ps scope) (hd : A.handled = none) (e0 : Env0 P w K mg base A outer s H) (hl : vs.length = ps.length) (r : Vals vs us)
    (x : InCallC s s.heap.objs.size (bindL (envOfC qual scope s.heap.objs.size f cd).kindOf (ps.zip us) fun _ => none) (cellsFrom (s.heap.objs.size + 1) scope.names []) (bindC (envOfC qual scope s.heap.objs.size f cd).kindOf (ps.zip us) fun _ => none) s1) :
    Inv (cxOf CX P w K mg base N qual scope f cd A outer s H E) [] (start N vs) H s1 := by
  have hpl : ps.length ≤ N.length := by have := congrArg List.length S.pre; rw [List.length_take] at this; omega
  obtain ⟨h1, tk, rfl, hk⟩ := x.done
  have noA : ∀ b : Addr, b ∉ (cxOf CX P w K mg base N qual scope f cd A outer s H E).ex := fun b z => absurd (show b ∈ ([] : List Addr) from z) (by simp)
  refine ⟨⟨e0.mod, S.kind, rfl, rfl, Nat.le_refl _, fun y z c h1 h2 => ?_, fun y hy => ?_, fun y c _ h => ?_, fun _ => hd, Around.frames_deeper e0.frames, .inr ⟨rfl, rfl⟩, fun b z => absurd z (noA b), e0.bs, e0.bsz, fun b _ _ => noA b, fun b z => absurd z (noA b), e0.funs, e0.frf⟩,
    rfl, e0.bare, Un.kept hk, ⟨_, x.toInCall.ns, fun i y v h1 h2 h3 => ?_⟩, fun y c h => ⟨_, x.cell y c h⟩, e0.hok.fresh (Nat.le_refl _), fun y c h => ?_, fun p hp => absurd (show p ∈ ([] : List (Addr × Obj)) from hp) (by simp), e0.hok.kept hk, ?_⟩
  · exact name_of_addr x.apart (PySem.mem_of_lookup h1) (PySem.mem_of_lookup h2)
  · have hy : scope.names.lookup y = some .cell ∨ scope.names.lookup y = some .free := hy
    rcases hy with hy | hy
    · exact cell_has hy
    · exact absurd rfl (S.nofree _ (PySem.mem_of_lookup hy))
  · exact Nat.le_of_lt (x.above y c (PySem.mem_of_lookup h))
  · have hi : i < vs.length := by
      unfold start at h2
      by_cases hi : i < vs.length
      · exact hi
      · rw [List.getElem?_append_right (by simpa using hi)] at h2
        rw [List.getElem?_replicate] at h2
        split at h2 <;> cases h2
    have ha : vs[i]? = some v := by
      unfold start at h2
      rw [List.getElem?_append_left (by simpa using hi), List.getElem?_map] at h2
      cases e : vs[i]? with
      | none => rw [e] at h2; cases h2
      | some a => rw [e] at h2; cases h2; rfl
    obtain ⟨u, hu, rv⟩ := r.get ha
    have hp : ps[i]? = some y := by
      rw [← S.pre, List.getElem?_take_of_lt (by omega)]; exact h1
    have ndP : ps.Nodup := by rw [← S.pre]; exact S.nd.sublist (List.take_sublist _ _)
    refine ⟨u, rv, ?_⟩
    rcases S.par y (List.mem_of_getElem? hp) with k | k
    · exact .inl ⟨k, bindL_get ndP hp hu k⟩
    · obtain ⟨c, e⟩ := cell_has (n := s.heap.objs.size + 1) k
      refine .inr ⟨.inl k, c, e, ?_⟩
      have q := x.cell y c e
      rw [bindC_get ndP hp hu (by show scope.names.lookup y ≠ _; rw [k]; decide)] at q
      exact q
  · exact e0.hok.fresh (Nat.le_of_lt (x.above y c (PySem.mem_of_lookup h)))
  · unfold start
    show _ = N.length
    rw [List.length_append, List.length_map, List.length_replicate]
    omega
theorem fn_of {CX : CXT} {P : Program} {w : World} {K : PySem.W.Frag} {mg : Str → Option Value} {base : Heap} {k : Nat} {f : Addr} {name qual : Str} {params : Arguments} {body : List Stmt} {scope : Scope} {dV kV doc pm cdv ct oc : Value} {an od : Option Addr}
    {osl : Array (Option Value)} {N ps : List Str} {sp : Sp} (lk : K.lookup f = some ⟨oc, od, .func (PySem.W.fnOf name qual params body scope dV kV doc pm an cdv ct), osl⟩) (hcd : PySem.W.codeIn K cdv qual = true) (S : FnScope N ps scope)
    (len : ∀ vs H Q E, sp vs H Q E → vs.length = ps.length)
    (hbody : ∀ (A : Around) (outer : List Env) (s : Shared) (H : Hp) (vs : List V) (Q : VK) (E : XK), Room k (A.deeper (envOfC qual scope s.heap.objs.size f cdv)) → sp vs H Q E →
      ∃ t, PSs (cxOf CX P w K mg base N qual scope f cdv A outer s H E) body t ∧ t { nx := fun _ H' => Q .non H', rt := Q } (start N vs) H) :
    FnOk P w K mg base CX (k + 1) f (PySem.W.fnOf name qual params body scope dV kV doc pm an cdv ct) ps sp := by
  refine ⟨len, fun A outer s H args us vs Q E hr e0 hb r hsp => ?_⟩
  have hl := len _ _ _ _ hsp
  have KX : K.In s.heap := e0.mod.kin.keeps fun b o e => (e0.bs b o e).1
  have lim : s.heap.NoLimit := e0.mod.nolimit.keeps fun b o e => (e0.bs b o e).1
  have hkind : ∀ y ∈ ps.zip us, scope.names.lookup y.1 = some .local ∨ (scope.names.lookup y.1 = some .cell ∧ ((cellsFrom (s.heap.objs.size + 1) scope.names []).lookup y.1).isSome = true) := fun ⟨n, v⟩ hy => by
    rcases S.par n (List.of_mem_zip hy).1 with q | q
    · exact .inl q
    · exact .inr ⟨q, PySem.W.cellsFrom_some _ _ _ (.inl q)⟩
  refine codeAny_call_function hr.depth (KX _ _ lk) rfl S.co S.gen rfl (PySem.W.codeRec_of KX hcd) (hb _ _ _ _ ?_)
  refine wpAny_newFunctionEnv_cells S.kind hkind fun env he s1 x => ?_
  subst he
  refine ⟨lim.keeps x.toInCall.keep, codeAny_func ?_⟩
  obtain ⟨t, ht, hq⟩ := hbody A outer s H vs Q E (hr.deeper _) hsp
  have I : Inv (cxOf CX P w K mg base N qual scope f cdv A outer s H E) [] (start N vs) H s1 := inv_start S hr.hd e0 hl r x
  refine wpAny_mono (ht [] s1 (start N vs) H _ I hq) (fun fl s' hs => ?_) fun e s' hs => hs
  have fin : ∀ {σ' : St} {H' : Hp} {v : V} {u : Value}, Inv (cxOf CX P w K mg base N qual scope f cdv A outer s H E) [] σ' H' s' → RelV v u → Q v H' → CE outer P w H s Q u s' :=
    fun {σ' H' v u} J rv q => ⟨v, H', J.os, J.bare, J.base, J.hok, rv, q⟩
  cases fl with
  | ret u =>
    obtain ⟨v, σ', H', J, rv, q⟩ := hs
    exact fin J rv q
  | next =>
    obtain ⟨σ', H', J, q⟩ := hs
    exact fin (v := V.non) (u := Value.none) J rfl q
  | brk =>
    obtain ⟨_, _, _, q⟩ := hs
    exact False.elim q
  | cont =>
    obtain ⟨_, _, _, q⟩ := hs
    exact False.elim q
end L2
namespace L2
open PySem PySem.Spec PyProof.Rows
section
variable {X : Cx} {x : Str} {p pos : Pos} {e : Expr} {es : List Expr} {t : TA} {id T : String} {r : List V → Hp → VK → Prop}
def tCB (r : List V → Hp → VK → Prop) (t : TA) : TE := fun σ H Q => t σ H fun vs H1 => r vs H1 Q
theorem pe_callB (hc : CallR X (.builtin id) r) (hg : Gl X x) (hm : X.mg x = none) (hv : bootBuiltins x = some (.builtin id)) (ha : PA X (e :: es) t) (hn : x ≠ "__name__" := by decide) (hdb : (x == ("__debug__" : Str)) = false := by decide)
    (he : starEach (e :: es) X.env = (false, eval e X.env) :: starEach es X.env := by rfl) (hpl : (backTo pos (starEach es X.env)).any (·.1) = false := by rfl) : PE X (.Call (.Name x p) (e :: es) [] pos) (tCB r t) := by
  intro pins s σ H Q I h
  refine wpAny_Call_Name_kw (ld_blt I hg hm hv ?_ hn hdb)
  exact PyProof.Rows.callWith_builtin1 (thn (ha pos pins s σ H _ I h) fun us s1 ⟨vs, H1, I1, r1, q1⟩ => hc pins s1 σ H1 vs us Q I1 r1 q1) he hpl
theorem pe_callTy (hc : CallR X (.type T) r) (hg : Gl X x) (hm : X.mg x = none) (hv : bootBuiltins x = some (.type T)) (ha : PA X (e :: es) t) (hn : x ≠ "__name__" := by decide) (hdb : (x == ("__debug__" : Str)) = false := by decide)
    (he : starEach (e :: es) X.env = (false, eval e X.env) :: starEach es X.env := by rfl) (hpl : (backTo pos (starEach es X.env)).any (·.1) = false := by rfl) : PE X (.Call (.Name x p) (e :: es) [] pos) (tCB r t) := by
  intro pins s σ H Q I h
  refine wpAny_Call_Name_kw (ld_blt I hg hm hv ?_ hn hdb)
  exact PyProof.Rows.callWith_type1 (thn (ha pos pins s σ H _ I h) fun us s1 ⟨vs, H1, I1, r1, q1⟩ => hc pins s1 σ H1 vs us Q I1 r1 q1) he hpl
end
end L2
namespace HT
open PySem PyProof.Rows
section
open PySem.SeqAt
open PySem.AutoSeq1 (wpAny_loadPart')
open PySem.MeetsSeq PySem.MeetsSeq2 PySem.MeetsSeq3
end
section
variable {prog : Program} {w : World} {A : Around} {E : Value → Shared → Prop} {s : Shared}
end
end HT
namespace L2
open PySem PySem.Spec PyProof.Rows
abbrev TO := St → Hp → (Option Int → Hp → Prop) → Prop
def PO (X : Cx) (e : Option Expr) (t : TO) : Prop :=
  ∀ (pins : List (Addr × Obj)) (s : Shared) (σ : St) (H : Hp) (Q : Option Int → Hp → Prop), Inv X pins σ H s → t σ H Q →
    wpAny (model X.prog X.w) X.A (evalPart e X.env) (fun u s' => ∃ o H', Inv X pins σ H' s' ∧ IsPart u o ∧ Q o H') X.xe s
def tNoPart : TO := fun _ H Q => Q none H
def tPart (t : TE) : TO := fun σ H Q => t σ H fun x H1 => ∃ i, x = .int i ∧ Q (some i) H1
section
variable {X : Cx} {e : Expr} {te : TE} {lo hi : Option Expr} {tl th : TO} {pos p2 : Pos}
theorem po_none : PO X none tNoPart := by
  intro pins s σ H Q I h
  rw [evalPart_none]
  exact wpAny_pure ⟨none, H, I, .none, h⟩
theorem po_some (h : PE X e te) : PO X (some e) (tPart te) := by
  intro pins s σ H Q I hw
  rw [evalPart_some]
  refine thn (h pins s σ H _ I hw) fun u s1 ⟨x, H1, I1, r1, q1⟩ => ?_
  obtain ⟨i, rfl, q⟩ := q1
  obtain ⟨t, rfl⟩ := r1
  exact ⟨some i, H1, I1, .int i t, q⟩
def SlR (X : Cx) (r : V → Option Int → Option Int → Hp → VK → Prop) : Prop :=
  ∀ (pins : List (Addr × Obj)) (s : Shared) (σ : St) (H : Hp) (x : V) (v vl vu : Value) (lo hi : Option Int) (sl : Addr) (Q : VK), Inv X pins σ H s → RelV x v → s.heap.IsSliceOf sl vl vu .none → IsPart vl lo → IsPart vu hi → r x lo hi H Q →
    ∃ T id, typeLookup (.type T) "__getitem__" = pure (some (.builtin id)) ∧ s.TypeIs v T ∧ wpAny (model X.prog X.w) X.A (getItem v (.ref sl)) (EP X pins σ Q) X.xe s
theorem SlR.or {r r' : V → Option Int → Option Int → Hp → VK → Prop} (h : SlR X r) (h' : SlR X r') : SlR X (fun x lo hi H Q => r x lo hi H Q ∨ r' x lo hi H Q) := by
  intro pins s σ H x v vl vu lo hi sl Q I rx hs pl pu q
  rcases q with q | q
  · exact h pins s σ H x v vl vu lo hi sl Q I rx hs pl pu q
  · exact h' pins s σ H x v vl vu lo hi sl Q I rx hs pl pu q
def tSl (r : V → Option Int → Option Int → Hp → VK → Prop) (te : TE) (tl th : TO) : TE := fun σ H Q => te σ H fun x H1 => tl σ H1 fun l H2 => th σ H2 fun u H3 => r x l u H3 Q
theorem pe_slice {r : V → Option Int → Option Int → Hp → VK → Prop} (hr : SlR X r) (he : PE X e te) (hl : PO X lo tl) (hu : PO X hi th) : PE X (.Subscript e (.Slice lo hi none p2) pos) (tSl r te tl th) := by
  intro pins s σ H Q I h
  refine Subscript_ (thn (he pins s σ H _ I h) fun v s1 ⟨x, H1, I1, r1, q1⟩ => ?_)
  refine wpAny_Slice (thn (hl pins s1 σ H1 _ I1 q1) fun vl s2 ⟨l, H2, I2, pl, q2⟩ => thn (hu pins s2 σ H2 _ I2 q2) fun vu s3 ⟨u, H3, I3, pu, q3⟩ => ?_)
  rw [evalPart_none]
  refine wpAny_pure ?_
  have I4 : Inv X pins σ H3 { s3 with heap := s3.heap.push { cls := .type "slice", data := .fields #[vl, vu, .none] } } := I3.kept (t' := s3.toks) fun b ob q => Heap.get?_push_of_some _ q
  obtain ⟨T, id, hT, ht, hg⟩ := hr pins { s3 with heap := s3.heap.push { cls := .type "slice", data := .fields #[vl, vu, .none] } } σ H3 x v vl vu l u s3.heap.objs.size Q I4 r1 (Heap.IsSliceOf.new ..) pl pu q3
  show wpAny (model X.prog X.w) X.A (subscriptTail e (.Slice lo hi none p2) v (.ref s3.heap.objs.size)) (EP X pins σ Q) X.xe { s3 with heap := s3.heap.push { cls := .type "slice", data := .fields #[vl, vu, .none] } }
  exact tail_any (ops := [.ref s3.heap.objs.size, v]) ht hT hg (by with_unfolding_all rfl)
end
end L2
namespace L2
open PySem PySem.Spec PyProof.Rows
def ixN (n : Nat) (i : Int) : Option Nat := if 0 ≤ i then (if i < n then some i.toNat else none) else if -(n : Int) ≤ i then some (i + n).toNat else none
def atI {α : Type} (xs : List α) (i : Int) : Option α := (ixN xs.length i).bind fun j => xs[j]?
theorem ixN_seq {n : Nat} {i : Int} {j : Nat} (h : ixN n i = some j) : seqIndex? i n = some j ∧ j < n ∧ -(n : Int) ≤ i ∧ i < n := by
  unfold ixN at h
  by_cases h0 : 0 ≤ i
  · rw [if_pos h0] at h
    by_cases h1 : i < n
    · rw [if_pos h1] at h
      have e : i.toNat = j := Option.some.inj h
      exact ⟨by rw [seqIndex_of h0 h1, e], by omega, by omega, h1⟩
    · rw [if_neg h1] at h; cases h
  · rw [if_neg h0] at h
    by_cases h1 : -(n : Int) ≤ i
    · rw [if_pos h1] at h
      have e : (i + n).toNat = j := Option.some.inj h
      exact ⟨by rw [seqIndex_neg (by omega) h1, e], by omega, h1, by omega⟩
    · rw [if_neg h1] at h; cases h
theorem atI_get {α : Type} {xs : List α} {i : Int} {v : α} (h : atI xs i = some v) : ∃ j, seqIndex? i xs.length = some j ∧ xs[j]? = some v ∧ j < xs.length ∧ -(xs.length : Int) ≤ i ∧ i < xs.length := by
  unfold atI at h
  cases e : ixN xs.length i with
  | none => rw [e] at h; cases h
  | some j =>
    rw [e] at h
    obtain ⟨h1, h2, h3, h4⟩ := ixN_seq e
    exact ⟨j, h1, h, h2, h3, h4⟩
def PlainIx (b : Expr) : Prop := ∀ o i, subscripted b false o i = operate [o, i] (getItem o i)
def IxR (X : Cx) (r : R2) : Prop :=
  ∀ (value slice : Expr) (pins : List (Addr × Obj)) (s : Shared) (σ : St) (H : Hp) (x y : V) (v u : Value) (Q : VK), Inv X pins σ H s → RelV x v → RelV y u → r x y H Q →
    subscripted slice false v u = operate [v, u] (getItem v u) → wpAny (model X.prog X.w) X.A (subscriptTail value slice v u) (EP X pins σ Q) X.xe s
def MtR (X : Cx) (id : String) (r : V → List V → Hp → VK → Prop) : Prop :=
  ∀ (pins : List (Addr × Obj)) (s : Shared) (σ : St) (H : Hp) (x : V) (xs : List V) (v : Value) (us : List Value) (Q : VK), Inv X pins σ H s → RelV x v → Vals xs us → r x xs H Q →
    wpAny (model X.prog X.w) X.A (call (.builtin id) (v :: us)) (EP X pins σ Q) X.xe s
section
variable {X : Cx} {a b : Expr} {ta tb : TE} {pos : Pos}
theorem IxR.or {r r' : R2} (h : IxR X r) (h' : IxR X r') : IxR X (fun x y H Q => r x y H Q ∨ r' x y H Q) := by
  intro value slice pins s σ H x y v u Q I rx ry q hs
  rcases q with q | q
  · exact h value slice pins s σ H x y v u Q I rx ry q hs
  · exact h' value slice pins s σ H x y v u Q I rx ry q hs
theorem MtR.or {id : String} {r r' : V → List V → Hp → VK → Prop} (h : MtR X id r) (h' : MtR X id r') : MtR X id (fun x xs H Q => r x xs H Q ∨ r' x xs H Q) := by
  intro pins s σ H x xs v us Q I rx rs q
  rcases q with q | q
  · exact h pins s σ H x xs v us Q I rx rs q
  · exact h' pins s σ H x xs v us Q I rx rs q
theorem pe_ix {r : R2} (hr : IxR X r) (ha : PE X a ta) (hb : PE X b tb) (hs : PlainIx b) : PE X (.Subscript a b pos) (tOp r ta tb) := by
  intro pins s σ H Q I h
  exact Subscript_ (binT ha hb I h fun v u s2 x y H2 I2 rx ry q => hr a b pins s2 σ H2 x y v u Q I2 rx ry q (hs _ _))
def rIxL (K : PySem.W.Frag) : R2 := fun x y H Q => ∃ p xs i v, x = .ref p ∧ y = .int i ∧ SqL K H p xs ∧ atI xs i = some v ∧ Q v H
def rIxT (K : PySem.W.Frag) : R2 := fun x y H Q => ∃ p xs i v, x = .ref p ∧ y = .int i ∧ SqT K H p xs ∧ atI xs i = some v ∧ Q v H
def rIxS : R2 := fun x y H Q => ∃ z i c, x = .str z ∧ y = .int i ∧ z.length ≤ sizeLine ∧ atI z.cps.toList i = some c ∧ Q (.str ⟨#[c]⟩) H
theorem ix_list : IxR X (rIxL X.K) := by
  intro value slice pins s σ H x y v u Q I rx ry h hs
  obtain ⟨p, xs, i, z, rfl, rfl, hq, he, q⟩ := h
  cases rx
  obtain ⟨t, rfl⟩ := ry
  obtain ⟨its, r, pl, hz⟩ := I.list hq
  obtain ⟨j, h1, h2, h3, h4, h5⟩ := atI_get he
  obtain ⟨w, ew, rw'⟩ := r.get h2
  have hl := r.length
  have hn := line63
  have fin : EP X pins σ Q w s := ⟨z, H, I, rw', q⟩
  by_cases h0 : 0 ≤ i
  · have hj : i.toNat = j := by
      rw [seqIndex_of h0 h5] at h1
      exact Option.some.inj h1
    exact item_listR pl.isList h0 (by omega) (by rw [hj]; simpa using ew) fin hs
  · have hj : (i + (its.toArray.size : Int)).toNat = j := by
      rw [seqIndex_neg (by omega) h4] at h1
      rw [List.size_toArray, ← hl]
      exact Option.some.inj h1
    exact subscriptTail_builtinR (x := w) pl.isList.typeIs slot_list_getitem.lookup
      (wpAny_getItem_list_neg (Q := fun r s' => r = w ∧ EP X pins σ Q r s') pl.isList (by omega) (by rw [List.size_toArray] <;> omega) (by omega) (by rw [hj]; simpa using ew) ⟨rfl, fin⟩) hs
theorem ix_tup : IxR X (rIxT X.K) := by
  intro value slice pins s σ H x y v u Q I rx ry h hs
  obtain ⟨p, xs, i, z, rfl, rfl, hq, he, q⟩ := h
  cases rx
  obtain ⟨t, rfl⟩ := ry
  obtain ⟨its, r, pl, hz⟩ := I.tuple hq
  obtain ⟨j, h1, h2, h3, h4, h5⟩ := atI_get he
  obtain ⟨w, ew, rw'⟩ := r.get h2
  have hl := r.length
  have hn := line63
  have fin : EP X pins σ Q w s := ⟨z, H, I, rw', q⟩
  exact subscriptTail_builtinR (x := w) pl.typeIs slot_tuple_getitem.lookup
    (getItem_tuple (j := j) (Q := fun r s' => r = w ∧ EP X pins σ Q r s') pl (by omega) (by omega) (by rw [List.size_toArray, ← hl]; exact h1) (by simpa using ew) ⟨rfl, fin⟩) hs
theorem ix_str : IxR X rIxS := by
  intro value slice pins s σ H x y v u Q I rx ry h hs
  obtain ⟨z, i, c, rfl, rfl, hz, he, q⟩ := h
  obtain ⟨t, rfl⟩ := rx
  obtain ⟨t', rfl⟩ := ry
  obtain ⟨j, h1, h2, h3, h4, h5⟩ := atI_get he
  have hl : z.cps.toList.length = z.length := by simp [Str.length]
  rw [hl] at h1 h4 h5
  have hn := line63
  exact tail_any (typeIs_str s z t) slot_str_getitem.lookup (getItem_str (c := c) (by
    have e1 : decide (i < -(2 ^ 63 : Int)) = false := decide_eq_false (by omega)
    have e2 : decide (i ≥ 2 ^ 63) = false := decide_eq_false (by omega)
    rw [e1, e2, Bool.or_false]) (by rw [h1]; simpa using h2) ⟨.str ⟨#[c]⟩, H, I.tok _, ⟨_, rfl⟩, q⟩) hs
def rIx (K : PySem.W.Frag) : R2 := fun x y H Q => rIxL K x y H Q ∨ rIxT K x y H Q ∨ rIxS x y H Q
theorem ix_seq : IxR X (rIx X.K) := ix_list.or (ix_tup.or ix_str)
theorem Inv.lst {pins : List (Addr × Obj)} {σ : St} {H : Hp} {s : Shared} {p : Addr} {xs : List V} (I : Inv X pins σ H s) (h : H p = some (.lst xs)) :
    ∃ (its : List Value) (n : Nat), Vals xs its ∧ s.heap.get? p = some { cls := .type "list", data := .seq its.toArray n } ∧ xs.length ≤ sizeLine := by
  obtain ⟨z, its, n, r, e⟩ := I.hok p _ h
  exact ⟨its, n, r, e, z⟩
theorem call_len_seq : CallR X (.builtin "len") (fun xs H Q => ∃ p ys, xs = [.ref p] ∧ (SqL X.K H p ys ∨ SqT X.K H p ys) ∧ Q (.int ys.length) H) := by
  intro pins s σ H xs us Q I r h
  obtain ⟨p, ys, rfl, hq, q⟩ := h
  obtain ⟨u, rfl, rx⟩ := vals1 r
  cases rx
  have hn := line63
  rcases hq with hq | hq
  · obtain ⟨its, r', pl, hz⟩ := I.list hq
    have hlen := r'.length
    exact Calls.call_len_list pl.isList (by simp only [List.size_toArray] <;> omega) ⟨.int ys.length, H, I.tok _, ⟨s.toks + 1, by rw [List.size_toArray, hlen]⟩, q⟩
  · obtain ⟨its, r', pl, hz⟩ := I.tuple hq
    have hlen := r'.length
    exact len_tuple pl (by simp only [List.size_toArray] <;> omega) ⟨.int ys.length, H, I.tok _, ⟨s.toks + 1, by rw [List.size_toArray, hlen]⟩, q⟩
theorem call_len_str : CallR X (.builtin "len") (fun xs H Q => ∃ z, xs = [.str z] ∧ z.length ≤ sizeLine ∧ Q (.int z.length) H) := by
  intro pins s σ H xs us Q I r h
  obtain ⟨z, rfl, hz, q⟩ := h
  obtain ⟨u, rfl, t, rfl⟩ := vals1 r
  have hn := line63
  exact len_str (by omega) ⟨.int z.length, H, I.tok _, ⟨_, rfl⟩, q⟩
theorem CallR.or {f : Value} {r r' : List V → Hp → VK → Prop} (h : CallR X f r) (h' : CallR X f r') : CallR X f (fun xs H Q => r xs H Q ∨ r' xs H Q) := by
  intro pins s σ H xs us Q I rs q
  rcases q with q | q
  · exact h pins s σ H xs us Q I rs q
  · exact h' pins s σ H xs us Q I rs q
theorem call_tuple_of : CallR X (.type "tuple") (fun xs H Q => ∃ p ys, xs = [.ref p] ∧ ((SqL X.K H p ys ∧ ∀ l, H l = none → Q (.ref l) (upd H l (.tup ys))) ∨ (SqT X.K H p ys ∧ Q (.ref p) H))) := by
  intro pins s σ H xs us Q I r h
  obtain ⟨p, ys, rfl, h⟩ := h
  obtain ⟨u, rfl, rx⟩ := vals1 r
  cases rx
  rcases h with ⟨hq, q⟩ | ⟨hq, q⟩
  · obtain ⟨its, r', pl, hz⟩ := I.list hq
    have hlen := r'.length
    refine call_tuple_list pl.isList (fun h' kp => ?_) (by simp only [List.size_toArray] <;> omega)
    have I1 : Inv X pins σ H { s with heap := h' } := I.kept (t' := s.toks) kp
    have I2 : Inv X pins σ (upd H h'.objs.size (.tup ys)) { s with heap := h'.push { cls := .type "tuple", data := .seq its.toArray } } :=
      I1.laid (t' := s.toks) (fun b o e => Heap.get?_push_of_some _ e) (Nat.le_refl _) (show ObjOk X.prog X.w _ _ _ (.tup ys) from ⟨hz, its, r', IsTup.new _ _⟩)
    exact ⟨.ref h'.objs.size, _, I2, rfl, q _ (I1.hok.fresh (Nat.le_refl _))⟩
  · obtain ⟨its, r', pl, hz⟩ := I.tuple hq
    exact call_tuple_same pl ⟨.ref p, H, I, rfl, q⟩
def tyV (K : PySem.W.Frag) (T : String) (x : V) (H : Hp) : Prop := match x with
  | .str _ => T = "str"
  | .int _ => T = "int"
  | .ref p => (T = "list" ∧ ∃ xs, SqL K H p xs) ∨ (T = "tuple" ∧ ∃ o, K.lookup p = some o ∧ o.cls = .type "tuple" ∧ o.dict = none) ∨
      (T = "dict" ∧ ((∃ kvs, H p = some (.dK kvs)) ∨ ∃ kvs, H p = some (.dT kvs))) ∨ (T = "set" ∧ ∃ S n, H p = some (.set S n))
  | _ => False
theorem tyV_is {pins : List (Addr × Obj)} {σ : St} {H : Hp} {s : Shared} {T : String} {x : V} {v : Value} (I : Inv X pins σ H s) (r : RelV x v) (ty : tyV X.K T x H) :
    s.TypeIs v T ∧ ∀ a, v = .ref a → ∃ ob, s.heap.get? a = some ob ∧ ob.dict = none := by
  cases x with
  | str z =>
    obtain ⟨t, rfl⟩ := r
    cases (show T = "str" from ty)
    exact ⟨typeIs_str s z t, fun _ e => nomatch e⟩
  | int i =>
    obtain ⟨t, rfl⟩ := r
    cases (show T = "int" from ty)
    exact ⟨typeIs_int s i t, fun _ e => nomatch e⟩
  | ref p =>
    cases r
    rcases ty with ⟨rfl, xs, hq⟩ | ⟨rfl, o, hk, hc, hd⟩ | ⟨rfl, hk⟩ | ⟨rfl, S, n, hk⟩
    · obtain ⟨its, _, pl, _⟩ := I.list hq
      refine ⟨pl.isList.typeIs, fun a e => ?_⟩
      cases e
      obtain ⟨o, n, e, c, hd, _⟩ := pl
      exact ⟨o, e, hd⟩
    · refine ⟨⟨o, I.kIn p o hk, hc⟩, fun a e => ?_⟩
      cases e
      exact ⟨o, I.kIn _ o hk, hd⟩
    · have z : ∃ o, s.heap.get? p = some o ∧ o.ExactDict := by
        rcases hk with ⟨kvs, hk⟩ | ⟨kvs, hk⟩
        · obtain ⟨_, _, _, _, o, _, _, e, ex, _⟩ := I.hok p _ hk
          exact ⟨o, e, ex⟩
        · obtain ⟨_, _, _, _, o, _, _, e, ex, _⟩ := I.hok p _ hk
          exact ⟨o, e, ex⟩
      obtain ⟨o, e, ex⟩ := z
      refine ⟨⟨o, e, ex.1⟩, fun a e2 => ?_⟩
      cases e2
      exact ⟨o, e, ex.2.1⟩
    · obtain ⟨o, _, _, _, e, ex, _⟩ := I.hok p _ hk
      refine ⟨⟨o, e, ex.1⟩, fun a e2 => ?_⟩
      cases e2
      exact ⟨o, e, ex.2.1⟩
  | _ => exact False.elim ty
def tBM (K : PySem.W.Frag) (T : String) (r : V → List V → Hp → VK → Prop) (to : TE) (t : TA) : TE := fun σ H Q => to σ H fun x H1 => tyV K T x H1 ∧ t σ H1 fun xs H2 => r x xs H2 Q
variable {o e : Expr} {es : List Expr} {to : TE} {t : TA} {name : Str} {apos cpos : Pos} {T id : String} {r : V → List V → Hp → VK → Prop}
theorem pe_bm (pa : PlainAttrs T) (slot : Slot T name id) (hty : typeOf (.builtin id) = pure (.type "method_descriptor")) (hm : MtR X id r) (ho : PE X o to) (ha : PA X (e :: es) t)
    (hbase : attributeBase o name X.env (eval o X.env) = eval o X.env := by rfl)
    (hfew : ((backTo cpos (starEach (e :: es) X.env)).all (fun x => !x.1) && (backToKw cpos (keywordEach [] X.env)).all (fun x => x.1.isSome)
      && decide ((e :: es).length + ([] : List Keyword).length + (if ([] : List Keyword).isEmpty then 0 else 1) < 30)) = true := by rfl)
    (hline : (apos.endLine == cpos.line) = true := by rfl) (hs : starEach (e :: es) X.env = (false, eval e X.env) :: starEach es X.env := by rfl) (hplain : (backTo cpos (starEach es X.env)).any (·.1) = false := by rfl) :
    PE X (.Call (.Attribute o name apos) (e :: es) [] cpos) (tBM X.K T r to t) := by
  intro pins s σ H Q I h
  refine wpAny_Call_method_late hbase hfew hline rfl (thn (ho pins s σ H _ I h) fun v s1 ⟨x, H1, I1, r1, ty, q1⟩ => ?_)
  obtain ⟨h1, h2⟩ := tyV_is I1 r1 ty
  refine ⟨T, id, pa, slot, hty, h1, h2, ?_⟩
  have hA := ha cpos pins s1 σ H1 _ I1 q1
  rw [hs] at hA ⊢
  refine Calls.callWith_builtin (by show (false || (backTo cpos (starEach es X.env)).any (·.1)) = false; rw [hplain] <;> rfl) (Calls.evalArgs_plain ?_)
  exact thn hA fun us s2 ⟨vs, H2, I2, r2, q2⟩ => hm pins s2 σ H2 x vs v us Q I2 r1 r2 q2
/- xs.append(e), list.index on a module's tuple .. are MtR facts of 06m -/
end
end L2
namespace L2
open PySem PySem.Spec PyProof.Rows
def MtM (X : Cx) (id : String) (r : V → List V → Hp → VK → Prop) : Prop :=
  ∀ (pins : List (Addr × Obj)) (s : Shared) (σ : St) (H : Hp) (x : V) (xs : List V) (v : Value) (us : List Value) (Q : VK), Inv X pins σ H s → RelV x v → Vals xs us → r x xs H Q →
    wpAny (model X.prog X.w) X.A (call (.builtin id) (v :: us)) (EP X pins σ Q) X.xe s
theorem Vals.one : ∀ {x : V} {us : List Value}, Vals [x] us → ∃ u, us = [u] ∧ RelV x u
  | _, _, .cons r .nil => ⟨_, rfl, r⟩
theorem Vals.two : ∀ {x y : V} {us : List Value}, Vals [x, y] us → ∃ u v, us = [u, v] ∧ RelV x u ∧ RelV y v
  | _, _, _, .cons r (.cons q .nil) => ⟨_, _, rfl, r, q⟩
theorem Vals.zero : ∀ {us : List Value}, Vals [] us → us = []
  | _, .nil => rfl
theorem Vals.eraseIdx : ∀ {xs : List V} {us : List Value} (i : Nat), Vals xs us → Vals (xs.eraseIdx i) (us.eraseIdx i)
  | _, _, _, .nil => .nil
  | _, _, 0, .cons _ t => t
  | _, _, i + 1, .cons r t => .cons r (Vals.eraseIdx i t)
theorem Vals.reverse {xs : List V} {us : List Value} (h : Vals xs us) : Vals xs.reverse us.reverse := by
  induction h with
  | nil => exact .nil
  | cons r t ih => rw [List.reverse_cons, List.reverse_cons]; exact Vals.append ih (.cons r .nil)
section
variable {X : Cx} {pins : List (Addr × Obj)} {σ : St} {H : Hp} {s : Shared} {l b : Addr} {xs ys zs : List V}
theorem Inv.lset {its its' : List Value} {n : Nat} {f : Array Value → Array Value} {t' : Nat} (I : Inv X pins σ H s) (hH : H l = some (.lst xs))
    (e : s.heap.get? l = some { cls := .type "list", data := .seq its.toArray n }) (hf : f its.toArray = its'.toArray) (hv : Vals ys its') (hz : ys.length ≤ sizeLine) :
    Inv X pins σ (upd H l (.lst ys)) { s with heap := s.heap.update l (Obj.mapSeq f), toks := t' } := by
  have q := PySem.IsL.update e f
  rw [hf] at q
  refine I.write (x := l) (e := l) (by rw [hH]; exact trivial) (.inl rfl) (fun b' u hb hu => (Heap.get?_update_other s.heap (Obj.mapSeq f) (Ne.symm hb)).trans hu) ⟨_, q⟩ ?_
  exact ⟨hz, its', _, hv, q⟩
theorem Inv.fresh (I : Inv X pins σ H s) : H s.heap.objs.size = none := I.hok.fresh (Nat.le_refl _)
theorem Inv.lstM (I : Inv X pins σ H s) (hH : H l = some (.lst xs)) : xs.length ≤ sizeLine ∧ ∃ (its : List Value) (n : Nat), Vals xs its ∧ xs.length = its.length ∧ s.heap.get? l = some { cls := .type "list", data := .seq its.toArray n } := by
  obtain ⟨z, its, n, r, e⟩ := I.hok l _ hH
  exact ⟨z, its, n, r, r.length, e⟩
end
section
variable {X : Cx}
def rAppend : V → List V → Hp → VK → Prop := fun x vs H Q => ∃ l xs y, x = .ref l ∧ vs = [y] ∧ H l = some (.lst xs) ∧ xs.length < sizeLine ∧ Q .non (upd H l (.lst (xs ++ [y])))
theorem mt_append : MtM X "list.append" rAppend := by
  intro pins s σ H x vs v us Q I rx rv h
  obtain ⟨l, xs, y, rfl, rfl, hH, hz, q⟩ := h
  cases rx
  obtain ⟨u, rfl, ru⟩ := rv.one
  obtain ⟨z, its, n, r, hl, e⟩ := I.lstM hH
  refine call_meets F.slot_list_append ⟨_, e, rfl⟩ F.entry_list_append (F.args_list_append_2 _ _) (PySem.list_append l its.toArray n u (by rw [List.size_toArray]; omega)) ⟨e, ?_⟩
  refine ⟨.non, _, I.lset (its' := its ++ [u]) hH e (by simp) (r.append (.cons ru .nil)) ?_, rfl, q⟩
  rw [List.length_append, List.length_singleton]
  omega
end
section
variable {prog : Program} {w : World} {A : Around} {E : Value → Shared → Prop} {s : Shared}
set_option maxRecDepth 100000 in
end
section
variable {X : Cx}
end
end L2
namespace Att
open PySem PySem.W PySem.Calls PyProof.Rows
theorem ints_of_wellAll {P : Params} {h : Heap} : ∀ (ns : List Int) (vs : List Value), WellAll P h vs (ns.map WData.int) → IntsAre vs ns := by
  intro ns
  induction ns with
  | nil =>
    intro vs w
    rw [List.map_nil] at w
    cases w
    exact .nil
  | cons n ns ih =>
    intro vs w
    rw [List.map_cons] at w
    cases w with
    | cons a b =>
      cases a
      exact .cons _ _ (ih _ b)
theorem script_of {l : OpenLaw} {n : Nat} (hn : l.most = some n) {P : Params} {h : Heap} {args : List WData} {vals : List Value}
    (hpre : l.row.toRowW.claim.pre args = true) (hwl : WellAll P h vals args) :
    ∃ a vs ns, vals = [Value.ref a] ∧ args = [WData.list (ns.map WData.int)] ∧ h.get? a = some { cls := .type "list", data := .seq vs.toArray } ∧ IntsAre vs ns ∧ ns.length ≤ n := by
  have hsh : WShape.hasAll [] args [.list .int] = true := (pre_splitW hpre).1
  have hc : l.pre.holds [] { args := args } = true := (pre_splitW hpre).2
  obtain ⟨d, r, rfl, h1, h2⟩ := hasAllW_cons hsh
  obtain rfl := hasAllW_nil h2
  obtain ⟨xs, rfl, h3⟩ := hasW_list h1
  obtain ⟨ns, rfl⟩ := items_int h3
  have hlen : ns.length ≤ n := by
    unfold OpenLaw.pre at hc
    have h4 : (WTm.not (.lt (.lit (.int (n : Int))) (.len (.arg 0)))).holds [] { args := [.list (ns.map .int)] } = true := by
      have h4 := (holds_andW hc).1
      rw [hn] at h4
      exact h4
    have h5 := condW_of h4 (w_not (w_lt w_lit (w_len_list (w_arg rfl))))
    rw [List.length_map] at h5
    refine Nat.le_of_not_lt fun q => ?_
    have q' : (n : Int) < ((ns.length : Nat) : Int) := by omega
    first
      | (rw [decide_eq_true q'] at h5; exact absurd h5 (by decide))
      | (simp at h5; omega)
  cases hwl with
  | cons w1 w2 =>
    cases w2
    cases w1 with
    | list ho hall => exact ⟨_, _, ns, rfl, rfl, ho, ints_of_wellAll ns _ hall, hlen⟩
theorem post_true (l : OpenLaw) (args : List WData) : l.row.toRowW.claim.post args (.bool true) args = true :=
  postW_of (r := l.row.toRowW) (X := (true == true))
    (show WShape.has [] (.bool true) .bool = true by first | rfl | decide | simp [WShape.has, WShape.arms, WShape.armsAll])
    (show (WTm.eq .res (.lit (.bool true))).value [] { args := args, res := some (.bool true), after := args } = some (.bool (true == true)) from w_eq_bool (w_res rfl) w_lit) rfl
theorem attach_call {l : OpenLaw} {n : Nat} {q : Program} {loose : List Str} {XP : (Str → Option Value) → Heap → Prop} {YP : World → Heap → Prop} {d : DefRec}
    (hn : l.most = some n) (hdf : d.params.defaults = [])
    (call : ∀ (w : World) (s₀ s₁ : Shared) (mg mb : Str → Option Value) (fa : Addr) (o : Obj) (pm cd doc : Value) (a : Addr) (vs : List Value) (ns : List Int),
      Ground q loose [] XP w s₀ mg mb s₁.heap → YP w s₁.heap →
      s₁.heap.get? fa = some o → o.data = .func (docDef d.name d.params d.body d.scope pm cd doc) → s₁.heap.CodeRec cd d.name → mg d.name = some (.ref fa) →
      s₁.heap.get? a = some { cls := .type "list", data := .seq vs.toArray } → IntsAre vs ns → ns.length ≤ n → s₁.gens = #[] →
      codeAny (model l.prog w) callerA (.call (.ref fa) ⟨[.ref a], []⟩) (fun r s' => r = .ok (.ret (.bool true)) ∧ OldK s₁.heap s'.heap ∧ s'.os = s₁.os ∧ AllBare s'.gens) s₁) :
    WalkO q loose XP YP l.row.toRowW d [] (fun f vs => PySem.call f vs) := by
  intro w s₀ s₁ mg mb G Y fa o pm cd doc dV kV ho hd hcd hD hmg hg args vals as hpre hlay hrd hwl hlo
  obtain rfl : dV = .none := Dflts.none hD hdf
  obtain rfl : kV = .none := Dflts.noKw hD
  obtain ⟨a, vs, ns, rfl, rfl, hobj, hints, hlen⟩ := script_of hn hpre hwl
  refine enter_call (codeAny_mono (call w s₀ s₁ mg mb fa o pm cd doc a vs ns G Y ho (fd_plain hd) hcd hmg hobj hints hlen hg) fun r s' hq => ?_)
  obtain ⟨rfl, h2, h3, h4⟩ := hq
  exact ⟨.inl ⟨.bool true, .bool true, [], rfl, fun _ => rfl, .bool true, post_true l _, fun _ => ⟨List.Pairwise.nil, fun _ hm => (nomatch hm)⟩⟩, h2, h3, h4⟩
section
variable {prog : Program} {w : World} {A : Around} {E : Value → Shared → Prop} {s : Shared} {K : Frag}
def noObjs (h : Heap) : Heap := { h with objs := #[] }
theorem noObjs_get (h : Heap) (b : Addr) : (noObjs h).get? b = none := by
  cases e : (noObjs h).get? b with
  | none => rfl
  | some o => exact absurd (Heap.lt_size e) (Nat.not_lt_zero _)
theorem fr_all {h : Heap} {L : Addr} {m : Str → Option Value} (n : h.Ns L m) : Fr (noObjs h) L h m :=
  ⟨n, fun b o e => (by rw [noObjs_get] at e; cases e), Nat.zero_le _⟩
end
end Att
namespace L2
open PySem PySem.Spec PyProof.Rows
theorem vals_ints : ∀ {vs : List Value} {ns : List Int}, IntsAre vs ns → Vals (ns.map V.int) vs
  | _, _, .nil => .nil
  | _, _, .cons n t h => .cons ⟨t, rfl⟩ (vals_ints h)
def Only (H : Hp) : Prop := ∀ b, H b = none ∨ ∃ o xs, H b = some (.frz o (.lst xs))
def laidT (ts : List (Addr × Str × Pos)) (H : Hp) : Hp := fun b => match ts.find? (fun t => t.1 == b) with
  | some t => some (.tbl t.2.1 t.2.2)
  | none => H b
theorem laidT_or (ts : List (Addr × Str × Pos)) (H : Hp) (b : Addr) : (laidT ts H b = H b ∧ ∀ t ∈ ts, t.1 ≠ b) ∨ ∃ t ∈ ts, t.1 = b ∧ laidT ts H b = some (.tbl t.2.1 t.2.2) := by
  unfold laidT
  cases e : ts.find? (fun t => t.1 == b) with
  | none => exact .inl ⟨rfl, fun t ht z => by have := List.find?_eq_none.mp e t ht; simp [z] at this⟩
  | some t =>
    have h1 := List.mem_of_find?_eq_some e
    have h2 := List.find?_some e
    exact .inr ⟨t, h1, by simpa using h2, rfl⟩
theorem law_call {P : Program} {w : World} {K : PySem.W.Frag} {mg mb : Str → Option Value} {CX : CXT} {k : Nat} {fa a : Addr} {fd : FuncData} {x : Str} {sp : Sp} {s₁ : Shared} {vs : List Value} {ns : List Int}
    (KX : K.In s₁.heap) (hns : s₁.heap.Ns mainGlobals mg) (hb : s₁.heap.Ns builtinsNs mb) (hbb : ∀ x : Str, x ≠ "__name__" → mb x = bootBuiltins x) (hlim : s₁.heap.NoLimit) (hbm : ∃ bm ob, mg "__builtins__" = some (.ref bm) ∧ bm ≠ builtinsNs ∧ s₁.heap.get? bm = some ob ∧ ob.cls = .type "module" ∧ ob.dict = some builtinsNs ∧ ob.data = .plain) (hg : s₁.gens = #[])
    (ha : s₁.heap.get? a = some { cls := .type "list", data := .seq vs.toArray }) (hi : IntsAre vs ns) (hl : ns.length ≤ sizeLine) (hr : Room k callerA)
    (F : ∀ base : Heap, K.In base → base.Ns mainGlobals mg → FnOk P w K mg base CX k fa fd [x] sp) (hbind : ∀ (s : Shared) (u : Value), BindsTo s fd ⟨[u], []⟩ [(x, u)])
    (ts : List (Addr × Str × Pos)) (hts : ∀ t ∈ ts, s₁.heap.get? t.1 = some { cls := .none, data := .fields #[] }) (hCT : ∀ t ∈ ts, isCodeTable s₁.heap t.1) (hKt : ∀ t ∈ ts, K.lookup t.1 = none) (htu : ∀ t ∈ ts, ∀ t' ∈ ts, t.1 = t'.1 → t = t')
    (hsp : ∀ H : Hp, (∀ t ∈ ts, H t.1 = some (.tbl t.2.1 t.2.2)) → SqL K H a (ns.map V.int) → sp [.ref a] H (fun v _ => v = .bl true) fun _ _ _ => False)
    (hCX : ∀ H e s', CX [] H s₁ (fun _ _ _ => False) e s' → False) :
    codeAny (model P w) callerA (.call (.ref fa) ⟨[.ref a], []⟩) (fun r s' => r = .ok (.ret (.bool true)) ∧ OldK s₁.heap s'.heap ∧ s'.os = s₁.os ∧ AllBare s'.gens) s₁ := by
  have rv := vals_ints hi
  have lenV := hi.length
  have core : ∀ H : Hp, (∀ b, H b = none ∨ (∃ o xs, H b = some (.frz o (.lst xs))) ∨ ∃ t ∈ ts, t.1 = b ∧ H b = some (.tbl t.2.1 t.2.2)) → (∀ t ∈ ts, H t.1 = some (.tbl t.2.1 t.2.2)) → SqL K H a (ns.map V.int) → HOk P w H s₁.heap → (∀ b, H b ≠ none → b = a ∨ ∃ t ∈ ts, t.1 = b) → (H a ≠ none → K.lookup a = none) →
      codeAny (model P w) callerA (.call (.ref fa) ⟨[.ref a], []⟩) (fun r s' => r = .ok (.ret (.bool true)) ∧ OldK s₁.heap s'.heap ∧ s'.os = s₁.os ∧ AllBare s'.gens) s₁ := by
    intro H hO hT hS hok hA hK
    have base_of : ∀ {b : Addr} {o : Obj}, s₁.heap.get? b = some o → H b = none → (hidT s₁.heap H).get? b = some o := fun e n => hidT_get e n
    have noA : ∀ {b : Addr} {o : Obj} {es : Array DictEntry} {ep : Nat}, s₁.heap.get? b = some o → o.data = .dict es ep → H b = none := fun {b o es ep} e d => by
      cases q : H b with
      | none => rfl
      | some u =>
        rcases hA b (by rw [q]; simp) with e' | ⟨t, ht, e'⟩
        case inr =>
          subst e'
          rw [hts t ht] at e; cases e
          have d' : Data.fields #[] = Data.dict es ep := d
          cases d'
        subst e'
        rw [ha] at e; cases e
        have d' : Data.seq vs.toArray _ = Data.dict es ep := d
        cases d'
    have nsK : ∀ {b : Addr} {m : Str → Option Value}, s₁.heap.Ns b m → (hidT s₁.heap H).Ns b m := fun {b m} ⟨o, es, ep, e, d, r⟩ => ⟨o, es, ep, base_of e (noA e d), d, r⟩
    have hKb : K.In (hidT s₁.heap H) := fun b o e => base_of (KX b o e) (by
      cases q : H b with
      | none => rfl
      | some u =>
        rcases hA b (by rw [q]; simp) with e' | ⟨t, ht, e'⟩
        · subst e'
          rw [hK (by rw [q]; simp)] at e; cases e
        · subst e'
          rw [hKt t ht] at e; cases e)
    have hM : Mod K mg (hidT s₁.heap H) := ⟨hKb, nsK hns, ⟨mb, nsK hb, hbb⟩, let ⟨mc, h1, h2⟩ := hlim; ⟨mc, nsK h1, h2⟩, let ⟨bm, ob, g1, g2, g3, g4, g5, g6⟩ := hbm; ⟨bm, ob, g1, g2, base_of g3 (by
      cases q : H bm with
      | none => rfl
      | some u =>
        rcases hA bm (by rw [q]; simp) with e' | ⟨t, ht, e'⟩
        · rw [e', ha] at g3; cases g3
          have z : Value.type "list" = Value.type "module" := g4
          injection z with z
          exact absurd z (by decide)
        · rw [← e', hts t ht] at g3; cases g3
          cases g4), g4, g5, g6⟩⟩
    have e0 : Env0 P w K mg (hidT s₁.heap H) callerA [] s₁ H := ⟨rfl, hM, fun b o e => of_hidT e, Nat.le_of_eq (hidT_size _ _), trivial, fun b hb => absurd (show b ∈ ([] : List Addr) from hb) (by simp), hok, .of_eq hg⟩
    refine codeAny_mono ((F _ hKb (nsK hns)).run callerA [] s₁ H ⟨[.ref a], []⟩ [.ref a] [.ref a] _ _ hr e0 (hbind s₁ (.ref a)) (.cons rfl .nil) (hsp H hT hS)) fun r s' h => ?_
    cases r with
    | error e => exact (hCX H e s' h).elim
    | ok fl =>
      cases fl with
      | next => exact False.elim h
      | brk => exact False.elim h
      | cont => exact False.elim h
      | ret u =>
        obtain ⟨v, H', os, bare, un, hok', r', q⟩ := h
        have q' : v = .bl true := q
        subst q'
        obtain rfl : u = Value.bool true := r'
        refine ⟨rfl, ⟨fun b o e => ?_, fun b o e => un.there b o e (by simp)⟩, os, bare⟩
        cases q : H b with
        | none => exact .inl <| un.keep b o e q (by intro z; exact absurd (show b ∈ ([] : List Addr) from z) (by simp)) (by simp)
        | some u =>
          rcases hO b with z | ⟨ob, xs, z⟩ | ⟨t, ht, rfl, z⟩
          case inr.inr =>
            have z2 := un.tbls _ _ _ z
            obtain ⟨ps, e2, _⟩ := hok' _ _ z2
            rw [hts t ht] at e; cases e
            exact .inr (.inl ⟨hCT t ht, rfl, #[], ps, rfl, by rw [e2]; simp⟩)
          · rw [q] at z; cases z
          · have z2 := un.frzs b ob _ z
            obtain ⟨e1, _⟩ := hok b _ z
            obtain ⟨e2, _⟩ := hok' b _ z2
            rw [e] at e1; cases e1
            exact .inl e2
  have core1 : ∀ H : Hp, Only H → SqL K H a (ns.map V.int) → HOk P w H s₁.heap → (∀ b, H b ≠ none → b = a) → (H a ≠ none → K.lookup a = none) →
      codeAny (model P w) callerA (.call (.ref fa) ⟨[.ref a], []⟩) (fun r s' => r = .ok (.ret (.bool true)) ∧ OldK s₁.heap s'.heap ∧ s'.os = s₁.os ∧ AllBare s'.gens) s₁ := by
    intro H hO hS hok hA hK
    have na : ∀ t ∈ ts, t.1 ≠ a := fun t ht z => by
      have z2 := hts t ht
      rw [z, ha] at z2
      cases z2
    have cs : ∀ b, (laidT ts H b = H b ∧ ∀ t ∈ ts, t.1 ≠ b) ∨ ∃ t ∈ ts, t.1 = b ∧ laidT ts H b = some (.tbl t.2.1 t.2.2) := laidT_or ts H
    have la : laidT ts H a = H a := by
      rcases cs a with z | ⟨t, ht, z, _⟩
      · exact z.1
      · exact absurd z (na t ht)
    have noown : ∀ b x, H b ≠ some (.own x) := fun b x z => by rcases hO b with y | ⟨_, _, y⟩ <;> (rw [y] at z; cases z)
    have notup : ∀ b x, H b ≠ some (.tup x) := fun b x z => by rcases hO b with y | ⟨_, _, y⟩ <;> (rw [y] at z; cases z)
    refine core (laidT ts H) (fun b => ?_) (fun t ht => ?_) ?_ (fun b u z => ?_) (fun b z => ?_) (fun z => hK (by rw [← la]; exact z))
    · rcases cs b with z | ⟨t, ht, z1, z2⟩
      · rcases hO b with y | y
        · exact .inl (z.1.trans y)
        · obtain ⟨o, xs, y⟩ := y
          exact .inr (.inl ⟨o, xs, z.1.trans y⟩)
      · exact .inr (.inr ⟨t, ht, z1, z2⟩)
    · rcases cs t.1 with z | ⟨t', ht', z1, z2⟩
      · exact absurd rfl (z.2 t ht)
      · have := htu t' ht' t ht z1
        subst this
        exact z2
    · rcases hS with (z | ⟨o, z⟩) | z
      · exact .inl (.inl (by rw [la]; exact z))
      · exact .inl (.inr ⟨o, by rw [la]; exact z⟩)
      · exact .inr z
    · rcases cs b with y | ⟨t, ht, z1, z2⟩
      · rw [y.1] at z
        exact (hok b u z).stay (fun _ _ _ q => q) (fun c q => absurd q (noown c b)) fun c xs q => absurd q (notup c xs)
      · rw [z2] at z
        cases z
        subst z1
        exact ⟨#[], hts t ht, .inl rfl⟩
    · rcases cs b with y | ⟨t, ht, z1, z2⟩
      · exact .inl (hA b (by rw [← y.1]; exact z))
      · exact .inr ⟨t, ht, z1⟩
  cases hk : K.lookup a with
  | some o =>
    have e := KX a o hk
    rw [ha] at e
    cases e
    refine core1 (fun _ => none) (fun _ => .inl rfl) (.inr ⟨_, vs.toArray, _, hk, rfl, rfl, rfl, by rw [List.size_toArray, lenV]; exact hl, by simpa using rv⟩) (fun b u z => by have z' : (none : Option HO) = some u := z; cases z') (fun b z => absurd rfl z) fun z => absurd rfl z
  | none =>
    refine core1 (fun b => if b = a then some (.frz { cls := .type "list", data := .seq vs.toArray } (.lst (ns.map V.int))) else none) (fun b => ?_) (.inl (.inr ⟨{ cls := .type "list", data := .seq vs.toArray }, if_pos rfl⟩)) (fun b u z => ?_) (fun b z => ?_) fun _ => hk
    · by_cases hb : b = a
      · exact .inr ⟨_, _, if_pos hb⟩
      · exact .inl (if_neg hb)
    · by_cases hb : b = a
      · have z' := (if_pos hb).symm.trans z
        cases z'
        subst hb
        exact ⟨ha, by rw [List.length_map]; exact hl, vs, _, rv, ha⟩
      · have z' := (if_neg hb).symm.trans z
        cases z'
    · by_cases hb : b = a
      · exact hb
      · exact absurd (if_neg hb) z
end L2
namespace L2
open PySem PySem.Spec PyProof.Rows
abbrev KOf {K : PySem.W.Frag} {h : Heap} (_ : K.In h) : PySem.W.Frag := K
theorem walk_of {l : PySem.W.OpenLaw} {n k : Nat} {q : Program} {loose : List Str} {XP : (Str → Option Value) → Heap → Prop} {YP : World → Heap → Prop} {d : DefRec} {K : Params → PySem.W.Frag} {CX : World → CXT} {sp : World → Sp} {x : Str}
    (hn : l.most = some n) (hn2 : n ≤ sizeLine) (hdf : d.params.defaults = []) (hr : Room k callerA)
    (hY : ∀ (w : World) (h : Heap), YP w h → (K w.params).In h)
    (F : ∀ (w : World) (mg : Str → Option Value) (fa : Addr) (h : Heap), (K w.params).In h → h.Ns mainGlobals mg → mg d.name = some (.ref fa) →
      ∃ fd : FuncData, (∀ (s : Shared) (u : Value), BindsTo s fd ⟨[u], []⟩ [(x, u)]) ∧
        ∀ base : Heap, (K w.params).In base → base.Ns mainGlobals mg → FnOk l.prog w (K w.params) mg base (CX w) k fa fd [x] (sp w))
    (ts : List (Addr × Str × Pos)) (hts : ∀ (w : World) (h : Heap), YP w h → (∀ t ∈ ts, h.get? t.1 = some { cls := .none, data := .fields #[] }) ∧ (∀ t ∈ ts, isCodeTable h t.1) ∧ ∀ t ∈ ts, (K w.params).lookup t.1 = none) (htu : ∀ t ∈ ts, ∀ t' ∈ ts, t.1 = t'.1 → t = t')
    (hsp : ∀ (w : World) (H : Hp) (a : Addr) (ns : List Int), ns.length ≤ n → (∀ t ∈ ts, H t.1 = some (.tbl t.2.1 t.2.2)) → SqL (K w.params) H a (ns.map V.int) → sp w [.ref a] H (fun v _ => v = .bl true) fun _ _ _ => False)
    (hCX : ∀ (w : World) (H : Hp) (s : Shared) (e : Value) (s' : Shared), CX w [] H s (fun _ _ _ => False) e s' → False) :
    PySem.W.WalkO q loose XP YP l.row.toRowW d [] (fun f vs => PySem.call f vs) := by
  refine Att.attach_call hn hdf fun w s₀ s₁ mg mb fa o pm cd doc a vs ns G Y ho hd hcd hmg hobj hints hlen hg => ?_
  have KX := hY w _ Y
  obtain ⟨fd, hb, hF⟩ := F w mg fa _ KX G.T.g hmg
  exact law_call KX G.T.g G.T.b G.T.builtins G.T.nolimit G.T.bmain hg hobj hints (Nat.le_trans hlen hn2) hr hF hb ts (hts w _ Y).1 (hts w _ Y).2.1 (hts w _ Y).2.2 htu (fun H hO hS => hsp w H a ns hlen hO hS) fun H e s' => hCX w H s₁ e s'
theorem walk_ofK {l : PySem.W.OpenLaw} {n k : Nat} {q : Program} {loose : List Str} {XP : (Str → Option Value) → Heap → Prop} {YP : World → Heap → Prop} {d : DefRec} {K : Params → PySem.W.Frag} {CX : CXT} {sp : PySem.W.Frag → Sp} {x : Str}
    (hn : l.most = some n) (hn2 : n ≤ sizeLine) (hdf : d.params.defaults = []) (hr : Room k callerA)
    (hY : ∀ (w : World) (h : Heap), YP w h → (K w.params).In h)
    (F : ∀ (w : World) (mg : Str → Option Value) (fa : Addr) (h : Heap), (K w.params).In h → h.Ns mainGlobals mg → mg d.name = some (.ref fa) →
      ∃ fd : FuncData, (∀ (s : Shared) (u : Value), BindsTo s fd ⟨[u], []⟩ [(x, u)]) ∧
        ∀ base : Heap, (K w.params).In base → base.Ns mainGlobals mg → FnOk l.prog w (K w.params) mg base CX k fa fd [x] (sp (K w.params)))
    (ts : List (Addr × Str × Pos)) (hts : ∀ (w : World) (h : Heap), YP w h → (∀ t ∈ ts, h.get? t.1 = some { cls := .none, data := .fields #[] }) ∧ (∀ t ∈ ts, isCodeTable h t.1) ∧ ∀ t ∈ ts, (K w.params).lookup t.1 = none) (htu : ∀ t ∈ ts, ∀ t' ∈ ts, t.1 = t'.1 → t = t')
    (hsp : ∀ (K : PySem.W.Frag) (H : Hp) (a : Addr) (ns : List Int), ns.length ≤ n → (∀ t ∈ ts, H t.1 = some (.tbl t.2.1 t.2.2)) → SqL K H a (ns.map V.int) → sp K [.ref a] H (fun v _ => v = .bl true) fun _ _ _ => False)
    (hCX : ∀ (H : Hp) (s : Shared) (e : Value) (s' : Shared), CX [] H s (fun _ _ _ => False) e s' → False) :
    PySem.W.WalkO q loose XP YP l.row.toRowW d [] (fun f vs => PySem.call f vs) :=
  walk_of (K := K) (CX := fun _ => CX) (sp := fun w => sp (K w.params)) hn hn2 hdf hr hY F ts hts htu (fun w H a ns h1 h2 h3 => hsp (K w.params) H a ns h1 h2 h3) fun _ H s e s' => hCX H s e s'
end L2
/- THE LAST THEOREM (shape; LID, My.* are yours):
   My.Adr: a structure of the addresses that your layer names (classes, functions); My.Txt K t: a structure (Prop) of the equations over K;
   My.txt_mk : {K} {implicit addresses ..} (e1 : nsIn K mainGlobals "law" = some (some (.ref f))) (e2 : K.lookup f = some ⟨oc, od, .func (fnOf "law" "law" params body scope dV kV doc pm an cdv ct), sl⟩) (e3 : codeIn K cdv "law" = true) .. : ∃ t, My.Txt K t
set_option maxRecDepth 100000 in
set_option maxHeartbeats 0 in
(the tactic k_is has no namespace: write k_is) -/
namespace L2
open PySem PySem.Spec PyProof.Rows
def defArgs (s : Stmt) : Arguments := match s with
  | .FunctionDef _ a _ _ _ _ _ _ _ _ => a
  | _ => { posonlyargs := [], args := [], vararg := none, kwonlyargs := [], kw_defaults := [], kwarg := none, defaults := [] }
def defBody (s : Stmt) : List Stmt := match s with
  | .FunctionDef _ _ b _ _ _ _ _ _ _ => b
  | _ => []
def defScope (s : Stmt) : Scope := match s with
  | .FunctionDef _ _ _ _ _ _ sc _ _ _ => sc
  | _ => { kind := .function, names := [], isGenerator := false, isCoroutine := false }
abbrev CX0 : CXT := fun _ _ _ _ _ _ => False
abbrev E0 : XK := fun _ _ _ => False
theorem pass0 {X : Cx} : Passes CX0 X E0 := fun _ _ _ _ _ _ _ h => h.elim
structure Fun (K : PySem.W.Frag) (x qual : Str) (st : Stmt) (f : Addr) (fd : FuncData) : Prop where
  ex : ∃ (oc : Value) (od : Option Addr) (kV doc pm : Value) (an : Option Addr) (cdv ct : Value) (osl : Array (Option Value)),
    fd = PySem.W.fnOf x qual (defArgs st) (defBody st) (defScope st) .none kV doc pm an cdv ct ∧ K.lookup f = some ⟨oc, od, .func fd, osl⟩ ∧ PySem.W.codeIn K cdv qual = true
  kp : PySem.W.keepIn K (.ref f) = true
section
variable {P : Program} {w : World} {K : PySem.W.Frag} {mg : Str → Option Value} {base : Heap}
theorem Fun.ok {x qual : Str} {st : Stmt} {f : Addr} {fd : FuncData} {N ps : List Str} {k : Nat} {sp : Sp} (F : Fun K x qual st f fd) (S : FnScope N ps (defScope st)) (len : ∀ vs H Q E, sp vs H Q E → vs.length = ps.length)
    (hbody : ∀ (cdv : Value) (A : Around) (outer : List Env) (s : Shared) (H : Hp) (vs : List V) (Q : VK) (E : XK), Room k (A.deeper (envOfC qual (defScope st) s.heap.objs.size f cdv)) → sp vs H Q E →
      ∃ t, PSs (cxOf CX0 P w K mg base N qual (defScope st) f cdv A outer s H E).nox (defBody st) t ∧ t { nx := fun _ H' => Q .non H', rt := Q } (start N vs) H) : FnOk P w K mg base CX0 (k + 1) f fd ps sp := by
  obtain ⟨oc, od, kV, doc, pm, an, cdv, ct, osl, rfl, lk, hcd⟩ := F.ex
  refine fn_of lk hcd S len fun A outer s H vs Q E hr hsp => ?_
  obtain ⟨t, h, q⟩ := hbody cdv A outer s H vs Q E hr hsp
  exact ⟨t, h.nox, q⟩
theorem Fun.binds {x qual : Str} {st : Stmt} {f : Addr} {fd : FuncData} {ps : List Str} (F : Fun K x qual st f fd)
    (h : ∀ (kV doc pm : Value) (an : Option Addr) (cdv ct : Value) (us : List Value), us.length = ps.length → bindArgs (PySem.W.fnOf x qual (defArgs st) (defBody st) (defScope st) .none kV doc pm an cdv ct) ⟨us, []⟩ = pure (ps.zip us)) : Binds K fd ps [] := by
  obtain ⟨oc, od, kV, doc, pm, an, cdv, ct, osl, rfl, lk, hcd⟩ := F.ex
  exact .all (h kV doc pm an cdv ct)
end
theorem small1000 {n : Nat} (h : n ≤ 1000) : n < sizeLine := Nat.lt_of_le_of_lt h (by decide)
section
variable {X : Cx}
end
theorem iteF {A B : Prop} (h : B) : if false = true then A else B := by
  rw [if_neg Bool.false_ne_true]
  exact h
theorem iteT {A B : Prop} (h : A) : if true = true then A else B := by
  rw [if_pos rfl]
  exact h
def Same (H H' : Hp) : Prop := ∀ b o, H b = some o → H' b = some o
theorem Same.refl (H : Hp) : Same H H := fun _ _ h => h
theorem Same.trans {H H1 H2 : Hp} (a : Same H H1) (b : Same H1 H2) : Same H H2 := fun c o h => b c o (a c o h)
theorem Same.free {H H' : Hp} (e : Same H H') {l : Addr} (h : H' l = Option.none) : H l = Option.none := by
  cases q : H l with
  | none => rfl
  | some o =>
    rw [e l o q] at h
    cases h
theorem Same.seq {K : PySem.W.Frag} {H H' : Hp} {a : Addr} {xs : List V} (e : Same H H') (h : SqL K H a xs) : SqL K H' a xs := by
  rcases h with (h | ⟨o, h⟩) | h
  · exact .inl (.inl (e _ _ h))
  · exact .inl (.inr ⟨o, e _ _ h⟩)
  · exact .inr h
end L2
namespace My
open PySem PySem.Spec PyProof.Rows L2
abbrev St := L2.St
theorem same_new {H : Hp} {p : Addr} (h : H p = none) (o : HO) : Same H (upd H p o) := fun b u q => by rw [upd_ne (ne_of_none q h)]; exact q
theorem same_tup {K : PySem.W.Frag} {H H' : Hp} {a : Addr} {xs : List V} (e : Same H H') (h : SqT K H a xs) : SqT K H' a xs := by
  rcases h with (h | ⟨o, h⟩) | h
  · exact .inl (.inl (e _ _ h))
  · exact .inl (.inr ⟨o, e _ _ h⟩)
  · exact .inr h
structure Df (K : PySem.W.Frag) (mg : Str → Option Value) (x : Str) (st : Stmt) (ps : List Str) : Prop where
  ex : ∃ (f : Addr) (fd : FuncData), Fun K x x st f fd ∧ Binds K fd ps [] ∧ mg x = some (.ref f)
structure Has (P : Program) (w : World) (K : PySem.W.Frag) (mg : Str → Option Value) (base : Heap) (n : Nat) (x : Str) (ps : List Str) (sp : Sp) : Prop where
  ex : ∃ (f : Addr) (fd : FuncData), FnOk P w K mg base CX0 n f fd ps sp ∧ Binds K fd ps [] ∧ PySem.W.keepIn K (.ref f) = true ∧ mg x = some (.ref f)
section
variable {P : Program} {w : World} {K : PySem.W.Frag} {mg : Str → Option Value} {base : Heap} {x : Str} {ps N : List Str} {sp : Sp} {st : Stmt} {k n : Nat}
theorem Has.mono (h : Has P w K mg base k x ps sp) (l : k ≤ n) : Has P w K mg base n x ps sp := by
  obtain ⟨f, fd, F, b, kp, m⟩ := h.ex
  exact ⟨f, fd, F.mono l, b, kp, m⟩
theorem Df.has (D : Df K mg x st ps) (S : FnScope N ps (defScope st)) (len : ∀ vs H Q E, sp vs H Q E → vs.length = ps.length)
    (hbody : ∀ (f : Addr) (cdv : Value) (A : Around) (outer : List Env) (s : Shared) (H : Hp) (vs : List V) (Q : VK) (E : XK), Room k (A.deeper (envOfC x (defScope st) s.heap.objs.size f cdv)) → sp vs H Q E →
      ∃ t, PSs (cxOf CX0 P w K mg base N x (defScope st) f cdv A outer s H E).nox (defBody st) t ∧ t { nx := fun _ H' => Q .non H', rt := Q } (start N vs) H) : Has P w K mg base (k + 1) x ps sp := by
  obtain ⟨f, fd, F, b, m⟩ := D.ex
  exact ⟨f, fd, F.ok S len (hbody f), b, F.kp, m⟩
end
section
variable {X : Cx} {x : Str} {ps : List Str} {sp : Sp} {n : Nat} {p pos : Pos} {e : Expr} {es : List Expr} {t : TA}
theorem pe_callH (h : Has X.prog X.w X.K X.mg X.base n x ps sp) (hr : Room n X.A) (ha : PA X (e :: es) t) (hg : Gl X x := by rfl) (hdb : (x == ("__debug__" : Str)) = false := by decide)
    (he : starEach (e :: es) X.env = (false, eval e X.env) :: starEach es X.env := by rfl) (hpl : (backTo pos (starEach es X.env)).any (·.1) = false := by rfl) :
    PE X (.Call (.Name x p) (e :: es) [] pos) (tCall sp [] E0 t) := by
  obtain ⟨f, fd, F, b, kp, m⟩ := h.ex
  exact pe_call F hr hg m kp b .nil pass0 ha hdb he hpl
end
mutual
inductive RdV (K : PySem.W.Frag) (H : Hp) : V → PyData → Prop
  | non : RdV K H .non .none
  | bl (b : Bool) : RdV K H (.bl b) (.bool b)
  | int (i : Int) : RdV K H (.int i) (.int i)
  | str (x : Str) : RdV K H (.str x) (.str x)
  | lst {a : Addr} {xs : List V} {ds : List PyData} : SqL K H a xs → RdVs K H xs ds → RdV K H (.ref a) (.list ds)
  | tup {a : Addr} {xs : List V} {ds : List PyData} : SqT K H a xs → RdVs K H xs ds → RdV K H (.ref a) (.tuple ds)
inductive RdVs (K : PySem.W.Frag) (H : Hp) : List V → List PyData → Prop
  | nil : RdVs K H [] []
  | cons {v : V} {d : PyData} {vs : List V} {ds : List PyData} : RdV K H v d → RdVs K H vs ds → RdVs K H (v :: vs) (d :: ds)
end
section
variable {X : Cx} {pins : List (Addr × Obj)} {σ : St} {H : Hp} {s : Shared}
mutual
theorem RdV.reads (I : Inv X pins σ H s) : ∀ {v : V} {d : PyData}, RdV X.K H v d → ∀ {u : Value}, RelV v u → ∃ as, Reads s.heap u d as
  | _, _, .non, _, r => by cases r; exact ⟨_, .none⟩
  | _, _, .bl b, _, r => by cases r; exact ⟨_, .bool b⟩
  | _, _, .int i, _, r => by obtain ⟨t, rfl⟩ := r; exact ⟨_, .int i t⟩
  | _, _, .str x, _, r => by obtain ⟨t, rfl⟩ := r; exact ⟨_, .str x t⟩
  | _, _, .lst h q, _, r => by
    cases r
    obtain ⟨its, rv, ⟨o, n, e, c, _, d⟩, _⟩ := I.list h
    obtain ⟨as, z⟩ := RdVs.reads I q rv
    exact ⟨_, .list e c d (by simpa using z)⟩
  | _, _, .tup h q, _, r => by
    cases r
    obtain ⟨its, rv, ⟨o, e, c, n, d⟩, _⟩ := I.tuple h
    obtain ⟨as, z⟩ := RdVs.reads I q rv
    exact ⟨_, .tuple e c d (by simpa using z)⟩
theorem RdVs.reads (I : Inv X pins σ H s) : ∀ {vs : List V} {ds : List PyData}, RdVs X.K H vs ds → ∀ {us : List Value}, Vals vs us → ∃ as, ReadsAll s.heap us ds as
  | _, _, .nil, _, r => by cases r; exact ⟨_, .nil⟩
  | _, _, .cons h q, _, r => by
    cases r with
    | cons r1 r2 =>
      obtain ⟨as, z⟩ := RdV.reads I h r1
      obtain ⟨bs, y⟩ := RdVs.reads I q r2
      exact ⟨_, .cons z y⟩
end
end
section
variable {X : Cx}
def rEqD (K : PySem.W.Frag) : R2 := fun x y H Q => ∃ da db, RdV K H x da ∧ RdV K H y db ∧ SeqAt.shaped da = true ∧ SeqAt.shaped db = true ∧ Q (.bl (PyData.eqv da db)) H
def rNeD (K : PySem.W.Frag) : R2 := fun x y H Q => ∃ da db, RdV K H x da ∧ RdV K H y db ∧ SeqAt.shaped da = true ∧ SeqAt.shaped db = true ∧ Q (.bl (!PyData.eqv da db)) H
theorem op_eqD (hu : X.A.units + 64 < cLine) : OpR X (compareOp .Eq) (rEqD X.K) := by
  intro pins s σ H x y v u Q I rx ry h
  obtain ⟨da, db, ha, hb, sa, sb, q⟩ := h
  obtain ⟨as, za⟩ := ha.reads I rx
  obtain ⟨bs, zb⟩ := hb.reads I ry
  exact SeqAt.compareEq_shaped za zb sa sb hu ⟨.bl _, H, I, rfl, q⟩
theorem op_neD (hu : X.A.units + 64 < cLine) : OpR X (compareOp .NotEq) (rNeD X.K) := by
  intro pins s σ H x y v u Q I rx ry h
  obtain ⟨da, db, ha, hb, sa, sb, q⟩ := h
  obtain ⟨as, za⟩ := ha.reads I rx
  obtain ⟨bs, zb⟩ := hb.reads I ry
  exact SeqAt.compareNe_shaped za zb sa sb hu ⟨.bl _, H, I, rfl, q⟩
end
def TyN (H : Hp) (x : V) (T : String) : Prop := match x with
  | .non => T = "NoneType"
  | .bl _ => T = "bool"
  | .int _ => T = "int"
  | .str _ => T = "str"
  | .ref a => (T = "list" ∧ ∃ xs, H a = some (.lst xs)) ∨ (T = "tuple" ∧ ∃ xs, H a = some (.tup xs)) ∨ (T = "dict" ∧ ∃ kvs, H a = some (.dK kvs))
  | _ => False
def isT (c T : String) : Bool := T == c || (T == "bool" && c == "int")
section
variable {K : PySem.W.Frag}
theorem kit_nn (h : c = "int" ∨ c = "bool" ∨ c = "tuple" ∨ c = "list" ∨ c = "str") (g : T = "NoneType" ∨ T = "bool" ∨ T = "int" ∨ T = "str" ∨ T = "list" ∨ T = "tuple" ∨ T = "dict") :
    PySem.W.kitOne K (.type T) (.type c) = some (isT c T) := by
  rcases h with rfl | rfl | rfl | rfl | rfl <;> rcases g with rfl | rfl | rfl | rfl | rfl | rfl | rfl <;> kernel_rfl
theorem TyN.cases {H : Hp} {x : V} {T : String} (h : TyN H x T) : T = "NoneType" ∨ T = "bool" ∨ T = "int" ∨ T = "str" ∨ T = "list" ∨ T = "tuple" ∨ T = "dict" := by
  cases x with
  | non => exact .inl h
  | bl _ => exact .inr (.inl h)
  | int _ => exact .inr (.inr (.inl h))
  | str _ => exact .inr (.inr (.inr (.inl h)))
  | ref a =>
    rcases h with ⟨h, _⟩ | ⟨h, _⟩ | ⟨h, _⟩
    · exact .inr (.inr (.inr (.inr (.inl h))))
    · exact .inr (.inr (.inr (.inr (.inr (.inl h)))))
    · exact .inr (.inr (.inr (.inr (.inr (.inr h)))))
  | byt _ => exact False.elim h
  | flt _ => exact False.elim h
  | ty _ => exact False.elim h
theorem TyN.of {H : Hp} {x : V} {T : String} (h : TyN H x T) : TyOf K H x (.type T) := by
  cases x with
  | non => cases h; exact .non
  | bl b => cases h; exact .bl b
  | int i => cases h; exact .int i
  | str i => cases h; exact .str i
  | ref a =>
    rcases h with ⟨rfl, xs, h⟩ | ⟨rfl, xs, h⟩ | ⟨rfl, xs, h⟩
    · exact .lst h
    · exact .tup h
    · exact .dK h
  | byt _ => exact False.elim h
  | flt _ => exact False.elim h
  | ty _ => exact False.elim h
end
section
variable {X : Cx}
end
theorem big {X : Cx} {pins : List (Addr × Obj)} {σ : St} {H : Hp} {s : Shared} (I : Inv X pins σ H s) : sysModules < s.heap.objs.size := by
  have h : mainGlobals < s.heap.objs.size := (I.mod.glob.keeps I.bk).lt
  exact Nat.lt_trans (by decide) h
theorem dk_empty {P : Program} {w : World} {H : Hp} (h : Heap) (hb : sysModules < h.objs.size) : ObjOk P w H (h.push { cls := .type "dict", data := .dict #[] }) h.objs.size (.dK []) :=
  ⟨Nat.zero_le _, beq_eq_false_iff_ne.mpr (Ne.symm (Nat.ne_of_lt hb)), [], .nil, Heap.DictOf.new h⟩
def tDNewK : TE := fun _ H Q => ∀ p, H p = none → Q (.ref p) (upd H p (.dK []))
theorem pe_dnewK {X : Cx} {pos : Pos} : PE X (.Dict [] [] pos) tDNewK := fun pins s σ H Q I h =>
  wpAny_Dict_empty ⟨.ref s.heap.objs.size, _, I.laid (a := s.heap.objs.size) (o := .dK []) (t' := s.toks) (fun _ _ q => Heap.get?_push_of_some _ q) (Nat.le_refl _) (dk_empty s.heap (big I)), rfl, h _ (I.hok.fresh (Nat.le_refl _))⟩
theorem sz {n : Nat} (h : n ≤ 1000 := by decide) : n ≤ sizeLine := Nat.le_of_lt (small1000 h)
end My
namespace My
open PySem PySem.Spec PyProof.Rows L2
section
variable {X : Cx} {a b c d : Expr} {ta tb tc td : TE} {pos : Pos}
end
structure Blt (mg : Str → Option Value) : Prop where
  len_ : mg "len" = none
  range_ : mg "range" = none
  abs_ : mg "abs" = none
  isinstance_ : mg "isinstance" = none
  int_ : mg "int" = none
  bool_ : mg "bool" = none
  tuple_ : mg "tuple" = none
  max_ : mg "max" = none
  min_ : mg "min" = none
end My
namespace My
open PySem PySem.Spec PyProof.Rows L2
abbrev cx (P : Program) (w : World) (K : PySem.W.Frag) (mg : Str → Option Value) (base : Heap) (N : List Str) (x : Str) (st : Stmt) (f : Addr) (cdv : Value) (A : Around) (outer : List Env) (s : Shared) (H : Hp) (E : XK) : Cx :=
  (cxOf CX0 P w K mg base N x (defScope st) f cdv A outer s H E).nox
end My
namespace My
open PySem PySem.Spec PyProof.Rows L2
def clGo (env : Env) : List (Str × NameKind) → List (Str × Addr) → List (Str × Addr)
  | [], cs => cs
  | (n, k) :: r, cs => if (k == NameKind.free) = true then clGo env r ((n, (env.cells.lookup n).getD 0) :: cs) else clGo env r cs
theorem closure_go {env : Env} : ∀ (l : List (Str × NameKind)) (cs : List (Str × Addr)), (∀ x ∈ l, x.2 = .free → ∃ c, env.cells.lookup x.1 = some c) →
    (forIn l cs fun (x : Str × NameKind) (r : List (Str × Addr)) => (if (x.2 == NameKind.free) = true then (do let c ← cellOf env x.1; pure (ForInStep.yield ((x.1, c) :: r))) else pure (ForInStep.yield r) : Sem (ForInStep (List (Str × Addr))))) = pure (clGo env l cs)
  | [], _, _ => rfl
  | (n, k) :: r, cs, h => by
    rw [List.forIn_cons]
    by_cases hk : (k == NameKind.free) = true
    · obtain ⟨c, hc⟩ := h (n, k) List.mem_cons_self (beq_iff_eq.mp hk)
      have hc' : cellOf env n = pure c := by
        unfold cellOf
        rw [show env.cells.lookup n = some c from hc]
      show (do let x ← (if (k == NameKind.free) = true then (do let c ← cellOf env n; pure (ForInStep.yield ((n, c) :: cs))) else pure (ForInStep.yield cs) : Sem (ForInStep (List (Str × Addr)))); _) = _
      rw [if_pos hk, hc']
      have ih := closure_go r ((n, c) :: cs) fun x hx => h x (List.mem_cons_of_mem _ hx)
      rw [clGo, if_pos hk, show env.cells.lookup n = some c from hc]
      exact ih
    · show (do let x ← (if (k == NameKind.free) = true then (do let c ← cellOf env n; pure (ForInStep.yield ((n, c) :: cs))) else pure (ForInStep.yield cs) : Sem (ForInStep (List (Str × Addr)))); _) = _
      rw [if_neg hk]
      have ih := closure_go r cs fun x hx => h x (List.mem_cons_of_mem _ hx)
      rw [clGo, if_neg hk]
      exact ih
theorem closure_eq {env : Env} {scope : Scope} (h : ∀ x ∈ scope.names, x.2 = .free → ∃ c, env.cells.lookup x.1 = some c) : closureFor scope env = pure (clGo env scope.names []) := by
  have z := closure_go (env := env) scope.names [] h
  show (forIn scope.names [] fun (x : Str × NameKind) (r : List (Str × Addr)) => (if (x.2 == NameKind.free) = true then (do let c ← cellOf env x.1; pure (ForInStep.yield ((x.1, c) :: r))) else pure (ForInStep.yield r) : Sem (ForInStep (List (Str × Addr))))) >>= (fun cs => pure cs) = _
  rw [z]
  rfl
theorem clGo_sub {env : Env} : ∀ (l : List (Str × NameKind)) (cs : List (Str × Addr)), (∀ x ∈ l, x.2 = .free → ∃ c, env.cells.lookup x.1 = some c) → (∀ x c, cs.lookup x = some c → env.cells.lookup x = some c) →
    ∀ x c, (clGo env l cs).lookup x = some c → env.cells.lookup x = some c
  | [], _, _, hc, x, c, e => hc x c e
  | (n, k) :: r, cs, h, hc, x, c, e => by
    rw [clGo] at e
    by_cases hk : (k == NameKind.free) = true
    · rw [if_pos hk] at e
      obtain ⟨d, hd⟩ := h (n, k) List.mem_cons_self (beq_iff_eq.mp hk)
      refine clGo_sub r _ (fun x hx => h x (List.mem_cons_of_mem _ hx)) (fun y c' e' => ?_) x c e
      rw [List.lookup_cons] at e'
      cases hy : y == n with
      | true =>
        rw [hy] at e'
        have : y = n := beq_iff_eq.mp hy
        subst this
        rw [show env.cells.lookup y = some d from hd] at e' ⊢
        exact e'
      | false =>
        rw [hy] at e'
        exact hc y c' e'
    · rw [if_neg hk] at e
      exact clGo_sub r cs (fun x hx => h x (List.mem_cons_of_mem _ hx)) hc x c e
theorem clGo_has {env : Env} : ∀ (l : List (Str × NameKind)) (cs : List (Str × Addr)) (x : Str), ((x, NameKind.free) ∈ l ∨ ∃ c, cs.lookup x = some c) → ∃ c, (clGo env l cs).lookup x = some c
  | [], _, x, h => by
    rcases h with h | h
    · exact absurd h (by simp)
    · exact h
  | (n, k) :: r, cs, x, h => by
    rw [clGo]
    by_cases hk : (k == NameKind.free) = true
    · rw [if_pos hk]
      refine clGo_has r _ x ?_
      by_cases e : x = n
      · subst e
        exact .inr ⟨_, by rw [List.lookup_cons, beq_self_eq_true]⟩
      · rcases h with h | ⟨c, h⟩
        · rcases List.mem_cons.mp h with h | h
          · exact absurd (congrArg Prod.fst h) e
          · exact .inl h
        · exact .inr ⟨c, by rw [List.lookup_cons, beq_eq_false_iff_ne.mpr e]; exact h⟩
    · rw [if_neg hk]
      refine clGo_has r cs x ?_
      rcases h with h | h
      · rcases List.mem_cons.mp h with h | h
        · have : k = .free := (congrArg Prod.snd h).symm
          subst this
          exact absurd rfl hk
        · exact .inl h
      · exact .inr h
abbrev blk (X : Cx) (N' : List Str) (scope : Scope) (cl : List (Str × Addr)) (C : Addr) (s3 : Shared) (H3 : Hp) (fp : List Addr) : Cx :=
  { X with N := N', s₀ := s3, H₀ := H3, env := compEnvC scope cl C X.env, outer := X.stack, ex := fp, fn := fun _ => false, xe := fun _ _ => False }
def capB (N : List Str) (kinds sn : List (Str × NameKind)) : List Str → List Nat → Bool
  | [], [] => true
  | x :: V, j :: ix => (N[j]? == some x) && ((kinds.lookup x == some NameKind.cell) && ((sn.lookup x == some NameKind.free) && capB N kinds sn V ix))
  | _, _ => false
def capσ (t : Nat) (ix : List Nat) (σ : St) : St := List.replicate t none ++ ix.map fun j => (σ[j]?).getD none
theorem capB_get {N : List Str} {kinds sn : List (Str × NameKind)} : ∀ {V : List Str} {ix : List Nat}, capB N kinds sn V ix = true → ix.length = V.length ∧ ∀ (k : Nat) (x : Str), V[k]? = some x → ∃ j, ix[k]? = some j ∧ N[j]? = some x ∧ kinds.lookup x = some .cell ∧ sn.lookup x = some .free
  | [], [], _ => ⟨rfl, fun k x h => by simp at h⟩
  | x :: V, j :: ix, h => by
    rw [capB, Bool.and_eq_true, Bool.and_eq_true, Bool.and_eq_true] at h
    obtain ⟨h1, h2, h3, h4⟩ := h
    obtain ⟨l, r⟩ := capB_get h4
    refine ⟨by simp [l], fun k y hy => ?_⟩
    cases k with
    | zero =>
      simp at hy
      subst hy
      exact ⟨j, rfl, beq_iff_eq.mp h1, beq_iff_eq.mp h2, beq_iff_eq.mp h3⟩
    | succ k => exact r k y (by simpa using hy)
  | [], _ :: _, h => by simp [capB] at h
  | _ :: _, [], h => by simp [capB] at h
theorem relabel_cell {env : Env} (hf : env.scope.kind = .function) : ∀ {names : List (Str × NameKind)} {x : Str}, names.lookup x = some .free → env.kindOf x = some .cell →
    (names.map fun (n, k) => if (k == NameKind.free && env.scope.kind == .function && env.kindOf n == some .cell) then (n, NameKind.cell) else (n, k)).lookup x = some .cell
  | [], _, h, _ => by simp at h
  | (n, k) :: r, x, h, hc => by
    have ih := @relabel_cell env hf r x
    show List.lookup x ((if (k == NameKind.free && env.scope.kind == .function && env.kindOf n == some .cell) = true then (n, NameKind.cell) else (n, k)) :: _) = _
    cases hx : x == n with
    | true =>
      have e : x = n := beq_iff_eq.mp hx
      subst e
      simp only [List.lookup_cons, hx] at h
      cases h
      rw [if_pos (by rw [hf, hc]; rfl)]
      simp [List.lookup_cons]
    | false =>
      simp only [List.lookup_cons, hx] at h
      by_cases hq : (k == NameKind.free && env.scope.kind == .function && env.kindOf n == some .cell) = true
      · rw [if_pos hq]; simp only [List.lookup_cons, hx]; exact ih h hc
      · rw [if_neg hq]; simp only [List.lookup_cons, hx]; exact ih h hc
theorem relabel_back {env : Env} : ∀ {names : List (Str × NameKind)} {x : Str} {k : NameKind}, (∀ y ∈ names, y.2 ≠ .cell) → (k = .cell ∨ k = .free) →
    (names.map fun (n, k) => if (k == NameKind.free && env.scope.kind == .function && env.kindOf n == some .cell) then (n, NameKind.cell) else (n, k)).lookup x = some k → (x, NameKind.free) ∈ names
  | [], _, _, _, _, h => by simp at h
  | (n, k') :: r, x, k, hc, hk, h => by
    have ih := @relabel_back env r x k (fun y hy => hc y (List.mem_cons_of_mem _ hy)) hk
    have h' : List.lookup x ((if (k' == NameKind.free && env.scope.kind == .function && env.kindOf n == some .cell) = true then (n, NameKind.cell) else (n, k')) :: (r.map fun (n, k) => if (k == NameKind.free && env.scope.kind == .function && env.kindOf n == some .cell) then (n, NameKind.cell) else (n, k))) = some k := h
    by_cases hq : (k' == NameKind.free && env.scope.kind == .function && env.kindOf n == some .cell) = true
    · rw [if_pos hq] at h'
      have kf : k' = .free := by
        rw [Bool.and_eq_true, Bool.and_eq_true] at hq
        exact beq_iff_eq.mp hq.1.1
      cases hx : x == n with
      | true =>
        have e : x = n := beq_iff_eq.mp hx
        subst e
        subst kf
        exact List.mem_cons_self
      | false =>
        simp only [List.lookup_cons, hx] at h'
        exact List.mem_cons_of_mem _ (ih h')
    · rw [if_neg hq] at h'
      cases hx : x == n with
      | true =>
        have e : x = n := beq_iff_eq.mp hx
        subst e
        simp only [List.lookup_cons, hx] at h'
        cases h'
        rcases hk with hk | hk
        · exact absurd hk (hc _ List.mem_cons_self)
        · subst hk
          exact List.mem_cons_self
      | false =>
        simp only [List.lookup_cons, hx] at h'
        exact List.mem_cons_of_mem _ (ih h')
section
variable {X : Cx} {pins : List (Addr × Obj)} {σ : St} {H : Hp} {s : Shared}
theorem Inv.forget {σ' : St} (I : Inv X pins σ H s) (hl : σ'.length = X.N.length) (h : ∀ (i : Nat) (v : V), σ'[i]? = some (some v) → σ[i]? = some (some v)) : Inv X pins σ' H s := by
  obtain ⟨m, hn, hx⟩ := I.loc
  exact ⟨I.ok, I.os, I.bare, I.base, ⟨m, hn, fun i x v e1 e2 e3 => hx i x v e1 (h i v e2) e3⟩, I.cell, I.free, I.freeC, I.pin, I.hok, hl⟩
end
end My
namespace My
open PySem PySem.Spec PyProof.Rows L2
theorem compLoop_go {prog : Program} {w : World} {A : Around} {R : Result → Shared → Prop} {elt target iter : Expr} {ifs : List Expr} {scope : Scope} {pos : Pos} {it acc : Value} {env : Env} {s : Shared} (I : Nat → Shared → Prop)
    (turn : ∀ n s, I n s → wpAny (model prog w) A (pyNext it) (fun r s₁ => match r with
      | none => R (.ok .next) s₁
      | some v => wpAny (model prog w) A (letOwnedTupleGo target it v) (fun _ s₁' => wpAny (model prog w) A (assign target env v) (fun _ s₂ =>
          wpAny (model prog w) A (forIn ifs true fun c r => if r = true then do let ok ← isTrue c env (eval c env); pure (ForInStep.yield ok) else pure (ForInStep.yield r)) (fun ok s₃ =>
            if ok = true then wpAny (model prog w) A (eval elt env) (fun x s₄ =>
              wpAny (model prog w) A (call (.builtin "list.append") [acc, x]) (fun _ s₅ => ∃ m, m < n ∧ I m s₅) (fun _ _ => False) s₄) (fun _ _ => False) s₃
            else ∃ m, m < n ∧ I m s₃) (fun _ _ => False) s₂) (fun _ _ => False) s₁') (fun _ _ => False) s₁) (fun _ _ => False) s)
    (n : Nat) (h : I n s) :
    codeAny (model prog w) A (.compLoop (.ListComp elt [⟨target, iter, ifs, 0⟩] scope pos) 0 it acc env) R s := by
  refine codeAny_loop rfl I (fun n s hI => ?_) n h
  show wpAny _ A ((compTurn (.ListComp elt [⟨target, iter, ifs, 0⟩] scope pos) 0 it acc env).onRaise (fun x => do noteFrame x env; theTreesLotGoes x)) _ _ s
  refine wpAny_noted ?_
  rw [compTurn_list]
  refine wpAny_bind (wpAny_standAt (wpAny_bind (wpAny_mono (turn n s hI) (fun r s₁ h₁ => ?_) fun _ _ h' => h'.elim)))
  cases r with
  | none => exact wpAny_pure h₁
  | some v =>
    refine wpAny_bind (wpAny_mono h₁ (fun _ s₁' h₁' => ?_) fun _ _ h' => h'.elim)
    refine wpAny_bind (wpAny_mono h₁' (fun _ s₂ h₂ => wpAny_bind (wpAny_mono h₂ (fun ok s₃ h₃ => ?_) fun _ _ h' => h'.elim)) fun _ _ h' => h'.elim)
    cases ok with
    | false => exact wpAny_pure ⟨rfl, h₃⟩
    | true =>
      exact wpAny_bind (wpAny_bind (wpAny_mono h₃ (fun x s₄ h₄ => wpAny_bind (wpAny_mono h₄ (fun _ s₅ h₅ => wpAny_pure (wpAny_pure ⟨rfl, h₅⟩)) fun _ _ h' => h'.elim)) fun _ _ h' => h'.elim))
section
variable {X : Cx} {pins : List (Addr × Obj)} {σ : St} {H : Hp}
theorem inv_block {T V : List Str} {ix : List Nat} {scope : Scope} {s3 : Shared} {fp : List Addr} {h₁ : Heap} {tk : Nat} {m : Str → Option Value}
    (I : Inv X pins σ H s3) (hf : ∀ b ∈ fp, FpOk X pins H b) (ho : ∀ b ∈ fp, ∃ o, s3.heap.get? b = some o)
    (hk : scope.kind = .function) (hcell : ∀ y ∈ scope.names, y.2 ≠ .cell) (hfr : ∀ x ∈ scope.names, x.2 = .free → x.1 ∈ V) (hB : capB X.N X.env.scope.names scope.names V ix = true)
    (hns : h₁.Ns s3.heap.objs.size m) (keep : ∀ b o, s3.heap.get? b = some o → h₁.get? b = some o) :
    Inv (blk X (T ++ V) scope (clGo X.env scope.names []) s3.heap.objs.size s3 H fp) pins (capσ T.length ix σ) H { s3 with heap := h₁, toks := tk } := by
  obtain ⟨lV, capV⟩ := capB_get hB
  have hcl : ∀ x ∈ scope.names, x.2 = .free → ∃ c, X.env.cells.lookup x.1 = some c := fun x hx e => by
    obtain ⟨k, ek⟩ := List.getElem?_of_mem (hfr x hx e)
    obtain ⟨j, _, _, hc, _⟩ := capV k _ ek
    exact I.ok.has _ (.inl hc)
  have sub := clGo_sub (env := X.env) scope.names [] hcl (fun x c e => by simp at e)
  have stkSub : ∀ b, b ∈ frs X.stack → b = X.env.locals ∨ b ∈ X.fs := fun b z => List.mem_cons.mp (I.stkSub b z)
  have lt : ∀ b o, s3.heap.get? b = some o → b ≠ s3.heap.objs.size := fun b o e => Nat.ne_of_lt (Heap.lt_size e)
  have cellK : ∀ c v, s3.heap.IsCell c v → h₁.IsCell c v := fun c v ⟨o, e, d⟩ => ⟨o, keep c o e, d⟩
  refine ⟨⟨I.ok.mod, hk, I.ok.glob, I.ok.blt, Nat.le_refl _, fun x y c e1 e2 => I.ok.inj x y c (sub x c e1) (sub y c e2), fun x hx => ?_, fun x c hx => ?_, I.ok.hd, I.ok.frames, .inl rfl, fun b hb => ⟨?_, fun x c e => ?_⟩, I.bs, Nat.le_trans I.ok.bsz I.sz, fun b o e hb => ?_, fun b hb z => ?_, I.stack, I.stkFree⟩,
    rfl, I.bare, Un.kept keep, ⟨m, hns, fun i x v e1 e2 e3 => ?_⟩, fun x c e => ?_, I.hok.fresh (Nat.le_refl _), fun x c e => I.freeC x c (sub x c e), fun p hp => ?_, I.hok.kept keep, ?_⟩
  · rcases hx with hx | hx
    · exact clGo_has _ _ x (.inl (relabel_back hcell (.inl rfl) hx))
    · exact clGo_has _ _ x (.inl (relabel_back hcell (.inr rfl) hx))
  · exact absurd hx (by simp)
  · obtain ⟨o, e⟩ := ho b hb
    exact lt b o e
  · exact (hf b hb).2.2.2.2.1 x c (sub x c e)
  · rcases (hf b hb).2.2.2.1 with z | z
    · exact I.ok.noex b o e z
    · exact absurd (Nat.lt_of_lt_of_le (Heap.lt_size e) (Nat.le_trans I.ok.bsz z)) (Nat.lt_irrefl _)
  · rcases stkSub b z with z | z
    · exact (hf b hb).2.1 z
    · exact (hf b hb).2.2.1 z
  · by_cases hi : i < T.length
    · have e2' : (List.replicate T.length none ++ ix.map fun j => (σ[j]?).getD none)[i]? = some (some v) := e2
      rw [List.getElem?_append_left (by rw [List.length_replicate]; exact hi), List.getElem?_replicate, if_pos hi] at e2'
      exact absurd e2' (by simp)
    · have e1' : (T ++ V)[i]? = some x := e1
      rw [List.getElem?_append_right (by omega)] at e1'
      obtain ⟨j, hj, hN, hc, hfree⟩ := capV _ x e1'
      have e2' : (List.replicate T.length none ++ ix.map fun j => (σ[j]?).getD none)[i]? = some (some v) := e2
      rw [List.getElem?_append_right (by rw [List.length_replicate]; omega), List.length_replicate, List.getElem?_map, hj] at e2'
      have e2'' : (σ[j]?).getD none = some v := by simpa using e2'
      have e3' : σ[j]? = some (some v) := by
        cases q : σ[j]? with
        | none => rw [q] at e2''; exact absurd e2'' (by simp)
        | some o => rw [q] at e2''; simp at e2''; rw [e2'']
      obtain ⟨m0, hn0, hl⟩ := I.loc
      obtain ⟨u, r, l⟩ := hl j x v hN e3' (.inr (.inl hc))
      rcases l with ⟨z, _⟩ | ⟨_, c, ec, hcell'⟩
      · have z' : X.env.scope.names.lookup x = some .local := z
        rw [hc] at z'
        exact absurd z' (by simp)
      · obtain ⟨c', ec'⟩ := clGo_has (env := X.env) scope.names [] x (.inl (PySem.mem_of_lookup hfree))
        have : c' = c := by
          have q := sub x c' ec'
          rw [ec] at q
          exact (Option.some.inj q).symm
        subst this
        exact ⟨u, r, .inr ⟨.inl (relabel_cell I.ok.kind hfree hc), c', ec', cellK _ _ hcell'⟩⟩
  · obtain ⟨v, z⟩ := I.cell x c (sub x c e)
    exact ⟨v, cellK c v z⟩
  · obtain ⟨e, n, ne, nf, d⟩ := I.pin p hp
    refine ⟨keep _ _ e, n, lt _ _ e, fun z => ?_, d⟩
    rcases stkSub p.1 z with z | z
    · exact ne z
    · exact nf z
  · show (List.replicate T.length none ++ ix.map fun j => (σ[j]?).getD none).length = (T ++ V).length
    rw [List.length_append, List.length_replicate, List.length_map, List.length_append, lV]
theorem inv_back {N' : List Str} {scope : Scope} {cl : List (Str × Addr)} {pins' : List (Addr × Obj)} {σ' : St} {H3 H' : Hp} {s3 s' : Shared} {fp : List Addr} (I3 : Inv X pins σ H3 s3) (hf : ∀ b ∈ fp, FpOk X pins H3 b)
    (I' : Inv (blk X N' scope cl s3.heap.objs.size s3 H3 fp) pins' σ' H' s') : Inv X pins σ H' s' ∧ FpOk X pins H' s3.heap.objs.size := by
  have fr : H' s3.heap.objs.size = none := I'.free
  refine ⟨?_, I3.fpOk (Nat.le_refl _) fr⟩
  have os : s'.os = s3.os := I'.os
  have u : Un (frs X.stack) fp H3 H' s3.heap s'.heap := I'.base
  have ho := I'.hok
  have hb := I'.bare
  obtain ⟨hh, g, d, t, os'⟩ := s'
  obtain rfl : os' = s3.os := os
  exact I3.call (h' := hh) (g' := g) (d' := d) (t' := t) (ch := fp) u ho hb fun b hb' => ⟨(hf b hb').2.2.2.1, (hf b hb').2.1, (hf b hb').2.2.2.2.1, (hf b hb').2.2.2.2.2⟩
end
def PTs (X : Cx) (ifs : List Expr) (t : TT) : Prop :=
  ∀ (pins : List (Addr × Obj)) (s : Shared) (σ : St) (H : Hp) (Q : Bool → Hp → Prop), Inv X pins σ H s → t σ H Q →
    wpAny (model X.prog X.w) X.A (forIn ifs true fun c r => if r = true then do let ok ← isTrue c X.env (eval c X.env); pure (ForInStep.yield ok) else pure (ForInStep.yield r)) (TP X pins σ Q) X.xe s
def tYes : TT := fun _ H Q => Q true H
theorem pts_nil {X : Cx} : PTs X [] tYes := fun _ _ _ H _ I h => wpAny_tests_nil ⟨H, I, h⟩
def tComp (wi : TI) (g : TG) (tt : TT) (te : TE) (t : Nat) (cap : St → St) : TE := fun σ H Q => wi σ H fun J H1 => ∀ D, H1 D = none → ∃ W : Nat → Nat → List V → Hp → Prop, (∃ m, W 0 m [] (upd H1 D (.lst []))) ∧
  ∀ i m xs H2, W i m xs H2 → H2 D = some (.lst xs) ∧ ((J.stop i H2 ∧ Q (.ref D) H2) ∨ (J.go i H2 ∧ xs.length < sizeLine ∧ ∀ x H3, J.yld i H2 x H3 → g x (cap σ) H3 fun σ4 H4 => σ4.drop t = (cap σ).drop t ∧
    tt σ4 H4 fun b H5 => if b = true then te σ4 H5 fun v H6 => H6 D = some (.lst xs) ∧ ∃ m', m' < m ∧ W (i + 1) m' (xs ++ [v]) (upd H6 D (.lst (xs ++ [v]))) else ∃ m', m' < m ∧ W (i + 1) m' xs H5))
section
variable {X : Cx} {elt tg iter : Expr} {ifs : List Expr} {scope : Scope} {pos : Pos} {T V : List Str} {ix : List Nat} {wi : TI} {g : TG} {tt : TT} {te : TE}
theorem comp_core (hc : X.calm = true) (hi : PI X tg iter wi)
    (hg : ∀ cl C s3 H3 fp, PG (blk X (T ++ V) scope cl C s3 H3 fp) tg g) (ht : ∀ cl C s3 H3 fp, PTs (blk X (T ++ V) scope cl C s3 H3 fp) ifs tt) (he : ∀ cl C s3 H3 fp, PE (blk X (T ++ V) scope cl C s3 H3 fp) elt te)
    (hB : capB X.N X.env.scope.names scope.names V ix = true) (hk : scope.kind = .function) (hcell : ∀ y ∈ scope.names, y.2 ≠ .cell) (hnames : ∀ x ∈ scope.names, x.2 = .local → scope.names.lookup x.1 = some .local)
    (hfr : ∀ x ∈ scope.names, x.2 = .free → x.1 ∈ V) (hs : ∀ x, foldedSetIterable iter X.env x = pure x) {p : Pos}
    {pins : List (Addr × Obj)} {s : Shared} {σ : St} {H : Hp} (I : Inv X pins σ H s) {use : Option (Value → Sem Unit)} {Qp : Value → Shared → Prop} {Qv : VK} (h : tComp wi g tt te T.length (capσ T.length ix) σ H Qv)
    (fin : ∀ (D C : Addr) (H' : Hp) (s' : Shared) (m : Str → Option Value), Inv X pins σ H' s' → FpOk X pins H' C → s'.heap.Ns C m → Qv (.ref D) H' → compPost (model X.prog X.w) X.A X.xe use Qp (.ref D) C (.ok .next) s') :
    wpAny (model X.prog X.w) X.A (comprehension (.ListComp elt [⟨tg, iter, ifs, 0⟩] scope pos) scope X.env p (newList []) false (eval iter X.env) use) Qp X.xe s := by
  obtain ⟨lV, capV⟩ := capB_get hB
  have hcl : ∀ x ∈ scope.names, x.2 = .free → ∃ c, X.env.cells.lookup x.1 = some c := fun x hx e => by
    obtain ⟨k, ek⟩ := List.getElem?_of_mem (hfr x hx e)
    obtain ⟨j, _, _, hc', _⟩ := capV k _ ek
    exact I.ok.has _ (.inl hc')
  refine wpAny_comprehension_free rfl hs (closure_eq hcl) hk hnames ?_
  refine thn (hi pins s σ H _ I h) fun v s1 h1 => thn h1 fun itv s2 h2 => ?_
  obtain ⟨it, fp, tn, J, H2, e, I2, Tn, st2, f2, R⟩ := h2
  subst e
  refine wpAny_newObj_type (hd := by size_fits) ?_
  have hD : H2 s2.heap.objs.size = none := I2.hok.fresh (Nat.le_refl _)
  have I3 : Inv X pins σ (upd H2 s2.heap.objs.size (.lst [])) { s2 with heap := s2.heap.push { cls := .type "list", dict := none, data := .seq ([] : List Value).toArray } } :=
    I2.laid (t' := s2.toks) (fun b o e => Heap.get?_push_of_some _ e) (Nat.le_refl _) ⟨Nat.zero_le _, [], 0, .nil, Heap.get?_push_size _ rfl⟩
  obtain ⟨W, ⟨m0, w0⟩, turn⟩ := R s2.heap.objs.size hD
  generalize hs3 : ({ s2 with heap := s2.heap.push { cls := .type "list", dict := none, data := .seq ([] : List Value).toArray } } : Shared) = s3 at I3 ⊢
  have st3 : tn 0 s3.heap := by
    rw [← hs3]
    exact Tn.keep 0 s2.heap _ st2 fun b hb o e => Heap.get?_push_of_some _ e
  have f3 : ∀ b ∈ fp, FpOk X pins (upd H2 s2.heap.objs.size (.lst [])) b := fun b hb => by
    obtain ⟨z0, z1⟩ := f2 b hb
    refine ⟨?_, z1⟩
    obtain ⟨o, eo, _⟩ := Tn.obj 0 _ st2 b hb
    rw [upd_ne (Nat.ne_of_lt (Heap.lt_size eo))]
    exact z0
  generalize hH3 : upd H2 s2.heap.objs.size (.lst []) = H3 at I3 f3 w0
  generalize hDn : s2.heap.objs.size = D at turn
  refine wpAny_newFunctionEnv hcell (by intro y hy; simp at hy) (fun h₁ hns₁ hsb₁ => ?_) hk
  have keep : ∀ b o, s3.heap.get? b = some o → h₁.get? b = some o := fun b o e => hsb₁.extBut b o (Nat.ne_of_lt (Heap.lt_size e)) (Heap.get?_push_of_some _ e)
  have I4 := inv_block (T := T) (tk := s3.toks + ([] : List (Str × Value)).length) I3 f3 (fun b hb => let ⟨o, eo, _⟩ := Tn.obj 0 _ st3 b hb; ⟨o, eo⟩) hk hcell hfr hB hns₁ keep
  have st4 : tn 0 h₁ := Tn.keep 0 _ _ st3 fun b hb o e => keep b o e
  have loop : codeAny (model X.prog X.w) X.A (.compLoop (.ListComp elt [⟨tg, iter, ifs, 0⟩] scope pos) 0 (.ref it) (.ref D) (compEnvC scope (clGo X.env scope.names []) s3.heap.objs.size X.env))
      (compPost (model X.prog X.w) X.A X.xe use Qp (.ref D) s3.heap.objs.size) { s3 with heap := h₁, toks := s3.toks + ([] : List (Str × Value)).length } := by
    refine compLoop_go (fun n s' => ∃ i xs H', Inv (blk X (T ++ V) scope (clGo X.env scope.names []) s3.heap.objs.size s3 H3 fp) pins (capσ T.length ix σ) H' s' ∧ tn i s'.heap ∧ (∀ b ∈ fp, H' b = none) ∧ W i n xs H') ?_ m0
      ⟨0, [], H3, I4, st4, fun b hb => (f3 b hb).1, w0⟩
    rintro n s5 ⟨i, xs, H5, I5, st5, fr5, w5⟩
    have stat : ∀ {H' : Hp} {pins' : List (Addr × Obj)} {σ' : St} {s' : Shared}, Inv (blk X (T ++ V) scope (clGo X.env scope.names []) s3.heap.objs.size s3 H3 fp) pins σ' H' s' → (∀ b ∈ fp, H' b = none) → ∀ b ∈ fp, FpOk (blk X (T ++ V) scope (clGo X.env scope.names []) s3.heap.objs.size s3 H3 fp) pins H' b := fun I' hn b hb => by
      obtain ⟨x1, x2⟩ := I'.ok.exf b hb
      refine ⟨hn b hb, x1, I'.ok.exfs b hb, .inl hb, x2, fun q hq => ?_⟩
      exact (f3 b hb).2.2.2.2.2 q hq
    obtain ⟨hD5, r5⟩ := turn i n xs H5 w5
    rcases r5 with ⟨stop, q⟩ | ⟨go, hz, step⟩
    · refine thn (Tn.done (blk X (T ++ V) scope (clGo X.env scope.names []) s3.heap.objs.size s3 H3 fp) rfl rfl rfl hc i pins s5 _ H5 _ I5 (stat (pins' := pins) I5 fr5) st5 stop) fun r s6 ⟨hr, I6⟩ => ?_
      subst hr
      obtain ⟨Ib, fC⟩ := inv_back I3 f3 I6
      obtain ⟨m, hn, _⟩ := I6.loc
      exact fin D _ H5 s6 m Ib fC hn q
    · refine thn (Tn.item (blk X (T ++ V) scope (clGo X.env scope.names []) s3.heap.objs.size s3 H3 fp) rfl rfl rfl hc i pins s5 _ H5 _ I5 (stat (pins' := pins) I5 fr5) st5 go) fun r s6 ⟨u, hr, h6⟩ => ?_
      subst hr
      refine thn h6 fun _ s7 ⟨x, H7, I7, rx, y7, st7, fr7⟩ => ?_
      have I7' := I7.pinned (stat (pins' := pins) I7 fr7) (Tn.obj _ _ st7)
      refine thn (hg _ _ _ _ _ _ s7 _ H7 x u _ I7' rx (step x H7 y7)) fun _ s8 ⟨σ8, H8, I8, k8, q8⟩ => ?_
      have again : ∀ {H9 : Hp} {s9 : Shared}, Inv (blk X (T ++ V) scope (clGo X.env scope.names []) s3.heap.objs.size s3 H3 fp) (pins ++ pinsAt fp s7.heap) σ8 H9 s9 →
          Inv (blk X (T ++ V) scope (clGo X.env scope.names []) s3.heap.objs.size s3 H3 fp) pins (capσ T.length ix σ) H9 s9 ∧ tn (i + 1) s9.heap ∧ ∀ b ∈ fp, H9 b = none := fun {H9 s9} I9 => by
        refine ⟨Inv.forget I9.unpinned I4.len fun j v e => ?_, Tn.keep _ _ _ st7 fun b hb o e => (I9.pin (b, o) (List.mem_append_right _ (List.mem_append_right _ (mem_pinsAt hb e)))).1, fun b hb => ?_⟩
        · by_cases hj : j < T.length
          · have e' : (List.replicate T.length none ++ ix.map fun j => (σ[j]?).getD none)[j]? = some (some v) := e
            rw [List.getElem?_append_left (by rw [List.length_replicate]; exact hj), List.getElem?_replicate, if_pos hj] at e'
            exact absurd e' (by simp)
          · have ej : j = T.length + (j - T.length) := by omega
            rw [ej, ← List.getElem?_drop] at e ⊢
            rw [k8]
            exact e
        · obtain ⟨o, e, d⟩ := Tn.obj _ _ st7 b hb
          exact (I9.pin (b, o) (List.mem_append_right _ (List.mem_append_right _ (mem_pinsAt hb e)))).2.1
      refine thn (ht _ _ _ _ _ _ s8 σ8 H8 _ I8 q8) fun ok s9 ⟨H9, I9, q9⟩ => ?_
      cases ok with
      | false =>
        obtain ⟨m', lm, w9⟩ := q9
        obtain ⟨a1, a2, a3⟩ := again I9
        exact ⟨m', lm, i + 1, xs, H9, a1, a2, a3, w9⟩
      | true =>
        refine thn (he _ _ _ _ _ _ s9 σ8 H9 _ I9 q9) fun y s10 ⟨v, H10, I10, ry, hD10, m', lm, w10⟩ => ?_
        refine thn (mt_append _ s10 σ8 H10 (.ref D) [v] (.ref D) [y] (fun _ Hn => Hn = upd H10 D (.lst (xs ++ [v]))) I10 rfl (.cons ry .nil) ⟨D, xs, v, rfl, rfl, hD10, hz, rfl⟩) fun _ s11 ⟨_, H11, I11, _, e11⟩ => ?_
        subst e11
        obtain ⟨a1, a2, a3⟩ := again I11
        exact ⟨m', lm, i + 1, _, _, a1, a2, a3, w10⟩
  exact codeAny_compStart_list loop (Tn.self _ 0 _ _ _ st4 loop)
theorem pe_comp (hc : X.calm = true) (T V : List Str) (ix : List Nat) (hi : PI X tg iter wi)
    (hg : ∀ cl C s3 H3 fp, PG (blk X (T ++ V) scope cl C s3 H3 fp) tg g) (ht : ∀ cl C s3 H3 fp, PTs (blk X (T ++ V) scope cl C s3 H3 fp) ifs tt) (he : ∀ cl C s3 H3 fp, PE (blk X (T ++ V) scope cl C s3 H3 fp) elt te)
    (hB : capB X.N X.env.scope.names scope.names V ix = true := by rfl) (hk : scope.kind = .function := by rfl) (hcell : ∀ y ∈ scope.names, y.2 ≠ .cell := by decide +kernel)
    (hnames : ∀ x ∈ scope.names, x.2 = .local → scope.names.lookup x.1 = some .local := by decide +kernel)
    (hfr : ∀ x ∈ scope.names, x.2 = .free → x.1 ∈ V := by decide +kernel) (hs : ∀ x, foldedSetIterable iter X.env x = pure x := by intro _; rfl) :
    PE X (.ListComp elt [⟨tg, iter, ifs, 0⟩] scope pos) (tComp wi g tt te T.length (capσ T.length ix)) := by
  intro pins s σ H Q I h
  rw [eval_ListComp]
  refine comp_core (use := none) hc hi hg ht he hB hk hcell hnames hfr hs I h fun D C H' s' m I' fC hn q => ⟨m, hn, fun h' sb => ⟨.ref D, H', ?_, rfl, q⟩⟩
  obtain ⟨z0, z1, z2, z3, z4, z5⟩ := fC
  exact I'.turned (t' := s'.toks) (fun b o hb e => sb.extBut b o hb e) z0 z1 z3 z4 z5
theorem ps_setC {i : Nat} {x : Str} {pos' spos : Pos} (hN : X.N.Nodup) (hi' : X.N[i]? = some x) (hx : X.env.scope.names.lookup x = some .local) (hc : X.calm = true) (T V : List Str) (ix : List Nat) (hi : PI X tg iter wi)
    (hg : ∀ cl C s3 H3 fp, PG (blk X (T ++ V) scope cl C s3 H3 fp) tg g) (ht : ∀ cl C s3 H3 fp, PTs (blk X (T ++ V) scope cl C s3 H3 fp) ifs tt) (he : ∀ cl C s3 H3 fp, PE (blk X (T ++ V) scope cl C s3 H3 fp) elt te)
    (hsw : swapsWith (.ListComp elt [⟨tg, iter, ifs, 0⟩] scope pos) (some (.Name x pos')) spos.line X.env = pure true := by rfl)
    (hB : capB X.N X.env.scope.names scope.names V ix = true := by rfl) (hk : scope.kind = .function := by rfl) (hcell : ∀ y ∈ scope.names, y.2 ≠ .cell := by decide +kernel)
    (hnames : ∀ x ∈ scope.names, x.2 = .local → scope.names.lookup x.1 = some .local := by decide +kernel)
    (hfr : ∀ x ∈ scope.names, x.2 = .free → x.1 ∈ V := by decide +kernel) (hs : ∀ x, foldedSetIterable iter X.env x = pure x := by intro _; rfl) :
    PS X (.Assign [.Name x pos'] (.ListComp elt [⟨tg, iter, ifs, 0⟩] scope pos) spos) (tAsg (tComp wi g tt te T.length (capσ T.length ix)) (gName i)) := by
  intro pins s σ H D I h
  rw [exec_Assign_Name_used _ _ _ _ hsw]
  refine wpAny_bind (wpAny_standAt (wpAny_bind ?_))
  show wpAny _ X.A (do let _ ← comprehension (.ListComp elt [⟨tg, iter, ifs, 0⟩] scope pos) scope X.env _ (newList []) false (eval iter X.env) (some (assign (.Name x pos') X.env))) _ _ s
  refine wpAny_bind (wpAny_mono (comp_core (use := some (assign (.Name x pos') X.env)) (Qp := fun _ s' => SP X pins D .next s') hc hi hg ht he hB hk hcell hnames hfr hs I h fun A' C H' s' m I' fC hn q => ?_) (fun _ s' hq => wpAny_pure (wpAny_pure hq)) fun _ _ e => e)
  obtain ⟨z0, z1, z2, z3, z4, z5⟩ := fC
  refine wpAny_assign_Name (store_ok2 I' hN hi' (.inl hx) (v := .ref A') rfl (fun s'' I'' ⟨a, sb, ha⟩ => ⟨m, hn.sameBut sb ?_, fun h' sb' => ⟨_, H', ?_, q⟩⟩) (.inr hx))
  · rcases ha with ha | ha
    · rw [ha]; exact z1
    · exact Ne.symm (z4 x a ha)
  · exact I''.turned (t' := s''.toks) (fun b o hb e => sb'.extBut b o hb e) z0 z1 z3 z4 z5
end
section
variable {X : Cx} {K : PySem.W.Frag}
end
end My
namespace D3
open PySem
abbrev D := PyData
inductive U where
  | d (x : D)
  | x (c f : Str) (v : D)
abbrev DS := List (Option U)
inductive Oc where
  | nx (δ : DS)
  | rt (d : D)
  | bk (δ : DS)
  | ct (δ : DS)
  | ex (c f : Str) (v : D)
abbrev FE := DS → Option D
abbrev FA := DS → Option (List D)
abbrev FT := DS → Option Bool
abbrev FS := DS → Option Oc
abbrev FG := D → DS → Option DS
mutual
def flat : D → Bool
  | .none => true
  | .bool _ => true
  | .int _ => true
  | .str _ => true
  | .list _ => false
  | .tuple xs => flats xs
  | .dict _ => false
def flats : List D → Bool
  | [] => true
  | x :: r => flat x && flats r
end
mutual
def nl : D → Nat
  | .none => 0
  | .bool _ => 0
  | .int _ => 0
  | .str _ => 0
  | .list xs => nls xs + 1
  | .tuple xs => nls xs
  | .dict _ => 1
def nls : List D → Nat
  | [] => 0
  | x :: r => nl x + nls r
end
def fl1 : D → Bool
  | .list xs => flats xs
  | d => flat d
def dVar (i : Nat) : FE := fun δ => match δ[i]? with
  | some (some (.d x)) => some x
  | _ => none
def dC (d : D) : FE := fun _ => some d
def dOp (g : D → D → Option D) (fa fb : FE) : FE := fun δ => (fa δ).bind fun x => (fb δ).bind fun y => g x y
def dUn (g : D → Option D) (fa : FE) : FE := fun δ => (fa δ).bind g
def dNil : FA := fun _ => some []
def dCons (fa : FE) (fr : FA) : FA := fun δ => (fa δ).bind fun x => (fr δ).bind fun r => some (x :: r)
def dTup (fa : FA) : FE := fun δ => (fa δ).bind fun l => if l.length ≤ sizeLine then some (.tuple l) else none
def dLst (fa : FA) : FE := fun δ => (fa δ).bind fun l => if l.length ≤ sizeLine then some (.list l) else none
def dCall (F : List D → Option D) (fa : FA) : FE := fun δ => (fa δ).bind F
def dFlat (fa : FE) : FE := fun δ => (fa δ).bind fun d => if flat d = true then some d else none
def dN1 (fa : FE) : FE := fun δ => (fa δ).bind fun d => if decide (nl d ≤ 1) = true then some d else none
def dFl1 (fa : FE) : FE := fun δ => (fa δ).bind fun d => if fl1 d = true then some d else none
def dAnd (fa fb : FE) : FE := fun δ => (fa δ).bind fun x => match x with
  | .bool true => fb δ
  | .bool false => some (.bool false)
  | _ => none
def dOr (fa fb : FE) : FE := fun δ => (fa δ).bind fun x => match x with
  | .bool true => some (.bool true)
  | .bool false => fb δ
  | _ => none
def dNot (fa : FE) : FE := fun δ => (fa δ).bind fun x => match x with
  | .bool b => some (.bool (!b))
  | _ => none
def dIf (c : FT) (fa fb : FE) : FE := fun δ => (c δ).bind fun b => if b = true then fa δ else fb δ
def tBool (fa : FE) : FT := fun δ => (fa δ).bind fun x => match x with
  | .bool b => some b
  | _ => none
def tAnd (a b : FT) : FT := fun δ => (a δ).bind fun x => if x = true then b δ else some false
def tOr (a b : FT) : FT := fun δ => (a δ).bind fun x => if x = true then some true else b δ
def tNot (a : FT) : FT := fun δ => (a δ).map fun x => !x
def sNil : FS := fun δ => some (.nx δ)
def sSeq (a b : FS) : FS := fun δ => (a δ).bind fun o => match o with
  | .nx δ' => b δ'
  | o => some o
def sSet (i : Nat) (fe : FE) : FS := fun δ => (fe δ).bind fun d => some (.nx (δ.set i (some (.d d))))
def sIf (c : FT) (a b : FS) : FS := fun δ => (c δ).bind fun t => if t = true then a δ else b δ
def sRet (fe : FE) : FS := fun δ => (fe δ).bind fun d => some (.rt d)
def sRetN : FS := fun _ => some (.rt .none)
def sExpr (fe : FE) : FS := fun δ => (fe δ).bind fun _ => some (.nx δ)
def sBk : FS := fun δ => some (.bk δ)
def sCt : FS := fun δ => some (.ct δ)
def gN (i : Nat) : FG := fun d δ => some (δ.set i (some (.d d)))
def gsNil : List D → DS → Option DS := fun l δ => match l with
  | [] => some δ
  | _ => none
def gsCons (g : FG) (r : List D → DS → Option DS) : List D → DS → Option DS := fun l δ => match l with
  | d :: l' => (g d δ).bind fun δ' => r l' δ'
  | [] => none
def sAsg (fe : FE) (g : FG) : FS := fun δ => (fe δ).bind fun d => (g d δ).bind fun δ' => some (.nx δ')
def forD (g : FG) (b : FS) : List D → DS → Option Oc
  | [], δ => some (.nx δ)
  | d :: r, δ => (g d δ).bind fun δ1 => (b δ1).bind fun o => match o with
    | .nx δ' => forD g b r δ'
    | .ct δ' => forD g b r δ'
    | .bk δ' => some (.nx δ')
    | .rt v => some (.rt v)
    | .ex c f v => some (.ex c f v)
def sFor (fi : FA) (g : FG) (b : FS) : FS := fun δ => (fi δ).bind fun l => forD g b l δ
def whileD (c : FT) (b : FS) : Nat → DS → Option Oc
  | 0, _ => none
  | n + 1, δ => (c δ).bind fun t => if t = true then (b δ).bind fun o => match o with
      | .nx δ' => whileD c b n δ'
      | .ct δ' => whileD c b n δ'
      | .bk δ' => some (.nx δ')
      | .rt v => some (.rt v)
      | .ex c f v => some (.ex c f v)
    else some (.nx δ)
theorem whileD_mono {c : FT} {b : FS} : ∀ {n : Nat} {δ : DS} {o : Oc}, whileD c b n δ = some o → ∀ {m : Nat}, n ≤ m → whileD c b m δ = some o
  | 0, _, _, h, _, _ => by simp [whileD] at h
  | n + 1, δ, o, h, 0, l => by omega
  | n + 1, δ, o, h, m + 1, l => by
    rw [whileD] at h ⊢
    cases hc : c δ with
    | none => rw [hc] at h; simp at h
    | some t =>
      rw [hc] at h
      simp only [Option.bind_some] at h ⊢
      cases t with
      | false => exact h
      | true =>
        simp only [if_pos] at h ⊢
        cases hb : b δ with
        | none => rw [hb] at h; simp at h
        | some q =>
          rw [hb] at h
          simp only [Option.bind_some] at h ⊢
          cases q with
          | nx δ' => exact whileD_mono h (by omega)
          | ct δ' => exact whileD_mono h (by omega)
          | bk δ' => exact h
          | rt v => exact h
          | ex c f v => exact h
theorem whileD_det {c : FT} {b : FS} {n m : Nat} {δ : DS} {o o' : Oc} (h : whileD c b n δ = some o) (h' : whileD c b m δ = some o') : o = o' := by
  have a := whileD_mono h (Nat.le_max_left n m)
  have a' := whileD_mono h' (Nat.le_max_right n m)
  rw [a] at a'
  exact Option.some.inj a'
open Classical in
noncomputable def sWhile (c : FT) (b : FS) : FS := fun δ => if h : ∃ o n, whileD c b n δ = some o then some (Classical.choose h) else none
theorem sWhile_of {c : FT} {b : FS} {n : Nat} {δ : DS} {o : Oc} (h : whileD c b n δ = some o) : sWhile c b δ = some o := by
  have e : ∃ o n, whileD c b n δ = some o := ⟨o, n, h⟩
  unfold sWhile
  rw [dif_pos e]
  obtain ⟨m, hm⟩ := Classical.choose_spec e
  rw [whileD_det hm h]
theorem sWhile_inv {c : FT} {b : FS} {δ : DS} {o : Oc} (h : sWhile c b δ = some o) : ∃ n, whileD c b n δ = some o := by
  unfold sWhile at h
  by_cases e : ∃ o n, whileD c b n δ = some o
  · rw [dif_pos e] at h
    have := Classical.choose_spec e
    rw [Option.some.inj h] at this
    exact this
  · rw [dif_neg e] at h
    cases h
def fnD (p q : Nat) (b : FS) : List D → Option D := fun ds => if ds.length = p then match b (ds.map (fun d => some (.d d)) ++ List.replicate q none) with
    | some (.rt d) => some d
    | some (.nx _) => some .none
    | _ => none
  else none
def capD (t : Nat) (ix : List Nat) (δ : DS) : DS := List.replicate t none ++ ix.map fun j => (δ[j]?).getD none
def compD (g : FG) (c : FT) (e : FE) (δ : DS) : List D → Option (List D)
  | [] => some []
  | d :: r => (g d δ).bind fun δ1 => (c δ1).bind fun b => if b = true then (e δ1).bind fun x => (compD g c e δ r).bind fun l => some (x :: l) else compD g c e δ r
def dComp (fi : FA) (g : FG) (c : FT) (e : FE) (t : Nat) (ix : List Nat) : FE := fun δ => (fi δ).bind fun l => if l.length ≤ 100000 then (compD g c e (capD t ix δ) l).bind fun r => some (.list r) else none
def tYes : FT := fun _ => some true
def gI (g : Int → Int → Option D) : D → D → Option D := fun x y => match x, y with
  | .int i, .int j => g i j
  | _, _ => none
def pIx (n : Nat) (i : Int) : Option Nat := if 0 ≤ i then (if i < n then some i.toNat else none) else if -(n : Int) ≤ i then some (i + n).toNat else none
def pAt (xs : List D) (i : Int) : Option D := (pIx xs.length i).bind fun j => xs[j]?
def isT (c T : String) : Bool := T == c || (T == "bool" && c == "int")
def sSetl (i : Nat) (fe : FE) : FS := fun δ => if i < δ.length then sSet i fe δ else none
def gAdd : D → D → Option D := gI fun i j => some (.int (i + j))
def gSub : D → D → Option D := gI fun i j => some (.int (i - j))
def mulG (i j : Int) : Bool := decide (i.natAbs < 2 ^ 64) || decide (j.natAbs < 2 ^ 64) || (decide (i.natAbs < 2 ^ 30000) && decide (j.natAbs < 2 ^ 30000))
def gMul : D → D → Option D := gI fun i j => if mulG i j = true then some (.int (i * j)) else none
def divG (_ j : Int) : Bool := decide (j ≠ 0) && decide (j.natAbs < 2 ^ 9000)
def gDiv : D → D → Option D := gI fun i j => if divG i j = true then some (.int (i.fdiv j)) else none
def gMod : D → D → Option D := gI fun i j => if decide (j ≠ 0) = true then some (.int (i.fmod j)) else none
def powG (i j : Int) : Bool := decide (0 ≤ j) && decide (j ≤ 1000) && decide (i.natAbs < 2 ^ 64)
def gPow : D → D → Option D := gI fun i j => if powG i j = true then some (.int (i ^ j.toNat)) else none
def gLt : D → D → Option D := gI fun i j => some (.bool (decide (i < j)))
def gLe : D → D → Option D := gI fun i j => some (.bool (decide (i ≤ j)))
def gGt : D → D → Option D := gI fun i j => some (.bool (decide (j < i)))
def gGe : D → D → Option D := gI fun i j => some (.bool (decide (j ≤ i)))
def gEq : D → D → Option D := fun x y => if (SeqAt.shaped x && SeqAt.shaped y) = true then some (.bool (PyData.eqv x y)) else none
def gNe : D → D → Option D := fun x y => if (SeqAt.shaped x && SeqAt.shaped y) = true then some (.bool (!PyData.eqv x y)) else none
def gNl (i : Nat) : FG := fun d δ => if i < δ.length then gN i d δ else none
def gTn (n : Nat) (g : List D → DS → Option DS) : FG := fun d δ => match d with
  | .tuple l => if l.length = n then g l δ else none
  | _ => none
def sApp (i : Nat) (f : FE) : FS := fun δ => (dVar i δ).bind fun x => (f δ).bind fun d => match x with
  | .list l => if l.length < 1000000 then some (.nx (δ.set i (some (.d (.list (l ++ [d])))))) else none
  | _ => none
def sPut (i : Nat) (fk f : FE) : FS := fun δ => (f δ).bind fun d => (dVar i δ).bind fun x => (fk δ).bind fun k => match x, k with
  | .list l, .int j => (pIx l.length j).bind fun n => some (.nx (δ.set i (some (.d (.list (l.set n d))))))
  | _, _ => none
def partOf : D → Option (List D)
  | .list l => some l
  | .tuple l => some l
  | _ => none
def putAt (x : D) (n : Nat) (d : D) : D := match x with
  | .list l => .list (l.set n d)
  | .tuple l => .tuple (l.set n d)
  | x => x
def asList : D → Option (List D)
  | .list l => some l
  | _ => none
def fLst (f : FE) : FA := fun δ => (f δ).bind asList
def rngD (lo hi : Int) : List D := (List.range (hi - lo).toNat).map fun (k : Nat) => .int (lo + (k : Int))
def rngG (i : Int) : Bool := decide (-(2 ^ 62) ≤ i) && decide (i < 2 ^ 62)
def fRng1 (fa : FA) : FA := fun δ => (fa δ).bind fun l => match l with
  | [.int j] => if rngG j = true then some (rngD 0 j) else none
  | _ => none
def fRng2 (fa : FA) : FA := fun δ => (fa δ).bind fun l => match l with
  | [.int i, .int j] => if (rngG i && rngG j) = true then some (rngD i j) else none
  | _ => none
def gIx : D → D → Option D := fun x y => match x, y with
  | .list l, .int i => pAt l i
  | .tuple l, .int i => pAt l i
  | _, _ => none
def dChain (g g' : D → D → Option D) (fa fb fc : FE) : FE := fun δ => (fa δ).bind fun x => (fb δ).bind fun y => (g x y).bind fun z => match z with
  | .bool true => (fc δ).bind fun w => g' y w
  | .bool false => some (.bool false)
  | _ => none
def dChain3 (g g' g'' : D → D → Option D) (fa fb fc fd : FE) : FE := fun δ => (fa δ).bind fun x => (fb δ).bind fun y => (g x y).bind fun z => match z with
  | .bool true => (fc δ).bind fun w => (g' y w).bind fun z' => match z' with
    | .bool true => (fd δ).bind fun u => g'' w u
    | .bool false => some (.bool false)
    | _ => none
  | .bool false => some (.bool false)
  | _ => none
def isNone : D → Bool
  | .none => true
  | _ => false
def gIsN : D → Option D := fun x => some (.bool (isNone x))
def gNotN : D → Option D := fun x => some (.bool (!isNone x))
def gLen : List D → Option D
  | [.list l] => some (.int l.length)
  | [.tuple l] => some (.int l.length)
  | _ => none
def intsD : List D → Option (List Int)
  | [] => some []
  | .int i :: r => (intsD r).map (i :: ·)
  | _ => none
def gSum : List D → Option D
  | [.list l] => (intsD l).map fun ns => .int ns.sum
  | _ => none
def insI (x : Int) : List Int → List Int
  | [] => [x]
  | y :: r => if x ≤ y then x :: y :: r else y :: insI x r
def srtI : List Int → List Int
  | [] => []
  | x :: r => insI x (srtI r)
def gSort : List D → Option D
  | [.list l] => (intsD l).bind fun ns => if ns.length < 64 then some (.list ((srtI ns).map .int)) else none
  | _ => none
def gInt : List D → Option D
  | [.int i] => some (.int i)
  | [.bool b] => some (.int (if b then 1 else 0))
  | _ => none
def gAbs : List D → Option D
  | [.int i] => some (.int (if i < 0 then -i else i))
  | _ => none
def gMax2 : List D → Option D
  | [.int i, .int j] => some (.int (if j > i then j else i))
  | _ => none
def gMin2 : List D → Option D
  | [.int i, .int j] => some (.int (if j < i then j else i))
  | _ => none
def tyD : D → String
  | .none => "NoneType"
  | .bool _ => "bool"
  | .int _ => "int"
  | .str _ => "str"
  | .list _ => "list"
  | .tuple _ => "tuple"
  | .dict _ => "dict"
def gIs (c : String) : D → Option D := fun d => some (.bool (isT c (tyD d)))
def gNeg : D → Option D
  | .int i => some (.int (-i))
  | _ => none
def gCat : D → D → Option D := fun x y => match x, y with
  | .list l, .list m => if l.length + m.length ≤ 1000000 then some (.list (l ++ m)) else none
  | _, _ => none
def gList : D → Option D
  | .list l => some (.list l)
  | .tuple l => some (.list l)
  | _ => none
abbrev FO := DS → Option (Option Int)
def oNone : FO := fun _ => some none
def oPart (f : FE) : FO := fun δ => (f δ).bind fun x => match x with
  | .int i => some (some i)
  | _ => none
def pSx (n d : Nat) : Option Int → Nat
  | none => d
  | some i => if i < 0 then (i + n).toNat else min i.toNat n
def cutD (xs : List D) (lo hi : Option Int) : List D := (xs.drop (pSx xs.length 0 lo)).take (pSx xs.length xs.length hi - pSx xs.length 0 lo)
def dSl (f : FE) (lo hi : FO) : FE := fun δ => (f δ).bind fun x => (lo δ).bind fun a => (hi δ).bind fun b => match x with
  | .list l => some (.list (cutD l a b))
  | _ => none
def sPar (i j : Nat) (fa : FA) : FS := fun δ => (fa δ).bind fun l => match l with
  | [x, y] => if i < δ.length ∧ j < δ.length then some (.nx ((δ.set i (some (.d x))).set j (some (.d y)))) else none
  | _ => none
def enumD (l : List D) : List D := l.mapIdx fun i x => .tuple [.int (i : Int), x]
def fEnum (f : FE) : FA := fun δ => (f δ).bind fun d => match d with
  | .list l => some (enumD l)
  | _ => none
def boolsD : List D → Option (List Bool)
  | [] => some []
  | .bool b :: r => (boolsD r).map (b :: ·)
  | _ => none
def gAll : List D → Option D
  | [.list l] => (boolsD l).map fun bs => .bool (bs.all id)
  | _ => none
def gAny : List D → Option D
  | [.list l] => (boolsD l).map fun bs => .bool (bs.any id)
  | _ => none
def zipD : List D → List D → List D
  | x :: r, y :: s => .tuple [x, y] :: zipD r s
  | _, _ => []
def fZip (f g : FE) : FA := fun δ => (f δ).bind fun d => (g δ).bind fun e => match d, e with
  | .list l, .list m => some (zipD l m)
  | _, _ => none
end D3
namespace D3
open PySem PySem.Spec PyProof.Rows L2 My
abbrev Ok := Addr → Prop
abbrev St := L2.St
class Chg (u : HO) : Prop where
  ch : (∃ xs, u = .lst xs) ∨ (∃ kvs, u = .dK kvs) ∨ ∃ kvs, u = .dT kvs
instance (xs : List V) : Chg (.lst xs) := ⟨.inl ⟨xs, rfl⟩⟩
instance (kvs : List (Key × V)) : Chg (.dK kvs) := ⟨.inr (.inl ⟨kvs, rfl⟩)⟩
instance (kvs : List (List Key × V)) : Chg (.dT kvs) := ⟨.inr (.inr ⟨kvs, rfl⟩)⟩
theorem Chg.frz {o : Obj} {u : HO} (h : Chg (.frz o u)) : False := by
  rcases h.ch with ⟨_, z⟩ | ⟨_, z⟩ | ⟨_, z⟩ <;> cases z
theorem Chg.tup {xs : List V} (h : Chg (.tup xs)) : False := by
  rcases h.ch with ⟨_, z⟩ | ⟨_, z⟩ | ⟨_, z⟩ <;> cases z
def Chd (o : Option HO) : Prop := ∃ u, o = some u ∧ Chg u
theorem Chd.ne {o : Option HO} (h : Chd o) : o ≠ none := by
  obtain ⟨u, rfl, _⟩ := h
  simp
def SqK (K : PySem.W.Frag) (H : Hp) (a : Addr) (xs : List V) : Prop := (∃ o, H a = some (.frz o (.lst xs))) ∨
  ∃ (o : Obj) (its : Array Value) (n : Nat), K.lookup a = some o ∧ o.cls = .type "list" ∧ o.dict = none ∧ o.data = .seq its n ∧ its.size ≤ sizeLine ∧ Vals xs its.toList
theorem SqK.sq {K : PySem.W.Frag} {H : Hp} {a : Addr} {xs : List V} (h : SqK K H a xs) : SqL K H a xs := by
  rcases h with ⟨o, h⟩ | h
  · exact .inl (.inr ⟨o, h⟩)
  · exact .inr h
def SqT0 (H : Hp) (a : Addr) (xs : List V) : Prop := H a = some (.tup xs)
theorem SqT0.sq {K : PySem.W.Frag} {H : Hp} {a : Addr} {xs : List V} (h : SqT0 H a xs) : SqT K H a xs := .inl (.inl h)
theorem SqT0.same {H H' : Hp} {a : Addr} {xs : List V} (e : Same H H') (h : SqT0 H a xs) : SqT0 H' a xs := e _ _ h
theorem SqT0.upd {H : Hp} {a b : Addr} {xs : List V} {u o : HO} [cu : Chg u] (h : H a = some u) (q : SqT0 H b xs) : SqT0 (upd H a o) b xs := by
  unfold SqT0
  rw [upd_ne (ne_of q h (by intro z; subst z; exact cu.tup))]
  exact q
def dk0 : List (D × D) → List (Key × V)
  | [] => []
  | (.int i, .int j) :: r => (.inl i, .int j) :: dk0 r
  | (.int i, .bool true) :: r => (.inl i, .bl true) :: dk0 r
  | _ :: r => (.inl 0, .non) :: dk0 r
def tkK : List D → Option (List Key)
  | [] => some []
  | .int i :: r => (tkK r).map (.inl i :: ·)
  | _ => none
def tkD : List (D × D) → Option (List (List Key × V))
  | [] => some []
  | (.tuple l, .bool true) :: r => (tkK l).bind fun k => (tkD r).map ((k, .bl true) :: ·)
  | _ => none
def dh0 (kvs : List (D × D)) : HO := match kvs with
  | [] => .dK []
  | q :: r => match tkD (q :: r) with
    | some ts => .dT ts
    | none => .dK (dk0 (q :: r))
theorem dh0_or (kvs : List (D × D)) : (∃ ks, dh0 kvs = .dK ks) ∨ ∃ ks, dh0 kvs = .dT ks := by
  cases kvs with
  | nil => exact .inl ⟨_, rfl⟩
  | cons q r =>
    unfold dh0
    dsimp only
    split
    · exact .inr ⟨_, rfl⟩
    · exact .inl ⟨_, rfl⟩
instance (kvs : List (D × D)) : Chg (dh0 kvs) := ⟨by
  rcases dh0_or kvs with ⟨ks, z⟩ | ⟨ks, z⟩
  · exact .inr (.inl ⟨ks, z⟩)
  · exact .inr (.inr ⟨ks, z⟩)⟩
def scV : D → V
  | .int i => .int i
  | _ => .non
def scs : List D → Bool
  | [] => true
  | .int _ :: r => scs r
  | .none :: r => scs r
  | _ => false
def TV (H : Hp) (v : V) (d : D) : Prop := (v = .non ∧ d = .none) ∨ ∃ b ds, v = .ref b ∧ d = .tuple ds ∧ SqT0 H b (ds.map scV) ∧ scs ds = true
inductive TVs (H : Hp) : List (Key × V) → List (D × D) → Prop
  | nil : TVs H [] []
  | cons {i : Int} {v : V} {d : D} {r : List (Key × V)} {r' : List (D × D)} : TV H v d → TVs H r r' → TVs H ((.inl i, v) :: r) ((.int i, d) :: r')
theorem TV.imp {H H' : Hp} (h : ∀ b xs, SqT0 H b xs → SqT0 H' b xs) {v : V} {d : D} (q : TV H v d) : TV H' v d := by
  rcases q with q | ⟨b, ds, h1, h2, h3, h4⟩
  · exact .inl q
  · exact .inr ⟨b, ds, h1, h2, h _ _ h3, h4⟩
theorem TVs.imp {H H' : Hp} (h : ∀ b xs, SqT0 H b xs → SqT0 H' b xs) {ks : List (Key × V)} {kvs : List (D × D)} (q : TVs H ks kvs) : TVs H' ks kvs := by
  induction q with
  | nil => exact .nil
  | cons t _ ih => exact .cons (t.imp h) ih
def oldD : List (D × D) → Bool
  | [] => true
  | (_, .int _) :: r => oldD r
  | (_, .bool _) :: r => oldD r
  | _ => false
def TW (H : Hp) (v : V) (m : List Int) (z : Int) : Prop := ∃ b c, v = .ref b ∧ SqT0 H b [.ref c, .int z] ∧ SqT0 H c (m.map V.int)
inductive TTs (H : Hp) : List (List Key × V) → List (D × D) → Prop
  | nil : TTs H [] []
  | cons {k m : List Int} {z : Int} {v : V} {r : List (List Key × V)} {r' : List (D × D)} : TW H v m z → TTs H r r' → TTs H ((k.map Sum.inl, v) :: r) ((.tuple (k.map .int), .tuple [.tuple (m.map .int), .int z]) :: r')
theorem TTs.imp {H H' : Hp} (h : ∀ b xs, SqT0 H b xs → SqT0 H' b xs) {ks : List (List Key × V)} {kvs : List (D × D)} (q : TTs H ks kvs) : TTs H' ks kvs := by
  induction q with
  | nil => exact .nil
  | cons t _ ih =>
    obtain ⟨b, c, h1, h2, h3⟩ := t
    exact .cons ⟨b, c, h1, h _ _ h2, h _ _ h3⟩ ih
def DH (H : Hp) (u : HO) (kvs : List (D × D)) : Prop := (oldD kvs = true ∧ u = dh0 kvs) ∨ (∃ ks, u = .dK ks ∧ TVs H ks kvs) ∨ ∃ q ks, u = .dT (q :: ks) ∧ TTs H (q :: ks) kvs
theorem DH.imp {H H' : Hp} (h : ∀ b xs, SqT0 H b xs → SqT0 H' b xs) {u : HO} {kvs : List (D × D)} (q : DH H u kvs) : DH H' u kvs := by
  rcases q with q | ⟨ks, q1, q2⟩ | ⟨k, ks, q1, q2⟩
  · exact .inl q
  · exact .inr (.inl ⟨ks, q1, q2.imp h⟩)
  · exact .inr (.inr ⟨k, ks, q1, q2.imp h⟩)
theorem DH.same {H H' : Hp} {u : HO} {kvs : List (D × D)} (q : DH H u kvs) (e : Same H H') : DH H' u kvs := q.imp fun _ _ h => SqT0.same e h
theorem DH.upd {H : Hp} {a : Addr} {u o u' : HO} [cu : Chg u] {kvs : List (D × D)} (q : DH H u' kvs) (h : H a = some u) : DH (upd H a o) u' kvs := q.imp fun _ _ z => SqT0.upd h z
theorem DH.or {H : Hp} {u : HO} {kvs : List (D × D)} (q : DH H u kvs) : (∃ ks, u = .dK ks) ∨ ∃ ks, u = .dT ks := by
  rcases q with ⟨_, rfl⟩ | ⟨ks, rfl, _⟩ | ⟨k, ks, rfl, _⟩
  · exact dh0_or kvs
  · exact .inl ⟨ks, rfl⟩
  · exact .inr ⟨_, rfl⟩
theorem DH.chg {H : Hp} {u : HO} {kvs : List (D × D)} (q : DH H u kvs) : Chg u := ⟨.inr q.or⟩
theorem DH.old {H : Hp} {u : HO} {kvs : List (D × D)} (q : DH H u kvs) (h : oldD kvs = true) : u = dh0 kvs := by
  rcases q with q | ⟨ks, rfl, q⟩ | ⟨k, ks, rfl, q⟩
  · exact q.2
  · cases q with
    | nil => rfl
    | cons t _ =>
      rcases t with ⟨_, rfl⟩ | ⟨_, _, _, rfl, _, _⟩ <;> cases h
  · cases q with
    | cons _ _ => cases h
mutual
inductive RA (K : PySem.W.Frag) (ok : Ok) (pl : Bool) (H : Hp) : V → D → Prop
  | non : RA K ok pl H .non .none
  | bl (b : Bool) : RA K ok pl H (.bl b) (.bool b)
  | int (i : Int) : RA K ok pl H (.int i) (.int i)
  | str (x : Str) : RA K ok pl H (.str x) (.str x)
  | lst {a : Addr} {xs : List V} {ds : List D} : H a = some (.lst xs) → ok a → RAs K ok pl H xs ds → RA K ok pl H (.ref a) (.list ds)
  | lsk {a : Addr} {xs : List V} {ds : List D} : SqK K H a xs → pl = true → RAs K ok pl H xs ds → RA K ok pl H (.ref a) (.list ds)
  | tup {a : Addr} {xs : List V} {ds : List D} : SqT0 H a xs → RAs K ok pl H xs ds → RA K ok pl H (.ref a) (.tuple ds)
  | dic {a : Addr} {u : HO} {kvs : List (D × D)} : H a = some u → DH H u kvs → ok a → RA K ok pl H (.ref a) (.dict kvs)
  | dik {a : Addr} {u : HO} {kvs : List (D × D)} {o : Obj} : H a = some (.frz o u) → DH H u kvs → pl = true → RA K ok pl H (.ref a) (.dict kvs)
inductive RAs (K : PySem.W.Frag) (ok : Ok) (pl : Bool) (H : Hp) : List V → List D → Prop
  | nil : RAs K ok pl H [] []
  | cons {v : V} {d : D} {vs : List V} {ds : List D} : RA K ok pl H v d → RAs K ok pl H vs ds → RAs K ok pl H (v :: vs) (d :: ds)
end
section
variable {K : PySem.W.Frag} {ok ok' : Ok} {pl pl' : Bool} {H H' : Hp}
theorem RA.ind {P : V → D → Prop} {Q : List V → List D → Prop} (c1 : P .non .none) (c2 : ∀ b, P (.bl b) (.bool b)) (c3 : ∀ i, P (.int i) (.int i)) (c4 : ∀ x, P (.str x) (.str x))
    (c5 : ∀ {a : Addr} {xs : List V} {ds : List D}, H a = some (.lst xs) → ok a → Q xs ds → P (.ref a) (.list ds)) (c6 : ∀ {a : Addr} {xs : List V} {ds : List D}, SqK K H a xs → pl = true → Q xs ds → P (.ref a) (.list ds)) (c7 : ∀ {a : Addr} {xs : List V} {ds : List D}, SqT0 H a xs → Q xs ds → P (.ref a) (.tuple ds))
    (c8 : ∀ {a : Addr} {u : HO} {kvs : List (D × D)}, H a = some u → DH H u kvs → ok a → P (.ref a) (.dict kvs)) (c9 : ∀ {a : Addr} {u : HO} {kvs : List (D × D)} {o : Obj}, H a = some (.frz o u) → DH H u kvs → pl = true → P (.ref a) (.dict kvs)) (c10 : Q [] []) (c11 : ∀ {v : V} {d : D} {vs : List V} {ds : List D}, P v d → Q vs ds → Q (v :: vs) (d :: ds)) :
    (∀ {v : V} {d : D}, RA K ok pl H v d → P v d) ∧ ∀ {v : List V} {d : List D}, RAs K ok pl H v d → Q v d :=
  ⟨fun h => RA.rec (motive_1 := fun v d _ => P v d) (motive_2 := fun v d _ => Q v d) c1 c2 c3 c4 (fun h o _ q => c5 h o q) (fun h o _ q => c6 h o q) (fun h _ q => c7 h q) (fun h g o => c8 h g o) (fun h g o => c9 h g o) c10 (fun _ _ a q => c11 a q) h,
    fun h => RAs.rec (motive_1 := fun v d _ => P v d) (motive_2 := fun v d _ => Q v d) c1 c2 c3 c4 (fun h o _ q => c5 h o q) (fun h o _ q => c6 h o q) (fun h _ q => c7 h q) (fun h g o => c8 h g o) (fun h g o => c9 h g o) c10 (fun _ _ a q => c11 a q) h⟩
theorem RA.imp2 (ho : ∀ a, ok a → ok' a) (hp : pl = true → pl' = true) : (∀ {v : V} {d : D}, RA K ok pl H v d → RA K ok' pl' H v d) ∧ ∀ {v : List V} {d : List D}, RAs K ok pl H v d → RAs K ok' pl' H v d :=
  RA.ind .non .bl .int .str (fun h o q => .lst h (ho _ o) q) (fun h o q => .lsk h (hp o) q) (fun h q => .tup h q) (fun h g o => .dic h g (ho _ o)) (fun h g o => .dik h g (hp o)) .nil .cons
theorem RA.imp (ho : ∀ a, ok a → ok' a) (hp : pl = true → pl' = true) {v : V} {d : D} (h : RA K ok pl H v d) : RA K ok' pl' H v d := (RA.imp2 ho hp).1 h
theorem RAs.imp (ho : ∀ a, ok a → ok' a) (hp : pl = true → pl' = true) {v : List V} {d : List D} (h : RAs K ok pl H v d) : RAs K ok' pl' H v d := (RA.imp2 ho hp).2 h
theorem SqK.same {a : Addr} {xs : List V} (e : Same H H') (h : SqK K H a xs) : SqK K H' a xs := by
  rcases h with ⟨o, h⟩ | h
  · exact .inl ⟨o, e _ _ h⟩
  · exact .inr h
theorem RA.same2 (e : Same H H') : (∀ {v : V} {d : D}, RA K ok pl H v d → RA K ok pl H' v d) ∧ ∀ {v : List V} {d : List D}, RAs K ok pl H v d → RAs K ok pl H' v d :=
  RA.ind .non .bl .int .str (fun h o q => .lst (e _ _ h) o q) (fun h o q => .lsk (h.same e) o q) (fun h q => .tup (SqT0.same e h) q) (fun h g o => .dic (e _ _ h) (g.same e) o) (fun h g o => .dik (e _ _ h) (g.same e) o) .nil .cons
theorem RA.same (e : Same H H') {v : V} {d : D} (h : RA K ok pl H v d) : RA K ok pl H' v d := (RA.same2 e).1 h
theorem RAs.same (e : Same H H') {v : List V} {d : List D} (h : RAs K ok pl H v d) : RAs K ok pl H' v d := (RA.same2 e).2 h
theorem RA.flat2 : (∀ {v : V} {d : D}, RA K ok pl H v d → flat d = true → RA K ok' pl' H v d) ∧ ∀ {v : List V} {d : List D}, RAs K ok pl H v d → flats d = true → RAs K ok' pl' H v d :=
  RA.ind (fun _ => .non) (fun b _ => .bl b) (fun i _ => .int i) (fun x _ => .str x) (fun _ _ _ h => by simp [D3.flat] at h) (fun _ _ _ h => by simp [D3.flat] at h) (fun t q h => .tup t (q (by simpa [D3.flat] using h))) (fun _ _ _ h => by simp [D3.flat] at h) (fun _ _ _ h => by simp [D3.flat] at h) (fun _ => .nil) fun a q h => by
    rw [flats, Bool.and_eq_true] at h
    exact .cons (a h.1) (q h.2)
theorem RA.flat {v : V} {d : D} (hf : flat d = true) (h : RA K ok pl H v d) : RA K ok' pl' H v d := RA.flat2.1 h hf
theorem RAs.flat {v : List V} {d : List D} (hf : flats d = true) (h : RAs K ok pl H v d) : RAs K ok' pl' H v d := RA.flat2.2 h hf
theorem SqK.upd {a b : Addr} {xs : List V} {u o : HO} [cu : Chg u] (h : H a = some u) (q : SqK K H b xs) : SqK K (upd H a o) b xs := by
  rcases q with ⟨o', q⟩ | q
  · refine .inl ⟨o', ?_⟩
    rw [upd_ne (ne_of q h (by intro z; subst z; first | exact cu.frz | exact cu.tup))]
    exact q
  · exact .inr q
theorem SqT.upd {a b : Addr} {xs : List V} {u o : HO} [cu : Chg u] (h : H a = some u) (q : SqT K H b xs) : SqT K (upd H a o) b xs := by
  rcases q with (q | ⟨o', q⟩) | q
  · refine .inl (.inl ?_)
    rw [upd_ne (ne_of q h (by intro z; subst z; first | exact cu.frz | exact cu.tup))]
    exact q
  · refine .inl (.inr ⟨o', ?_⟩)
    rw [upd_ne (ne_of q h (by intro z; subst z; first | exact cu.frz | exact cu.tup))]
    exact q
  · exact .inr q
theorem RA.upd2 {a : Addr} {u o : HO} [cu : Chg u] (h : H a = some u) (na : ¬ ok a) : (∀ {v : V} {d : D}, RA K ok pl H v d → RA K ok pl (upd H a o) v d) ∧ ∀ {v : List V} {d : List D}, RAs K ok pl H v d → RAs K ok pl (upd H a o) v d :=
  RA.ind .non .bl .int .str (fun e k q => .lst (by rw [upd_ne (by intro z; subst z; exact na k)]; exact e) k q) (fun e k q => .lsk (e.upd h) k q) (fun e q => .tup (SqT0.upd h e) q) (fun e g k => .dic (by rw [upd_ne (by intro z; subst z; exact na k)]; exact e) (g.upd h) k) (fun e g k => .dik (by rw [upd_ne (ne_of e h (by intro z; subst z; exact cu.frz))]; exact e) (g.upd h) k) .nil .cons
theorem RA.upd {a : Addr} {u o : HO} [cu : Chg u] (h : H a = some u) (na : ¬ ok a) {v : V} {d : D} (r : RA K ok pl H v d) : RA K ok pl (upd H a o) v d := (RA.upd2 h na).1 r
theorem RAs.upd {a : Addr} {u o : HO} [cu : Chg u] (h : H a = some u) (na : ¬ ok a) {v : List V} {d : List D} (r : RAs K ok pl H v d) : RAs K ok pl (upd H a o) v d := (RA.upd2 h na).2 r
theorem RA.track2 : (∀ {v : V} {d : D}, RA K ok pl H v d → RA K (fun b => ok b ∧ H b ≠ none) pl H v d) ∧ ∀ {v : List V} {d : List D}, RAs K ok pl H v d → RAs K (fun b => ok b ∧ H b ≠ none) pl H v d :=
  RA.ind .non .bl .int .str (fun e k q => .lst e ⟨k, by rw [e]; simp⟩ q) (fun e k q => .lsk e k q) (fun e q => .tup e q) (fun e g k => .dic e g ⟨k, by rw [e]; simp⟩) (fun e g k => .dik e g k) .nil .cons
theorem RA.track {v : V} {d : D} (h : RA K ok pl H v d) : RA K (fun b => ok b ∧ H b ≠ none) pl H v d := RA.track2.1 h
theorem RAs.track {v : List V} {d : List D} (h : RAs K ok pl H v d) : RAs K (fun b => ok b ∧ H b ≠ none) pl H v d := RA.track2.2 h
theorem RAs.length : ∀ {v : List V} {d : List D}, RAs K ok pl H v d → v.length = d.length
  | _, _, .nil => rfl
  | _, _, .cons _ q => by simp [RAs.length q]
theorem RAs.get : ∀ {v : List V} {d : List D} {i : Nat} {x : D}, RAs K ok pl H v d → d[i]? = some x → ∃ y, v[i]? = some y ∧ RA K ok pl H y x
  | _, _, _, _, .nil, h => by simp at h
  | _, _, 0, _, .cons a _, h => by simp at h; subst h; exact ⟨_, rfl, a⟩
  | _, _, i + 1, _, .cons _ q, h => by
    obtain ⟨y, e, r⟩ := RAs.get (i := i) q (by simpa using h)
    exact ⟨y, by simpa using e, r⟩
theorem RAs.append : ∀ {v v' : List V} {d d' : List D}, RAs K ok pl H v d → RAs K ok pl H v' d' → RAs K ok pl H (v ++ v') (d ++ d')
  | _, _, _, _, .nil, q => q
  | _, _, _, _, .cons a r, q => .cons a (RAs.append r q)
theorem RAs.set {x : V} {y : D} (r : RA K ok pl H x y) : ∀ {v : List V} {d : List D} (i : Nat), RAs K ok pl H v d → RAs K ok pl H (v.set i x) (d.set i y)
  | _, _, _, .nil => .nil
  | _, _, 0, .cons _ q => .cons r q
  | _, _, i + 1, .cons a q => .cons a (RAs.set r i q)
theorem RAs.take : ∀ {v : List V} {d : List D} (n : Nat), RAs K ok pl H v d → RAs K ok pl H (v.take n) (d.take n)
  | _, _, 0, _ => by simp; exact .nil
  | _, _, _ + 1, .nil => .nil
  | _, _, n + 1, .cons a q => .cons a (RAs.take n q)
theorem RAs.drop : ∀ {v : List V} {d : List D} (n : Nat), RAs K ok pl H v d → RAs K ok pl H (v.drop n) (d.drop n)
  | _, _, 0, q => q
  | _, _, _ + 1, .nil => .nil
  | _, _, n + 1, .cons _ q => RAs.drop n q
theorem RAs.reverse : ∀ {v : List V} {d : List D}, RAs K ok pl H v d → RAs K ok pl H v.reverse d.reverse
  | _, _, .nil => .nil
  | _, _, .cons a q => by
    rw [List.reverse_cons, List.reverse_cons]
    exact (RAs.reverse q).append (.cons a .nil)
theorem RA.rd2 : (∀ {v : V} {d : D}, RA K ok pl H v d → d.canLay0 = true → RdV K H v d) ∧ ∀ {v : List V} {d : List D}, RAs K ok pl H v d → PyData.canLayAll0 d = true → RdVs K H v d :=
  RA.ind (fun _ => .non) (fun b _ => .bl b) (fun i _ => .int i) (fun x _ => .str x) (fun e _ q h => .lst (SqL.of e) (q (by simpa [PyData.canLay0] using h))) (fun e _ q h => .lst e.sq (q (by simpa [PyData.canLay0] using h))) (fun e q h => .tup e.sq (q (by simpa [PyData.canLay0] using h))) (fun _ _ _ h => by simp [PyData.canLay0] at h) (fun _ _ _ h => by simp [PyData.canLay0] at h) (fun _ => .nil) fun a q h => by
    rw [PyData.canLayAll0, Bool.and_eq_true] at h
    exact .cons (a h.1) (q h.2)
theorem RA.rd {v : V} {d : D} (hf : d.canLay0 = true) (h : RA K ok pl H v d) : RdV K H v d := RA.rd2.1 h hf
theorem RAs.rd {v : List V} {d : List D} (hf : PyData.canLayAll0 d = true) (h : RAs K ok pl H v d) : RdVs K H v d := RA.rd2.2 h hf
theorem RA.intE {v : V} {i : Int} (h : RA K ok pl H v (.int i)) : v = .int i := by cases h; rfl
theorem RA.blE {v : V} {b : Bool} (h : RA K ok pl H v (.bool b)) : v = .bl b := by cases h; rfl
theorem RA.strE {v : V} {x : Str} (h : RA K ok pl H v (.str x)) : v = .str x := by cases h; rfl
theorem RA.lstE {v : V} {ds : List D} (h : RA K ok pl H v (.list ds)) : ∃ a xs, v = .ref a ∧ SqL K H a xs ∧ RAs K ok pl H xs ds := by
  cases h with
  | lst e k q => exact ⟨_, _, rfl, SqL.of e, q⟩
  | lsk e k q => exact ⟨_, _, rfl, e.sq, q⟩
theorem RA.tupE {v : V} {ds : List D} (h : RA K ok pl H v (.tuple ds)) : ∃ a xs, v = .ref a ∧ SqT K H a xs ∧ RAs K ok pl H xs ds := by
  cases h with
  | tup e q => exact ⟨_, _, rfl, e.sq, q⟩
theorem RA.tupE0 {v : V} {ds : List D} (h : RA K ok pl H v (.tuple ds)) : ∃ a xs, v = .ref a ∧ SqT0 H a xs ∧ RAs K ok pl H xs ds := by
  cases h with
  | tup e q => exact ⟨_, _, rfl, e, q⟩
end
inductive Fl where
  | A
  | O
  | L
  | N
  | M
  deriving DecidableEq
def isN : Option Fl → Bool
  | some .N => true
  | some .M => true
  | _ => false
mutual
inductive RT (K : PySem.W.Frag) (H : Hp) : V → D → List Addr → Prop
  | non : RT K H .non .none []
  | bl (b : Bool) : RT K H (.bl b) (.bool b) []
  | int (i : Int) : RT K H (.int i) (.int i) []
  | str (x : Str) : RT K H (.str x) (.str x) []
  | lst {a : Addr} {xs : List V} {ds : List D} {as : List Addr} : H a = some (.lst xs) → RTs K H xs ds as → RT K H (.ref a) (.list ds) (a :: as)
  | tup {a : Addr} {xs : List V} {ds : List D} {as : List Addr} : SqT0 H a xs → RTs K H xs ds as → RT K H (.ref a) (.tuple ds) as
  | dic {a : Addr} {u : HO} {kvs : List (D × D)} : H a = some u → DH H u kvs → RT K H (.ref a) (.dict kvs) [a]
inductive RTs (K : PySem.W.Frag) (H : Hp) : List V → List D → List Addr → Prop
  | nil : RTs K H [] [] []
  | cons {v : V} {d : D} {vs : List V} {ds : List D} {as bs : List Addr} : RT K H v d as → RTs K H vs ds bs → RTs K H (v :: vs) (d :: ds) (as ++ bs)
end
section
variable {K : PySem.W.Frag} {H H' : Hp}
theorem RT.ind {P : V → D → List Addr → Prop} {Q : List V → List D → List Addr → Prop} (c1 : P .non .none []) (c2 : ∀ b, P (.bl b) (.bool b) []) (c3 : ∀ i, P (.int i) (.int i) []) (c4 : ∀ x, P (.str x) (.str x) [])
    (c5 : ∀ {a : Addr} {xs : List V} {ds : List D} {as : List Addr}, H a = some (.lst xs) → Q xs ds as → P (.ref a) (.list ds) (a :: as)) (c7 : ∀ {a : Addr} {xs : List V} {ds : List D} {as : List Addr}, SqT0 H a xs → Q xs ds as → P (.ref a) (.tuple ds) as)
    (c8 : ∀ {a : Addr} {u : HO} {kvs : List (D × D)}, H a = some u → DH H u kvs → P (.ref a) (.dict kvs) [a]) (c10 : Q [] [] []) (c11 : ∀ {v : V} {d : D} {vs : List V} {ds : List D} {as bs : List Addr}, P v d as → Q vs ds bs → Q (v :: vs) (d :: ds) (as ++ bs)) :
    (∀ {v : V} {d : D} {as : List Addr}, RT K H v d as → P v d as) ∧ ∀ {v : List V} {d : List D} {as : List Addr}, RTs K H v d as → Q v d as :=
  ⟨fun h => RT.rec (motive_1 := fun v d as _ => P v d as) (motive_2 := fun v d as _ => Q v d as) c1 c2 c3 c4 (fun h _ q => c5 h q) (fun h _ q => c7 h q) (fun h g => c8 h g) c10 (fun _ _ a q => c11 a q) h,
    fun h => RTs.rec (motive_1 := fun v d as _ => P v d as) (motive_2 := fun v d as _ => Q v d as) c1 c2 c3 c4 (fun h _ q => c5 h q) (fun h _ q => c7 h q) (fun h g => c8 h g) c10 (fun _ _ a q => c11 a q) h⟩
theorem RT.ra2 {ok : Ok} {pl : Bool} : (∀ {v : V} {d : D} {as : List Addr}, RT K H v d as → (∀ a ∈ as, ok a) → RA K ok pl H v d) ∧ ∀ {v : List V} {d : List D} {as : List Addr}, RTs K H v d as → (∀ a ∈ as, ok a) → RAs K ok pl H v d :=
  RT.ind (fun _ => .non) (fun b _ => .bl b) (fun i _ => .int i) (fun x _ => .str x) (fun e q h => .lst e (h _ List.mem_cons_self) (q fun a ha => h a (List.mem_cons_of_mem _ ha))) (fun e q h => .tup e (q h)) (fun e g h => .dic e g (h _ List.mem_cons_self)) (fun _ => .nil) fun e q h => .cons (e fun a ha => h a (List.mem_append_left _ ha)) (q fun a ha => h a (List.mem_append_right _ ha))
theorem RT.ra {ok : Ok} {pl : Bool} {v : V} {d : D} {as : List Addr} (r : RT K H v d as) (h : ∀ a ∈ as, ok a) : RA K ok pl H v d := RT.ra2.1 r h
theorem RTs.ra {ok : Ok} {pl : Bool} {v : List V} {d : List D} {as : List Addr} (r : RTs K H v d as) (h : ∀ a ∈ as, ok a) : RAs K ok pl H v d := RT.ra2.2 r h
theorem RT.same2 (s : Same H H') : (∀ {v : V} {d : D} {as : List Addr}, RT K H v d as → RT K H' v d as) ∧ ∀ {v : List V} {d : List D} {as : List Addr}, RTs K H v d as → RTs K H' v d as :=
  RT.ind .non .bl .int .str (fun e q => .lst (s _ _ e) q) (fun e q => .tup (SqT0.same s e) q) (fun e g => .dic (s _ _ e) (g.same s)) .nil .cons
theorem RT.same (s : Same H H') {v : V} {d : D} {as : List Addr} (h : RT K H v d as) : RT K H' v d as := (RT.same2 s).1 h
theorem RTs.same (s : Same H H') {v : List V} {d : List D} {as : List Addr} (h : RTs K H v d as) : RTs K H' v d as := (RT.same2 s).2 h
theorem RT.upd2 {a : Addr} {u o : HO} [cu : Chg u] (h : H a = some u) : (∀ {v : V} {d : D} {as : List Addr}, RT K H v d as → a ∉ as → RT K (upd H a o) v d as) ∧ ∀ {v : List V} {d : List D} {as : List Addr}, RTs K H v d as → a ∉ as → RTs K (upd H a o) v d as :=
  RT.ind (fun _ => .non) (fun b _ => .bl b) (fun i _ => .int i) (fun x _ => .str x) (fun e q na => .lst (by rw [upd_ne (fun z => na (by rw [← z]; exact List.mem_cons_self))]; exact e) (q fun z => na (List.mem_cons_of_mem _ z))) (fun e q na => .tup (SqT0.upd h e) (q na)) (fun e g na => .dic (by rw [upd_ne (fun z => na (by rw [← z]; exact List.mem_cons_self))]; exact e) (g.upd h)) (fun _ => .nil) fun e q na => .cons (e fun z => na (List.mem_append_left _ z)) (q fun z => na (List.mem_append_right _ z))
theorem RT.upd {a : Addr} {u o : HO} [cu : Chg u] (h : H a = some u) {v : V} {d : D} {as : List Addr} (na : a ∉ as) (r : RT K H v d as) : RT K (upd H a o) v d as := (RT.upd2 h).1 r na
theorem RTs.upd {a : Addr} {u o : HO} [cu : Chg u] (h : H a = some u) {v : List V} {d : List D} {as : List Addr} (na : a ∉ as) (r : RTs K H v d as) : RTs K (upd H a o) v d as := (RT.upd2 h).2 r na
theorem RT.chd2 : (∀ {v : V} {d : D} {as : List Addr}, RT K H v d as → ∀ a ∈ as, Chd (H a)) ∧ ∀ {v : List V} {d : List D} {as : List Addr}, RTs K H v d as → ∀ a ∈ as, Chd (H a) :=
  RT.ind (fun _ h => by cases h) (fun _ _ h => by cases h) (fun _ _ h => by cases h) (fun _ _ h => by cases h) (fun e q a h => by
    rcases List.mem_cons.mp h with rfl | z
    · exact ⟨_, e, inferInstance⟩
    · exact q a z) (fun _ q => q) (fun e g a h => by rw [List.mem_singleton.mp h]; exact ⟨_, e, g.chg⟩) (fun _ h => by cases h) fun e q a h => by
    rcases List.mem_append.mp h with z | z
    · exact e a z
    · exact q a z
theorem RT.chd {v : V} {d : D} {as : List Addr} (r : RT K H v d as) : ∀ a ∈ as, Chd (H a) := RT.chd2.1 r
theorem RTs.chd {v : List V} {d : List D} {as : List Addr} (r : RTs K H v d as) : ∀ a ∈ as, Chd (H a) := RT.chd2.2 r
theorem RT.tracked {v : V} {d : D} {as : List Addr} (h : RT K H v d as) (a : Addr) (ha : a ∈ as) : H a ≠ none := (h.chd a ha).ne
theorem RTs.tracked {v : List V} {d : List D} {as : List Addr} (h : RTs K H v d as) (a : Addr) (ha : a ∈ as) : H a ≠ none := (h.chd a ha).ne
theorem RA.rt2 {ok : Ok} : (∀ {v : V} {d : D}, RA K ok false H v d → ∃ as, RT K H v d as ∧ as.length = nl d ∧ ∀ a ∈ as, ok a) ∧ ∀ {v : List V} {d : List D}, RAs K ok false H v d → ∃ as, RTs K H v d as ∧ as.length = nls d ∧ ∀ a ∈ as, ok a :=
  RA.ind ⟨[], .non, rfl, fun _ h => by cases h⟩ (fun b => ⟨[], .bl b, rfl, fun _ h => by cases h⟩) (fun i => ⟨[], .int i, rfl, fun _ h => by cases h⟩) (fun x => ⟨[], .str x, rfl, fun _ h => by cases h⟩) (fun e k q => by
    obtain ⟨as, h1, h2, h3⟩ := q
    refine ⟨_ :: as, .lst e h1, by rw [List.length_cons, h2, nl], fun a ha => ?_⟩
    rcases List.mem_cons.mp ha with rfl | z
    · exact k
    · exact h3 a z) (fun _ k _ => by cases k) (fun e q => by
    obtain ⟨as, h1, h2, h3⟩ := q
    exact ⟨as, .tup e h1, by rw [h2, nl], h3⟩) (fun e g k => ⟨[_], .dic e g, by simp [nl], fun a ha => by rw [List.mem_singleton.mp ha]; exact k⟩) (fun _ _ k => by cases k) ⟨[], .nil, rfl, fun _ h => by cases h⟩ fun e q => by
    obtain ⟨as, h1, h2, h3⟩ := e
    obtain ⟨bs, g1, g2, g3⟩ := q
    refine ⟨as ++ bs, .cons h1 g1, by rw [List.length_append, h2, g2, nls], fun a ha => ?_⟩
    rcases List.mem_append.mp ha with z | z
    · exact h3 a z
    · exact g3 a z
theorem RA.rt {ok : Ok} {v : V} {d : D} (h : RA K ok false H v d) : ∃ as, RT K H v d as ∧ as.length = nl d ∧ ∀ a ∈ as, ok a := RA.rt2.1 h
end
def tabs : List (Addr × Str × Pos) := []
def Tb (H : Hp) : Prop := ∀ t ∈ tabs, H t.1 = some (.tbl t.2.1 t.2.2)
theorem Tb.same {H H' : Hp} (t : Tb H) (s : Same H H') : Tb H' := fun x hx => s _ _ (t x hx)
structure Gh where
  H0 : Hp
  HF : Hp
  pk : Nat → Option Addr
  pn : Nat → List Addr
  tb : Tb H0
structure Ow where
  s : Nat → Option Addr
  n : Nat → List Addr := fun _ => []
instance : CoeFun Ow (fun _ => Nat → Option Addr) := ⟨Ow.s⟩
abbrev ow0 : Ow := ⟨fun _ => none, fun _ => []⟩
def okA (ow : Ow) : Ok := fun a => (∀ i, ow i ≠ some a) ∧ ∀ i, a ∉ ow.n i
structure Rel (K : PySem.W.Frag) (fl : List Fl) (G : Gh) (ow : Ow) (σ : St) (H : Hp) (δ : DS) : Prop where
  s0 : Same G.H0 G.HF
  s1 : Same G.HF H
  len : σ.length = δ.length
  own : ∀ i a, ow i = some a → G.H0 a = none ∧ ((fl[i]? = some .O ∧ G.HF a = none) ∨ (fl[i]? = some .L ∧ ∃ xs, G.HF a = some (.lst xs))) ∧
    ∃ xs ds, σ[i]? = some (some (.ref a)) ∧ H a = some (.lst xs) ∧ RAs K (okA ow) true H xs ds ∧ δ[i]? = some (some (.d (.list ds)))
  inj : ∀ i j a, ow i = some a → ow j = some a → i = j
  pin : ∀ i, fl[i]? = some .L → ow i = G.pk i
  dat : ∀ i d, δ[i]? = some (some (.d d)) → isN fl[i]? = false → ow i = none → ∃ v, σ[i]? = some (some v) ∧ RA K (okA ow) true H v d
  oo : ∀ i d, δ[i]? = some (some (.d d)) → isN fl[i]? = false → fl[i]? ≠ some .A → ow i = none → flat d = true
  nt : ∀ i a, a ∈ ow.n i → G.H0 a = none ∧ Chd (H a) ∧ ((fl[i]? = some .N ∧ G.HF a = none) ∨ fl[i]? = some .M)
  nd : ∀ i j a, a ∈ ow.n i → a ∈ ow.n j → i = j
  ns : ∀ i j a, a ∈ ow.n i → ow j ≠ some a
  np : ∀ i, fl[i]? = some .M → ow.n i = G.pn i
  nr : ∀ i d, isN fl[i]? = true → δ[i]? = some (some (.d d)) → ∃ v, σ[i]? = some (some v) ∧ RT K H v d (ow.n i) ∧ (ow.n i).Nodup
theorem Rel.tb {K : PySem.W.Frag} {fl : List Fl} {G : Gh} {ow : Ow} {σ : St} {H : Hp} {δ : DS} (R : Rel K fl G ow σ H δ) : Tb H := G.tb.same (R.s0.trans R.s1)
theorem Rel.same0 {K : PySem.W.Frag} {fl : List Fl} {G : Gh} {ow : Ow} {σ : St} {H : Hp} {δ : DS} (R : Rel K fl G ow σ H δ) : Same G.H0 H := R.s0.trans R.s1
theorem Rel.grow {K : PySem.W.Frag} {fl : List Fl} {G : Gh} {ow : Ow} {σ : St} {H H' : Hp} {δ : DS} (R : Rel K fl G ow σ H δ) (e : Same H H') : Rel K fl G ow σ H' δ :=
  ⟨R.s0, R.s1.trans e, R.len, fun i a h => by
    obtain ⟨h0, hf, xs, ds, h1, h2, h3, h4⟩ := R.own i a h
    exact ⟨h0, hf, xs, ds, h1, e _ _ h2, h3.same e, h4⟩, R.inj, R.pin, fun i d h1 hn h2 => by
    obtain ⟨v, h3, h4⟩ := R.dat i d h1 hn h2
    exact ⟨v, h3, h4.same e⟩, R.oo, fun i a h => by
    obtain ⟨h1, h2, h3⟩ := R.nt i a h
    exact ⟨h1, (let ⟨u, z, c⟩ := h2; ⟨u, e _ _ z, c⟩), h3⟩, R.nd, R.ns, R.np, fun i d h1 h2 => by
    obtain ⟨v, h3, h4, h5⟩ := R.nr i d h1 h2
    exact ⟨v, h3, h4.same e, h5⟩⟩
inductive Kd where
  | P
  | B (L : List Nat)
  | A
  | R
  | F
  | C
  | FC
  | T
def ok1 : Ok := fun _ => True
def ok0 : Ok := fun _ => False
def okN (H : Hp) : Ok := fun a => H a = none
def Rs (K : PySem.W.Frag) (H0 : Hp) (ow : Ow) (Hb H : Hp) : Kd → V → D → Prop
  | .P, v, d => RA K ok1 true H v d
  | .B L, v, d => RA K (okA ow) true H v d ∨ ∃ i ∈ L, ∃ a xs ds, ow i = some a ∧ v = .ref a ∧ d = .list ds ∧ H a = some (.lst xs) ∧ RAs K (okA ow) true H xs ds
  | .A, v, d => RA K (okA ow) true H v d
  | .R, v, d => RA K (okN H0) false H v d
  | .F, v, d => (flat d = true ∧ RA K ok0 false H v d) ∨ ∃ a xs ds, v = .ref a ∧ d = .list ds ∧ Hb a = none ∧ H a = some (.lst xs) ∧ RAs K (fun b => okA ow b ∧ b ≠ a) true H xs ds
  | .C, v, d => RA K (okN Hb) false H v d
  | .T, v, d => ∃ as, RT K H v d as ∧ as.Nodup ∧ ∀ a ∈ as, Hb a = none
  | .FC, v, d => (flat d = true ∧ RA K ok0 false H v d) ∨ ∃ a xs ds, v = .ref a ∧ d = .list ds ∧ Hb a = none ∧ H a = some (.lst xs) ∧ RAs K (fun b => okN Hb b ∧ b ≠ a) false H xs ds
section
variable {K : PySem.W.Frag} {Hb H H' : Hp} {fl : List Fl} {G : Gh} {ow : Ow} {σ : St} {δ : DS} {v : V} {d : D}
theorem okA_new (R : Rel K fl G ow σ Hb δ) {a : Addr} (h : Hb a = none) : okA ow a := ⟨fun i e => (by
  obtain ⟨_, _, xs, _, _, h2, _⟩ := R.own i a e
  rw [h] at h2
  cases h2), fun i e => (R.nt i a e).2.1.ne h⟩
theorem okN_0 (R : Rel K fl G ow σ Hb δ) {a : Addr} (h : Hb a = none) : okN G.H0 a := R.same0.free h
theorem Rs.FC_F (R : Rel K fl G ow σ Hb δ) (h : Rs K G.H0 ow Hb H .FC v d) : Rs K G.H0 ow Hb H .F v d := by
  rcases h with h | ⟨a, xs, ds, h1, h2, h3, h4, h5⟩
  · exact .inl h
  · exact .inr ⟨a, xs, ds, h1, h2, h3, h4, h5.imp (fun b z => ⟨okA_new R z.1, z.2⟩) (fun _ => rfl)⟩
theorem Rs.FC_C (h : Rs K G.H0 ow Hb H .FC v d) : Rs K G.H0 ow Hb H .C v d := by
  rcases h with h | ⟨a, xs, ds, rfl, rfl, h3, h4, h5⟩
  · exact RA.flat h.1 h.2
  · exact .lst h4 h3 (h5.imp (fun b z => z.1) (fun z => z))
theorem Rs.F_A (R : Rel K fl G ow σ Hb δ) (h : Rs K G.H0 ow Hb H .F v d) : Rs K G.H0 ow Hb H .A v d := by
  rcases h with h | ⟨a, xs, ds, rfl, rfl, h3, h4, h5⟩
  · exact RA.flat h.1 h.2
  · exact .lst h4 (okA_new R h3) (h5.imp (fun b z => z.1) (fun z => z))
theorem Rs.C_A (R : Rel K fl G ow σ Hb δ) (h : Rs K G.H0 ow Hb H .C v d) : Rs K G.H0 ow Hb H .A v d := RA.imp (fun _ z => okA_new R z) (fun _ => rfl) h
theorem Rs.C_R (R : Rel K fl G ow σ Hb δ) (h : Rs K G.H0 ow Hb H .C v d) : Rs K G.H0 ow Hb H .R v d := RA.imp (fun _ z => okN_0 R z) (fun z => z) h
theorem Rs.A_B (L : List Nat) (h : Rs K G.H0 ow Hb H .A v d) : Rs K G.H0 ow Hb H (.B L) v d := .inl h
theorem Rs.B_P {L : List Nat} (h : Rs K G.H0 ow Hb H (.B L) v d) : Rs K G.H0 ow Hb H .P v d := by
  rcases h with h | ⟨i, _, a, xs, ds, _, rfl, rfl, h4, h5⟩
  · exact RA.imp (fun _ _ => trivial) (fun z => z) h
  · exact .lst h4 trivial (h5.imp (fun _ _ => trivial) (fun z => z))
theorem Rs.P_flat (hf : flat d = true) (h : Rs K G.H0 ow Hb H .P v d) : Rs K G.H0 ow Hb H .FC v d := .inl ⟨hf, RA.flat hf h⟩
theorem Rs.C_fl1 (hf : fl1 d = true) (h : Rs K G.H0 ow Hb H .C v d) : Rs K G.H0 ow Hb H .FC v d := by
  by_cases e : ∃ ds, d = .list ds
  · obtain ⟨ds, rfl⟩ := e
    cases h with
    | lst e k q => exact .inr ⟨_, _, _, rfl, rfl, k, e, RAs.flat hf q⟩
    | lsk e k q => cases k
  · have hf' : flat d = true := by
      cases d <;> first | exact hf | exact absurd ⟨_, rfl⟩ e
    exact .inl ⟨hf', RA.flat hf' h⟩
end
def tD (K : PySem.W.Frag) (fl : List Fl) (k : Kd) (f : FE) : TE := fun σ H Q => ∃ G ow δ d, Rel K fl G ow σ H δ ∧ f δ = some d ∧ ∀ v H', Same H H' → Rs K G.H0 ow H H' k v d → Q v H'
abbrev DE (X : Cx) (fl : List Fl) (k : Kd) (e : Expr) (f : FE) : Prop := PE X e (tD X.K fl k f)
def tDA (K : PySem.W.Frag) (fl : List Fl) (f : FA) : TA := fun σ H Q => ∃ G ow δ ds, Rel K fl G ow σ H δ ∧ f δ = some ds ∧ ∀ vs H', Same H H' → RAs K ok1 true H' vs ds → Q vs H'
abbrev DA (X : Cx) (fl : List Fl) (es : List Expr) (f : FA) : Prop := PA X es (tDA X.K fl f)
def tDT (K : PySem.W.Frag) (fl : List Fl) (f : FT) : TT := fun σ H Q => ∃ G ow δ b, Rel K fl G ow σ H δ ∧ f δ = some b ∧ ∀ H', Same H H' → Q b H'
abbrev DT (X : Cx) (fl : List Fl) (e : Expr) (f : FT) : Prop := PT X e (tDT X.K fl f)
abbrev DW (X : Cx) (fl : List Fl) (e : Expr) (f : FT) : Prop := PW X e (tDT X.K fl f)
def EndD (K : PySem.W.Frag) (fl : List Fl) (G : Gh) (Dn : Ends) : Oc → Prop
  | .nx δ' => ∀ ow' σ' H', Rel K fl G ow' σ' H' δ' → Dn.nx σ' H'
  | .rt d => ∀ v H', Same G.H0 H' → RA K (okN G.H0) false H' v d → Dn.rt v H'
  | .bk δ' => ∀ ow' σ' H', Rel K fl G ow' σ' H' δ' → Dn.bk σ' H'
  | .ct δ' => ∀ ow' σ' H', Rel K fl G ow' σ' H' δ' → Dn.ct σ' H'
  | .ex _ _ d => ∀ v H', Same G.H0 H' → RA K ok1 true H' v d → Dn.rt v H'
def tDS (K : PySem.W.Frag) (fl : List Fl) (f : FS) : TS := fun Dn σ H => ∃ G ow δ o, Rel K fl G ow σ H δ ∧ f δ = some o ∧ EndD K fl G Dn o
abbrev DS1 (X : Cx) (fl : List Fl) (s : Stmt) (f : FS) : Prop := PS X s (tDS X.K fl f)
abbrev DSs (X : Cx) (fl : List Fl) (s : List Stmt) (f : FS) : Prop := PSs X s (tDS X.K fl f)
def tDG (K : PySem.W.Frag) (fl : List Fl) (tg : List Nat) (g : FG) : TG := fun v σ H Q => ∃ G ow δ d δ', Rel K fl G ow σ H δ ∧ RA K (okA ow) true H v d ∧ g d δ = some δ' ∧ ∀ σ', Rel K fl G ow σ' H δ' → (∀ j, j ∉ tg → σ'[j]? = σ[j]?) → Q σ' H
abbrev DG (X : Cx) (fl : List Fl) (tg : List Nat) (e : Expr) (g : FG) : Prop := PG X e (tDG X.K fl tg g)
section
variable {X : Cx} {e : Expr} {es : List Expr} {st : Stmt} {sts : List Stmt}
theorem PE.imp {t t' : TE} (h : PE X e t) (i : ∀ σ H Q, t' σ H Q → t σ H Q) : PE X e t' := fun pins s σ H Q I q => h pins s σ H Q I (i σ H Q q)
theorem PT.imp {t t' : TT} (h : PT X e t) (i : ∀ σ H Q, t' σ H Q → t σ H Q) : PT X e t' := fun pins s σ H Q I q => h pins s σ H Q I (i σ H Q q)
theorem PW.imp {t t' : TT} (h : PW X e t) (i : ∀ σ H Q, t' σ H Q → t σ H Q) : PW X e t' := fun w pins s σ H Q I q => h w pins s σ H Q I (i σ H Q q)
theorem PA.imp {t t' : TA} (h : PA X es t) (i : ∀ σ H Q, t' σ H Q → t σ H Q) : PA X es t' := fun p pins s σ H Q I q => h p pins s σ H Q I (i σ H Q q)
theorem PS.imp {t t' : TS} (h : PS X st t) (i : ∀ D σ H, t' D σ H → t D σ H) : PS X st t' := fun pins s σ H D I q => h pins s σ H D I (i D σ H q)
theorem PSs.imp {t t' : TS} (h : PSs X sts t) (i : ∀ D σ H, t' D σ H → t D σ H) : PSs X sts t' := fun pins s σ H D I q => h pins s σ H D I (i D σ H q)
theorem PG.imp {t t' : TG} (h : PG X e t) (i : ∀ v σ H Q, t' v σ H Q → t v σ H Q) : PG X e t' := fun pins s σ H v u Q I r q => h pins s σ H v u Q I r (i v σ H Q q)
end
end D3
namespace D3
open PySem PySem.Spec PyProof.Rows L2 My
section
variable {X : Cx} {fl : List Fl} {e a b c : Expr} {es : List Expr} {k : Kd} {f fa fb fc : FE} {pos : Pos}
theorem dVar_eq {i : Nat} {δ : DS} {d : D} (h : dVar i δ = some d) : δ[i]? = some (some (.d d)) := by
  unfold dVar at h
  split at h
  · next x e => rw [e]; cases h; rfl
  · cases h
theorem de_var (i : Nat) {x : Str} (hN : X.N[i]? = some x := by rfl) (hv : Vis X.env.scope x := by first | exact Or.inl rfl | exact Or.inr (Or.inl rfl) | exact Or.inr (Or.inr rfl)) (hd : (x == ("__debug__" : Str)) = false := by decide)
    (hcd : (x == ("__classdict__" : Str)) = false := by decide) (hn : isN fl[i]? = false := by rfl) : DE X fl (.B [i]) (.Name x pos) (dVar i) := by
  refine PE.imp (pe_var hN hv hd hcd) fun σ H Q h => ?_
  obtain ⟨G, ow, δ, d, R, hf, q⟩ := h
  have e := dVar_eq hf
  cases ho : ow i with
  | none =>
    obtain ⟨v, h1, h2⟩ := R.dat i d e hn ho
    exact ⟨v, h1, q v H (Same.refl H) (.inl h2)⟩
  | some a =>
    obtain ⟨h0, _, xs, ds, h1, h2, h3, h4⟩ := R.own i a ho
    rw [e] at h4
    cases h4
    exact ⟨_, h1, q _ H (Same.refl H) (.inr ⟨i, List.mem_singleton.mpr rfl, a, xs, ds, ho, rfl, rfl, h2, h3⟩)⟩
theorem de_varA (i : Nat) (hfl : fl[i]? = some .A) {x : Str} (hN : X.N[i]? = some x := by rfl) (hv : Vis X.env.scope x := by first | exact Or.inl rfl | exact Or.inr (Or.inl rfl) | exact Or.inr (Or.inr rfl)) (hd : (x == ("__debug__" : Str)) = false := by decide)
    (hcd : (x == ("__classdict__" : Str)) = false := by decide) : DE X fl .A (.Name x pos) (dVar i) := by
  refine PE.imp (pe_var hN hv hd hcd) fun σ H Q h => ?_
  obtain ⟨G, ow, δ, d, R, hf, q⟩ := h
  have e := dVar_eq hf
  cases ho : ow i with
  | none =>
    obtain ⟨v, h1, h2⟩ := R.dat i d e (by rw [hfl]; rfl) ho
    exact ⟨v, h1, q v H (Same.refl H) h2⟩
  | some a =>
    obtain ⟨h0, hz, _⟩ := R.own i a ho
    rw [hfl] at hz
    rcases hz with ⟨z, _⟩ | ⟨z, _⟩ <;> cases z
theorem de_varR (i : Nat) (hfl : fl[i]? ≠ some .A) {x : Str} (hN : X.N[i]? = some x := by rfl) (hv : Vis X.env.scope x := by first | exact Or.inl rfl | exact Or.inr (Or.inl rfl) | exact Or.inr (Or.inr rfl)) (hd : (x == ("__debug__" : Str)) = false := by decide)
    (hcd : (x == ("__classdict__" : Str)) = false := by decide) (hn : isN fl[i]? = false := by rfl) : DE X fl .R (.Name x pos) (dFl1 (dVar i)) := by
  refine PE.imp (pe_var hN hv hd hcd) fun σ H Q h => ?_
  obtain ⟨G, ow, δ, d, R, hf, q⟩ := h
  unfold dFl1 at hf
  cases hv' : dVar i δ with
  | none => rw [hv'] at hf; cases hf
  | some d' =>
    rw [hv', Option.bind_some] at hf
    by_cases hc : fl1 d' = true
    · rw [if_pos hc] at hf
      cases hf
      have e := dVar_eq hv'
      cases ho : ow i with
      | none =>
        obtain ⟨v, h1, h2⟩ := R.dat i d e hn ho
        exact ⟨v, h1, q v H (Same.refl H) (RA.flat (R.oo i d e hn hfl ho) h2)⟩
      | some a =>
        obtain ⟨h0, _, xs, ds, h1, h2, h3, h4⟩ := R.own i a ho
        rw [e] at h4
        cases h4
        exact ⟨_, h1, q _ H (Same.refl H) (.lst h2 h0 (RAs.flat hc h3))⟩
    · rw [if_neg hc] at hf
      cases hf
theorem de_cast {k k' : Kd} (h : DE X fl k e f) (hc : ∀ (Hb H : Hp) (G : Gh) (ow : Ow) (σ : St) (δ : DS) (v : V) (d : D), Rel X.K fl G ow σ Hb δ → Rs X.K G.H0 ow Hb H k v d → Rs X.K G.H0 ow Hb H k' v d) : DE X fl k' e f := by
  refine PE.imp h fun σ H Q h => ?_
  obtain ⟨G, ow, δ, d, R, hf, q⟩ := h
  exact ⟨G, ow, δ, d, R, hf, fun v H' s r => q v H' s (hc _ _ G ow σ δ v d R r)⟩
theorem de_guard {k k' : Kd} {p : D → Bool} (h : DE X fl k e f) (hc : ∀ (Hb H : Hp) (G : Gh) (ow : Ow) (σ : St) (δ : DS) (v : V) (d : D), p d = true → Rel X.K fl G ow σ Hb δ → Rs X.K G.H0 ow Hb H k v d → Rs X.K G.H0 ow Hb H k' v d) :
    DE X fl k' e (fun δ => (f δ).bind fun d => if p d = true then some d else none) := by
  refine PE.imp h fun σ H Q h => ?_
  obtain ⟨G, ow, δ, d, R, hf, q⟩ := h
  dsimp only at hf
  cases hv : f δ with
  | none => rw [hv] at hf; cases hf
  | some d' =>
    rw [hv, Option.bind_some] at hf
    by_cases hp : p d' = true
    · rw [if_pos hp] at hf
      cases hf
      exact ⟨G, ow, δ, d, R, hv, fun v H' s r => q v H' s (hc _ _ G ow σ δ v d hp R r)⟩
    · rw [if_neg hp] at hf
      cases hf
theorem c_FC_F (h : DE X fl .FC e f) : DE X fl .F e f := de_cast h fun _ _ _ _ _ _ _ _ R r => r.FC_F R
theorem c_FC_C (h : DE X fl .FC e f) : DE X fl .C e f := de_cast h fun _ _ _ _ _ _ _ _ R r => r.FC_C
theorem c_F_A (h : DE X fl .F e f) : DE X fl .A e f := de_cast h fun _ _ _ _ _ _ _ _ R r => r.F_A R
theorem c_C_A (h : DE X fl .C e f) : DE X fl .A e f := de_cast h fun _ _ _ _ _ _ _ _ R r => r.C_A R
theorem c_C_R (h : DE X fl .C e f) : DE X fl .R e f := de_cast h fun _ _ _ _ _ _ _ _ R r => r.C_R R
theorem c_A_B (h : DE X fl .A e f) : DE X fl (.B []) e f := de_cast h fun _ _ _ _ _ _ _ _ R r => Rs.A_B [] r
theorem c_B_P {L : List Nat} (h : DE X fl (.B L) e f) : DE X fl .P e f := de_cast h fun _ _ _ _ _ _ _ _ R r => r.B_P
theorem c_flat (h : DE X fl .P e f) : DE X fl .FC e (dFlat f) := de_guard h fun _ _ _ _ _ _ _ _ hf R r => r.P_flat hf
theorem c_FC_A (h : DE X fl .FC e f) : DE X fl .A e f := c_F_A (c_FC_F h)
theorem c_FC_R (h : DE X fl .FC e f) : DE X fl .R e f := c_C_R (c_FC_C h)
theorem c_A_P (h : DE X fl .A e f) : DE X fl .P e f := c_B_P (c_A_B h)
theorem c_C_P (h : DE X fl .C e f) : DE X fl .P e f := c_A_P (c_C_A h)
theorem c_FC_P (h : DE X fl .FC e f) : DE X fl .P e f := c_A_P (c_FC_A h)
theorem de_cst {v : V} {d : D} (h : PE X e (tC v)) (hf : flat d = true) (hr : ∀ H, RA X.K ok0 false H v d) : DE X fl .FC e (dC d) := by
  refine PE.imp h fun σ H Q h => ?_
  obtain ⟨G, ow, δ, d', R, hd, q⟩ := h
  cases hd
  exact q v H (Same.refl H) (.inl ⟨hf, hr H⟩)
theorem de_int {i j pos} : DE X fl .FC (.Constant (.int i) j pos) (dC (.int i)) := de_cst pe_int rfl fun _ => .int _
theorem de_bl {b j pos} : DE X fl .FC (.Constant (.bool b) j pos) (dC (.bool b)) := de_cst pe_bl rfl fun _ => .bl _
theorem de_non {j pos} : DE X fl .FC (.Constant .none j pos) (dC .none) := de_cst pe_non rfl fun _ => .non
theorem de_str {x j pos} : DE X fl .FC (.Constant (.str x) j pos) (dC (.str x)) := de_cst pe_str rfl fun _ => .str _
theorem de_glob {x : Str} {i : Int} {pos : Pos} (h : ∃ t, X.mg x = some (.int i t)) (hg : Gl X x := by rfl) (hd : (x == ("__debug__" : Str)) = false := by decide) : DE X fl .FC (.Name x pos) (dC (.int i)) := by
  obtain ⟨t, h⟩ := h
  exact de_cst (pe_glob (v := .int i) hg h ⟨t, rfl⟩ hd) rfl fun _ => .int _
def BrO (K : PySem.W.Frag) (r : R2) (g : D → D → Option D) : Prop := ∀ (H : Hp) (x y : V) (dx dy d : D) (Q : VK), RA K ok1 true H x dx → RA K ok1 true H y dy → g dx dy = some d → (∀ v, flat d = true → RA K ok0 false H v d → Q v H) → r x y H Q
theorem bind2 {fa fb : FE} {g : D → D → Option D} {δ : DS} {d : D} (h : dOp g fa fb δ = some d) : ∃ x y, fa δ = some x ∧ fb δ = some y ∧ g x y = some d := by
  unfold dOp at h
  cases ha : fa δ with
  | none => rw [ha] at h; cases h
  | some x =>
    rw [ha, Option.bind_some] at h
    cases hb : fb δ with
    | none => rw [hb] at h; cases h
    | some y =>
      rw [hb, Option.bind_some] at h
      exact ⟨x, y, rfl, rfl, h⟩
theorem bind1 {α β : Type} {x : Option α} {g : α → Option β} {d : β} (h : x.bind g = some d) : ∃ y, x = some y ∧ g y = some d := by
  cases x with
  | none => cases h
  | some y => exact ⟨y, rfl, h⟩
theorem op_bridge {r : R2} {g : D → D → Option D} {σ : St} {H : Hp} {Q : VK} (hb : BrO X.K r g) (h : tD X.K fl .FC (dOp g fa fb) σ H Q) : tOp r (tD X.K fl .P fa) (tD X.K fl .P fb) σ H Q := by
  obtain ⟨G, ow, δ, d, R, hf, q⟩ := h
  obtain ⟨x, y, e1, e2, e3⟩ := bind2 hf
  refine ⟨G, ow, δ, x, R, e1, fun v H1 s1 r1 => ⟨G, ow, δ, y, R.grow s1, e2, fun u H2 s2 r2 => ?_⟩⟩
  exact hb H2 v u x y d Q (RA.same s2 r1) r2 e3 fun z hz rz => q z H2 (s1.trans s2) (.inl ⟨hz, rz⟩)
theorem de_op {op : Operator} {r : R2} {g : D → D → Option D} (ho : OpR X (binaryOp op) r) (hb : BrO X.K r g) (h1 : DE X fl .P a fa) (h2 : DE X fl .P b fb) : DE X fl .FC (.BinOp a op b pos) (dOp g fa fb) :=
  PE.imp (pe_op ho h1 h2) fun _ _ _ h => op_bridge hb h
theorem de_cmp {op : CmpOp} {r : R2} {g : D → D → Option D} (ho : OpR X (compareOp op) r) (hb : BrO X.K r g) (h1 : DE X fl .P a fa) (h2 : DE X fl .P b fb) (hm : behindInMarks op b = false) : DE X fl .FC (.Compare a [op] [b] pos) (dOp g fa fb) :=
  PE.imp (pe_cmpR ho h1 h2 hm) fun _ _ _ h => op_bridge hb h
theorem dt_cmp {op : CmpOp} {r : R2} {g : D → D → Option D} (ho : OpR X (compareOp op) r) (hb : BrO X.K r g) (h1 : DE X fl .P a fa) (h2 : DE X fl .P b fb) (hm : behindInMarks op b = false) : DT X fl (.Compare a [op] [b] pos) (tBool (dOp g fa fb)) := by
  refine PT.imp (pt_cmpR ho h1 h2 hm) fun σ H Q h => ?_
  obtain ⟨G, ow, δ, c, R, hf, q⟩ := h
  obtain ⟨d, e1, e2⟩ := bind1 hf
  cases d <;> first | (cases e2; done) | skip
  cases e2
  refine op_bridge (fl := fl) (fa := fa) (fb := fb) hb ⟨G, ow, δ, _, R, e1, fun v H' s r => ?_⟩
  obtain rfl := (Rs.FC_C r).blE
  exact ⟨_, rfl, q H' s⟩
theorem dt_val (h : DE X fl .P e f) (he : ∀ whole, isTrue e X.env whole = (do let v ← whole; standAt e.pos; holding [v] (truthy v)) := by intro _; rfl) : DT X fl e (tBool f) := by
  refine PT.imp (pt_val h he) fun σ H Q h => ?_
  obtain ⟨G, ow, δ, c, R, hf, q⟩ := h
  obtain ⟨d, e1, e2⟩ := bind1 hf
  cases d <;> first | (cases e2; done) | skip
  cases e2
  refine ⟨G, ow, δ, _, R, e1, fun v H' s r => ?_⟩
  obtain rfl := RA.blE r
  exact ⟨_, rfl, q H' s⟩
theorem br_I0 {K : PySem.W.Frag} {h : Int → Int → V} {g : Int → Int → D} (hf : ∀ i j, flat (g i j) = true) (hr : ∀ H i j, RA K ok0 false H (h i j) (g i j)) : BrO K (rI0 h) (gI fun i j => some (g i j)) := by
  intro H x y dx dy d Q rx ry e q
  unfold gI at e
  split at e
  · next i j =>
    cases e
    exact ⟨i, j, rx.intE, ry.intE, q _ (hf i j) (hr H i j)⟩
  · cases e
theorem br_I {K : PySem.W.Frag} {C : Int → Int → Prop} {h : Int → Int → V} {g : Int → Int → D} {c : Int → Int → Bool} (hc : ∀ i j, c i j = true → C i j) (hf : ∀ i j, flat (g i j) = true) (hr : ∀ H i j, RA K ok0 false H (h i j) (g i j)) :
    BrO K (rI C h) (gI fun i j => if c i j = true then some (g i j) else none) := by
  intro H x y dx dy d Q rx ry e q
  unfold gI at e
  split at e
  · next i j =>
    dsimp only at e
    by_cases z : c i j = true
    · rw [if_pos z] at e
      cases e
      exact ⟨i, j, rx.intE, ry.intE, hc i j z, q _ (hf i j) (hr H i j)⟩
    · rw [if_neg z] at e
      cases e
  · cases e
end
section
variable {X : Cx} {K : PySem.W.Frag}
theorem mulG_ok {i j : Int} (h : mulG i j = true) : IntMulOk i j := by
  unfold mulG at h
  rw [Bool.or_eq_true, Bool.or_eq_true, Bool.and_eq_true] at h
  rcases h with (h | h) | ⟨h1, h2⟩
  · exact IntMulOk.of_left (PySem.intBits_le_iff.mpr (of_decide_eq_true h))
  · exact IntMulOk.of_right (PySem.intBits_le_iff.mpr (of_decide_eq_true h))
  · exact PySem.IntMulOk.of_le (PySem.intBits_le_iff.mpr (of_decide_eq_true h1)) (PySem.intBits_le_iff.mpr (of_decide_eq_true h2)) (by decide)
theorem op_mulG : OpR X (binaryOp .Mult) (rI (fun i j => mulG i j = true) fun i j => .int (i * j)) := opI fun _ _ _ _ _ _ _ hc q => mul_int q (mulG_ok hc)
theorem op_divG : OpR X (binaryOp .FloorDiv) (rI (fun i j => divG i j = true) fun i j => .int (i.fdiv j)) := opI fun i j _ _ _ _ _ hc q => by
  unfold divG at hc
  rw [Bool.and_eq_true] at hc
  have h1 := of_decide_eq_true hc.1
  have h2 := of_decide_eq_true hc.2
  refine floordiv_int h1 q (.inl (PyProof.noPylong_of_log2 ?_))
  exact (Nat.log2_lt (by omega)).mpr h2
theorem powG_ok {i j : Int} (h : powG i j = true) : CPow i j := by
  unfold powG at h
  rw [Bool.and_eq_true, Bool.and_eq_true] at h
  have h1 := of_decide_eq_true h.1.1
  have h2 := of_decide_eq_true h.1.2
  exact ⟨h1, by omega, of_decide_eq_true h.2⟩
theorem b_add : BrO K (rI0 fun i j => .int (i + j)) gAdd := br_I0 (fun _ _ => rfl) fun _ _ _ => .int _
theorem b_mul : BrO K (rI (fun i j => mulG i j = true) fun i j => .int (i * j)) gMul := br_I (fun _ _ h => h) (fun _ _ => rfl) fun _ _ _ => .int _
theorem b_div : BrO K (rI (fun i j => divG i j = true) fun i j => .int (i.fdiv j)) gDiv := br_I (fun _ _ h => h) (fun _ _ => rfl) fun _ _ _ => .int _
theorem b_mod : BrO K (rI (fun _ j => j ≠ 0) fun i j => .int (i.fmod j)) gMod := br_I (fun _ _ h => of_decide_eq_true h) (fun _ _ => rfl) fun _ _ _ => .int _
theorem b_pow : BrO K (rI CPow fun i j => .int (i ^ j.toNat)) gPow := br_I (fun _ _ h => powG_ok h) (fun _ _ => rfl) fun _ _ _ => .int _
theorem b_lt : BrO K (rI0 fun i j => .bl (decide (i < j))) gLt := br_I0 (fun _ _ => rfl) fun _ _ _ => .bl _
theorem b_le : BrO K (rI0 fun i j => .bl (decide (i ≤ j))) gLe := br_I0 (fun _ _ => rfl) fun _ _ _ => .bl _
theorem b_gt : BrO K (rI0 fun i j => .bl (decide (j < i))) gGt := br_I0 (fun _ _ => rfl) fun _ _ _ => .bl _
theorem b_ge : BrO K (rI0 fun i j => .bl (decide (j ≤ i))) gGe := br_I0 (fun _ _ => rfl) fun _ _ _ => .bl _
theorem b_eq : BrO K (rEqD K) gEq := by
  intro H x y dx dy d Q rx ry e q
  unfold gEq at e
  by_cases z : (SeqAt.shaped dx && SeqAt.shaped dy) = true
  · rw [if_pos z] at e
    cases e
    rw [Bool.and_eq_true] at z
    exact ⟨dx, dy, rx.rd (SeqAt.canLay_of_shaped z.1), ry.rd (SeqAt.canLay_of_shaped z.2), z.1, z.2, q _ rfl (.bl _)⟩
  · rw [if_neg z] at e
    cases e
theorem b_ne : BrO K (rNeD K) gNe := by
  intro H x y dx dy d Q rx ry e q
  unfold gNe at e
  by_cases z : (SeqAt.shaped dx && SeqAt.shaped dy) = true
  · rw [if_pos z] at e
    cases e
    rw [Bool.and_eq_true] at z
    exact ⟨dx, dy, rx.rd (SeqAt.canLay_of_shaped z.1), ry.rd (SeqAt.canLay_of_shaped z.2), z.1, z.2, q _ rfl (.bl _)⟩
  · rw [if_neg z] at e
    cases e
end
end D3
namespace D3
open PySem PySem.Spec PyProof.Rows L2 My
section
variable {X : Cx} {fl : List Fl} {e a b c : Expr} {es : List Expr} {st : Stmt} {sts body orelse : List Stmt} {k : Kd} {f fa fb fc : FE} {fs gs : FS} {ft gt : FT} {pos : Pos}
theorem EndD.nx_imp {K : PySem.W.Frag} {G : Gh} {Dn : Ends} {N : St → Hp → Prop} {o : Oc} (h : EndD K fl G Dn o) (hn : ∀ δ', o ≠ .nx δ') : EndD K fl G { Dn with nx := N } o := by
  cases o with
  | nx δ' => exact absurd rfl (hn δ')
  | rt d => exact h
  | bk δ' => exact h
  | ct δ' => exact h
  | ex c f v => exact h
theorem dss_nil : DSs X fl [] sNil := PSs.imp pss_nil fun Dn σ H h => by
  obtain ⟨G, ow, δ, o, R, hf, q⟩ := h
  cases hf
  exact q ow σ H R
theorem dss_cons (h1 : DS1 X fl st fs) (h2 : DSs X fl sts gs) : DSs X fl (st :: sts) (sSeq fs gs) := PSs.imp (pss_cons h1 h2) fun Dn σ H h => by
  obtain ⟨G, ow, δ, o, R, hf, q⟩ := h
  obtain ⟨o1, e1, e2⟩ := bind1 hf
  refine ⟨G, ow, δ, o1, R, e1, ?_⟩
  cases o1 with
  | nx δ' => exact fun ow' σ' H' R' => ⟨G, ow', δ', o, R', e2, q⟩
  | rt d => cases e2; exact EndD.nx_imp q (fun _ z => by cases z)
  | bk d => cases e2; exact EndD.nx_imp q (fun _ z => by cases z)
  | ct d => cases e2; exact EndD.nx_imp q (fun _ z => by cases z)
  | ex c f v => cases e2; exact q
theorem dss_one (h1 : DS1 X fl st fs) : DSs X fl [st] fs := PSs.imp (pss_one h1) fun _ _ _ h => h
theorem ds_ret (h : DE X fl .R e f) : DS1 X fl (.Return (some e) pos) (sRet f) := PS.imp (ps_ret h) fun Dn σ H h => by
  obtain ⟨G, ow, δ, o, R, hf, q⟩ := h
  obtain ⟨d, e1, e2⟩ := bind1 hf
  cases e2
  exact ⟨G, ow, δ, d, R, e1, fun v H' s r => q v H' (R.same0.trans s) r⟩
theorem ds_if (hc : DT X fl c ft) (h1 : DSs X fl body fs) (h2 : DSs X fl orelse gs) : DS1 X fl (.If c body orelse pos) (sIf ft fs gs) := PS.imp (ps_if hc h1 h2) fun Dn σ H h => by
  obtain ⟨G, ow, δ, o, R, hf, q⟩ := h
  obtain ⟨t, e1, e2⟩ := bind1 hf
  refine ⟨G, ow, δ, t, R, e1, fun H' s => ?_⟩
  cases t with
  | true => exact iteT ⟨G, ow, δ, o, R.grow s, e2, q⟩
  | false => exact iteF ⟨G, ow, δ, o, R.grow s, e2, q⟩
theorem set_get {α : Type} {l : List (Option α)} {i j : Nat} {x y : α} (h : (l.set i (some x))[j]? = some (some y)) : (j = i ∧ x = y) ∨ (j ≠ i ∧ l[j]? = some (some y)) := by
  rw [List.getElem?_set] at h
  by_cases e : i = j
  · subst e
    rw [if_pos rfl] at h
    by_cases z : i < l.length
    · rw [if_pos z] at h
      cases h
      exact .inl ⟨rfl, rfl⟩
    · rw [if_neg z] at h
      cases h
  · rw [if_neg e] at h
    exact .inr ⟨fun z => e z.symm, h⟩
theorem Rel.setA {K : PySem.W.Frag} {G : Gh} {ow : Ow} {σ : St} {H : Hp} {δ : DS} {i : Nat} {v : V} {d : D} (R : Rel K fl G ow σ H δ) (hfl : fl[i]? = some .A) (hi : i < σ.length) (r : RA K (okA ow) true H v d) :
    Rel K fl G ow (σ.set i (some v)) H (δ.set i (some (.d d))) := by
  have no : ∀ a, ow i ≠ some a := fun a z => by
    obtain ⟨_, hz, _⟩ := R.own i a z
    rw [hfl] at hz
    rcases hz with ⟨z, _⟩ | ⟨z, _⟩ <;> cases z
  refine ⟨R.s0, R.s1, by rw [List.length_set, List.length_set]; exact R.len, fun j a h => ?_, R.inj, R.pin, fun j d' h1 hn h2 => ?_, fun j d' h1 hn h2 h3 => ?_, R.nt, R.nd, R.ns, R.np, fun j d' hn h1 => ?_⟩
  · have hj : j ≠ i := fun z => no a (z ▸ h)
    obtain ⟨h0, hf, xs, ds, h1, h2, h3, h4⟩ := R.own j a h
    exact ⟨h0, hf, xs, ds, by rw [List.getElem?_set_ne (Ne.symm hj)]; exact h1, h2, h3, by rw [List.getElem?_set_ne (Ne.symm hj)]; exact h4⟩
  · rcases set_get h1 with ⟨rfl, e⟩ | ⟨hj, e⟩
    · cases e
      exact ⟨v, by rw [List.getElem?_set_self hi], r⟩
    · obtain ⟨v', h3, h4⟩ := R.dat j d' e hn h2
      exact ⟨v', by rw [List.getElem?_set_ne (Ne.symm hj)]; exact h3, h4⟩
  · rcases set_get h1 with ⟨rfl, e⟩ | ⟨hj, e⟩
    · exact absurd hfl h2
    · exact R.oo j d' e hn h2 h3
  · rcases set_get h1 with ⟨rfl, e⟩ | ⟨hj, e⟩
    · rw [hfl] at hn; cases hn
    · obtain ⟨v', h3, h4⟩ := R.nr j d' hn e
      exact ⟨v', by rw [List.getElem?_set_ne (Ne.symm hj)]; exact h3, h4⟩
def owSet (ow : Ow) (i : Nat) (a : Option Addr) : Ow := ⟨fun j => if j = i then a else ow j, ow.n⟩
theorem owSet_eq {ow : Ow} {i : Nat} {a : Option Addr} : owSet ow i a i = a := if_pos rfl
theorem owSet_ne {ow : Ow} {i j : Nat} {a : Option Addr} (h : j ≠ i) : owSet ow i a j = ow j := if_neg h
theorem Rel.setO {K : PySem.W.Frag} {G : Gh} {ow : Ow} {σ : St} {H H' : Hp} {δ : DS} {i : Nat} {v : V} {d : D} (R : Rel K fl G ow σ H δ) (s : Same H H') (hfl : fl[i]? = some .O) (hi : i < σ.length) (r : Rs K G.H0 ow H H' .F v d) :
    ∃ ow', Rel K fl G ow' (σ.set i (some v)) H' (δ.set i (some (.d d))) := by
  have R' := R.grow s
  have sub0 : ∀ b, okA ow b → okA (owSet ow i none) b := fun b z => ⟨fun j e => by
    by_cases hj : j = i
    · subst hj; rw [owSet_eq] at e; cases e
    · rw [owSet_ne hj] at e; exact z.1 j e, z.2⟩
  have nrs : ∀ j d', isN fl[j]? = true → (δ.set i (some (.d d)))[j]? = some (some (.d d')) → ∃ v', (σ.set i (some v))[j]? = some (some v') ∧ RT K H' v' d' (ow.n j) ∧ (ow.n j).Nodup := fun j d' hn h1 => by
    rcases set_get h1 with ⟨rfl, e⟩ | ⟨hj, e⟩
    · rw [hfl] at hn; cases hn
    · obtain ⟨v', h3, h4⟩ := R'.nr j d' hn e
      exact ⟨v', by rw [List.getElem?_set_ne (Ne.symm hj)]; exact h3, h4⟩
  rcases r with ⟨hfd, r⟩ | ⟨a, xs, ds, rfl, rfl, ha, hx, hr⟩
  · refine ⟨owSet ow i none, R'.s0, R'.s1, by rw [List.length_set, List.length_set]; exact R.len, fun j a h => ?_, fun j j' a h h' => ?_, fun j h => ?_, fun j d' h1 hn h2 => ?_, fun j d' h1 hn h2 h3 => ?_, R'.nt, R'.nd, fun j j' a h h' => ?_, R'.np, nrs⟩
    · have hj : j ≠ i := fun z => by subst z; rw [owSet_eq] at h; cases h
      rw [owSet_ne hj] at h
      obtain ⟨h0, hf, xs, ds, h1, h2, h3, h4⟩ := R'.own j a h
      exact ⟨h0, hf, xs, ds, by rw [List.getElem?_set_ne (Ne.symm hj)]; exact h1, h2, h3.imp sub0 (fun z => z), by rw [List.getElem?_set_ne (Ne.symm hj)]; exact h4⟩
    · have hj : j ≠ i := fun z => by subst z; rw [owSet_eq] at h; cases h
      have hj' : j' ≠ i := fun z => by subst z; rw [owSet_eq] at h'; cases h'
      rw [owSet_ne hj] at h
      rw [owSet_ne hj'] at h'
      exact R.inj j j' a h h'
    · have hj : j ≠ i := fun z => by subst z; rw [hfl] at h; cases h
      rw [owSet_ne hj]
      exact R.pin j h
    · rcases set_get h1 with ⟨rfl, e⟩ | ⟨hj, e⟩
      · cases e
        exact ⟨v, by rw [List.getElem?_set_self hi], RA.flat hfd r⟩
      · rw [owSet_ne hj] at h2
        obtain ⟨v', h3, h4⟩ := R'.dat j d' e hn h2
        exact ⟨v', by rw [List.getElem?_set_ne (Ne.symm hj)]; exact h3, h4.imp sub0 (fun z => z)⟩
    · rcases set_get h1 with ⟨rfl, e⟩ | ⟨hj, e⟩
      · cases e
        exact hfd
      · rw [owSet_ne hj] at h3
        exact R.oo j d' e hn h2 h3
    · by_cases hj : j' = i
      · subst hj; rw [owSet_eq] at h'; cases h'
      · rw [owSet_ne hj] at h'; exact R.ns j j' a h h'
  · have sub : ∀ b, okA ow b ∧ b ≠ a → okA (owSet ow i (some a)) b := fun b z => ⟨fun j e => by
      by_cases hj : j = i
      · subst hj; rw [owSet_eq] at e; exact z.2 (Option.some.inj e).symm
      · rw [owSet_ne hj] at e; exact z.1.1 j e, z.1.2⟩
    have old : ∀ {v : V} {d : D}, RA K (okA ow) true H v d → RA K (okA (owSet ow i (some a))) true H' v d := fun r => (r.track.imp (fun b z => sub b ⟨z.1, fun e => z.2 (e ▸ ha)⟩) (fun z => z)).same s
    have olds : ∀ {v : List V} {d : List D}, RAs K (okA ow) true H v d → RAs K (okA (owSet ow i (some a))) true H' v d := fun r => (r.track.imp (fun b z => sub b ⟨z.1, fun e => z.2 (e ▸ ha)⟩) (fun z => z)).same s
    have nota : ∀ j, ow j ≠ some a := fun j z => by
      obtain ⟨_, _, _, _, _, h2, _⟩ := R.own j a z
      rw [ha] at h2
      cases h2
    have hF : G.HF a = none := R.s1.free ha
    refine ⟨owSet ow i (some a), R'.s0, R'.s1, by rw [List.length_set, List.length_set]; exact R.len, fun j b h => ?_, fun j j' b h h' => ?_, fun j h => ?_, fun j d' h1 hn h2 => ?_, fun j d' h1 hn h2 h3 => ?_, R'.nt, R'.nd, fun j j' b h h' => ?_, R'.np, nrs⟩
    · by_cases hj : j = i
      · subst hj
        rw [owSet_eq] at h
        cases h
        exact ⟨R.same0.free ha, .inl ⟨hfl, hF⟩, xs, ds, by rw [List.getElem?_set_self hi], hx, hr.imp sub (fun z => z), by rw [List.getElem?_set_self (by rw [← R.len]; exact hi)]⟩
      · rw [owSet_ne hj] at h
        obtain ⟨h0, hf, ys, ds', h1, h2, h3, h4⟩ := R.own j b h
        exact ⟨h0, hf, ys, ds', by rw [List.getElem?_set_ne (Ne.symm hj)]; exact h1, s _ _ h2, olds h3, by rw [List.getElem?_set_ne (Ne.symm hj)]; exact h4⟩
    · by_cases hj : j = i
      · by_cases hj' : j' = i
        · rw [hj, hj']
        · subst hj
          rw [owSet_eq] at h
          cases h
          rw [owSet_ne hj'] at h'
          exact absurd h' (nota j')
      · rw [owSet_ne hj] at h
        by_cases hj' : j' = i
        · subst hj'
          rw [owSet_eq] at h'
          cases h'
          exact absurd h (nota j)
        · rw [owSet_ne hj'] at h'
          exact R.inj j j' b h h'
    · have hj : j ≠ i := fun z => by subst z; rw [hfl] at h; cases h
      rw [owSet_ne hj]
      exact R.pin j h
    · rcases set_get h1 with ⟨rfl, e⟩ | ⟨hj, e⟩
      · rw [owSet_eq] at h2; cases h2
      · rw [owSet_ne hj] at h2
        obtain ⟨v', h3, h4⟩ := R.dat j d' e hn h2
        exact ⟨v', by rw [List.getElem?_set_ne (Ne.symm hj)]; exact h3, old h4⟩
    · rcases set_get h1 with ⟨rfl, e⟩ | ⟨hj, e⟩
      · rw [owSet_eq] at h3; cases h3
      · rw [owSet_ne hj] at h3
        exact R.oo j d' e hn h2 h3
    · by_cases hj : j' = i
      · subst hj
        rw [owSet_eq] at h'
        cases h'
        exact (R.nt j a h).2.1.ne ha
      · rw [owSet_ne hj] at h'; exact R.ns j j' b h h'
theorem Rel.mut {K : PySem.W.Frag} {G : Gh} {ow : Ow} {σ : St} {H : Hp} {δ : DS} {i : Nat} {a : Addr} {ys : List V} {ds : List D} (R : Rel K fl G ow σ H δ) (hfl : fl[i]? = some .O) (ho : ow i = some a) (r : RAs K (okA ow) true H ys ds) :
    Rel K fl G ow σ (upd H a (.lst ys)) (δ.set i (some (.d (.list ds)))) := by
  obtain ⟨h0, hz, xs, ds0, e1, e2, e3, e4⟩ := R.own i a ho
  have na : ¬ okA ow a := fun z => z.1 i ho
  have hF : G.HF a = none := by
    rcases hz with ⟨_, z⟩ | ⟨z, _⟩
    · exact z
    · rw [hfl] at z; cases z
  have hi : i < δ.length := by
    rcases Nat.lt_or_ge i δ.length with z | z
    · exact z
    · rw [List.getElem?_eq_none z] at e4; cases e4
  refine ⟨R.s0, fun b o hb => ?_, by rw [List.length_set]; exact R.len, fun j b h => ?_, R.inj, R.pin, fun j d' h1 hn h2 => ?_, fun j d' h1 hn h2 h3 => ?_, fun j b h => ?_, R.nd, R.ns, R.np, fun j d' hn h1 => ?_⟩
  · rw [upd_ne (fun z => by subst z; rw [hF] at hb; cases hb)]
    exact R.s1 b o hb
  · by_cases hj : j = i
    · subst hj
      rw [ho] at h
      cases h
      exact ⟨h0, hz, ys, ds, e1, upd_same, r.upd e2 na, by rw [List.getElem?_set_self hi]⟩
    · obtain ⟨h0', hf', zs, ds', h1, h2, h3, h4⟩ := R.own j b h
      have hb : b ≠ a := fun z => hj (R.inj j i a (z ▸ h) ho)
      exact ⟨h0', hf', zs, ds', h1, by rw [upd_ne hb]; exact h2, h3.upd e2 na, by rw [List.getElem?_set_ne (Ne.symm hj)]; exact h4⟩
  · rcases set_get h1 with ⟨rfl, e⟩ | ⟨hj, e⟩
    · rw [ho] at h2; cases h2
    · obtain ⟨v', h3, h4⟩ := R.dat j d' e hn h2
      exact ⟨v', h3, h4.upd e2 na⟩
  · rcases set_get h1 with ⟨rfl, e⟩ | ⟨hj, e⟩
    · rw [ho] at h3; cases h3
    · exact R.oo j d' e hn h2 h3
  · obtain ⟨g1, g2, g3⟩ := R.nt j b h
    refine ⟨g1, ?_, g3⟩
    by_cases hb : b = a
    · rw [hb, upd_same]; exact ⟨_, rfl, inferInstance⟩
    · rw [upd_ne hb]; exact g2
  · rcases set_get h1 with ⟨rfl, e⟩ | ⟨hj, e⟩
    · rw [hfl] at hn; cases hn
    · obtain ⟨v', h3, h4, h5⟩ := R.nr j d' hn e
      exact ⟨v', h3, h4.upd e2 (fun z => R.ns j i a z ho), h5⟩
theorem slot_lt {K : PySem.W.Frag} {G : Gh} {ow : Ow} {σ : St} {H : Hp} {δ : DS} {i : Nat} (R : Rel K fl G ow σ H δ) (h : i < δ.length) : i < σ.length := by rw [R.len]; exact h
theorem ds_setA {i : Nat} {x : Str} {pos' : Pos} (hfl : fl[i]? = some .A) (hN : X.N.Nodup) (hi : X.N[i]? = some x) (hv : X.env.scope.names.lookup x = some .local ∨ X.env.scope.names.lookup x = some .cell) (h : DE X fl .A e f)
    (hs : swapsWith e (some (.Name x pos')) pos.line X.env = pure false := by rfl) (hfn : X.fn x = true ∨ X.env.scope.names.lookup x = some .local := by first | exact .inl rfl | exact .inr rfl) :
    DS1 X fl (.Assign [.Name x pos'] e pos) (sSetl i f) := PS.imp (ps_set (i := i) hN hi hv h hs hfn) fun Dn σ H h => by
  obtain ⟨G, ow, δ, o, R, hf, q⟩ := h
  unfold sSetl at hf
  by_cases hl : i < δ.length
  · rw [if_pos hl] at hf
    obtain ⟨d, e1, e2⟩ := bind1 hf
    cases e2
    exact ⟨G, ow, δ, d, R, e1, fun v H' s r => q ow _ H' ((R.grow s).setA hfl (slot_lt R hl) r)⟩
  · rw [if_neg hl] at hf
    cases hf
theorem ds_setO {i : Nat} {x : Str} {pos' : Pos} (hfl : fl[i]? = some .O) (hN : X.N.Nodup) (hi : X.N[i]? = some x) (hv : X.env.scope.names.lookup x = some .local ∨ X.env.scope.names.lookup x = some .cell) (h : DE X fl .F e f)
    (hs : swapsWith e (some (.Name x pos')) pos.line X.env = pure false := by rfl) (hfn : X.fn x = true ∨ X.env.scope.names.lookup x = some .local := by first | exact .inl rfl | exact .inr rfl) :
    DS1 X fl (.Assign [.Name x pos'] e pos) (sSetl i f) := PS.imp (ps_set (i := i) hN hi hv h hs hfn) fun Dn σ H h => by
  obtain ⟨G, ow, δ, o, R, hf, q⟩ := h
  unfold sSetl at hf
  by_cases hl : i < δ.length
  · rw [if_pos hl] at hf
    obtain ⟨d, e1, e2⟩ := bind1 hf
    cases e2
    refine ⟨G, ow, δ, d, R, e1, fun v H' s r => ?_⟩
    obtain ⟨ow', R'⟩ := R.setO s hfl (slot_lt R hl) r
    exact q ow' _ H' R'
  · rw [if_neg hl] at hf
    cases hf
theorem dg_name {i : Nat} {x : Str} {pos : Pos} (hfl : fl[i]? = some .A) (hN : X.N.Nodup) (hi : X.N[i]? = some x) (hv : X.env.scope.names.lookup x = some .local ∨ X.env.scope.names.lookup x = some .cell)
    (hfn : X.fn x = true ∨ X.env.scope.names.lookup x = some .local := by first | exact .inl rfl | exact .inr rfl) : DG X fl [i] (.Name x pos) (gNl i) :=
  PG.imp (pg_name (i := i) hN hi hv hfn) fun v σ H Q h => by
  obtain ⟨G, ow, δ, d, δ', R, r, hf, q⟩ := h
  unfold gNl at hf
  by_cases hl : i < δ.length
  · rw [if_pos hl] at hf
    cases hf
    exact q _ (R.setA hfl (slot_lt R hl) r) fun j hj => List.getElem?_set_ne (fun z => hj (by rw [z]; exact List.mem_singleton.mpr rfl))
  · rw [if_neg hl] at hf
    cases hf
def tDGs (K : PySem.W.Frag) (fl : List Fl) (tg : List Nat) (g : List D → DS → Option DS) : TGs := fun vs σ H Q => ∃ G ow δ ds δ', Rel K fl G ow σ H δ ∧ RAs K (okA ow) true H vs ds ∧ g ds δ = some δ' ∧ ∀ σ', Rel K fl G ow σ' H δ' → (∀ j, j ∉ tg → σ'[j]? = σ[j]?) → Q σ' H
theorem PGs.imp {t t' : TGs} (h : PGs X es t) (i : ∀ v σ H Q, t' v σ H Q → t v σ H Q) : PGs X es t' := fun pins s σ H v u Q I r q => h pins s σ H v u Q I r (i v σ H Q q)
abbrev DGs (X : Cx) (fl : List Fl) (tg : List Nat) (es : List Expr) (g : List D → DS → Option DS) : Prop := PGs X es (tDGs X.K fl tg g)
theorem dgs_nil : DGs X fl [] [] gsNil := PGs.imp pgs_nil fun vs σ H Q h => by
  obtain ⟨G, ow, δ, ds, δ', R, r, hf, q⟩ := h
  cases r with
  | nil => cases hf; exact ⟨rfl, q σ R fun _ _ => rfl⟩
  | cons _ _ => cases hf
theorem dgs_cons {tg tg' : List Nat} {g : FG} {gs : List D → DS → Option DS} (h1 : DG X fl tg e g) (h2 : DGs X fl tg' es gs) (hs : (assignEach (e :: es) X.env).map (·.2) = assign e X.env :: (assignEach es X.env).map (·.2) := by rfl) :
    DGs X fl (tg ++ tg') (e :: es) (gsCons g gs) := PGs.imp (pgs_cons h1 h2 hs) fun vs σ H Q h => by
  obtain ⟨G, ow, δ, ds, δ', R, r, hf, q⟩ := h
  cases r with
  | nil => cases hf
  | cons r1 r2 =>
    obtain ⟨δ1, e1, e2⟩ := bind1 hf
    refine ⟨_, _, rfl, G, ow, δ, _, δ1, R, r1, e1, fun σ' R' k1 => ⟨G, ow, δ1, _, δ', R', r2, e2, fun σ'' R'' k2 => q σ'' R'' fun j hj => ?_⟩⟩
    rw [k2 j fun z => hj (List.mem_append_right _ z), k1 j fun z => hj (List.mem_append_left _ z)]
theorem dg_tup {tg : List Nat} {gs : List D → DS → Option DS} {k n : Nat} (hc : X.calm = true) (h : DGs X fl tg es gs) (hn : (assignEach es X.env).length = n := by rfl) (hst : (assignEach es X.env).findIdx? (·.1) = none := by rfl) :
    DG X fl tg (.Tuple es k pos) (gTn n gs) := PG.imp (pg_tup (n := n) hc h hn hst) fun v σ H Q h => by
  obtain ⟨G, ow, δ, d, δ', R, r, hf, q⟩ := h
  unfold gTn at hf
  split at hf
  · next l =>
    by_cases z : l.length = n
    · rw [if_pos z] at hf
      obtain ⟨a, xs, rfl, hx, hr⟩ := r.tupE
      exact ⟨a, xs, rfl, hx, by rw [hr.length]; exact z, G, ow, δ, l, δ', R, hr, hf, q⟩
    · rw [if_neg z] at hf
      cases hf
  · cases hf
theorem ds_asg {tg : List Nat} {g : FG} {t : Expr} (h : DE X fl .A e f) (hg : DG X fl tg t g) (hs : swapsWithSole [t] e pos.line X.env = pure false := by rfl) (hw : swappedStores [t] e X.env = pure none := by rfl)
    (h1 : (assignEach [t] X.env).map (·.2) = [assign t X.env] := by rfl) : DS1 X fl (.Assign [t] e pos) (sAsg f g) := PS.imp (ps_asg h hg hs hw h1) fun Dn σ H h => by
  obtain ⟨G, ow, δ, o, R, hf, q⟩ := h
  obtain ⟨d, e1, e2⟩ := bind1 hf
  obtain ⟨δ', e3, e4⟩ := bind1 e2
  cases e4
  exact ⟨G, ow, δ, d, R, e1, fun v H' s r => ⟨G, ow, δ, d, δ', R.grow s, r, e3, fun σ' R' _ => q ow σ' H' R'⟩⟩
end
end D3
namespace D3
open PySem PySem.Spec PyProof.Rows L2 My
section
variable {X : Cx} {fl : List Fl} {e a b c : Expr} {es : List Expr} {st : Stmt} {sts body orelse : List Stmt} {k : Kd} {f fa fb fc : FE} {fs gs : FS} {ft gt : FT} {pos : Pos}
theorem own_of {K : PySem.W.Frag} {G : Gh} {ow : Ow} {σ : St} {H : Hp} {δ : DS} {i : Nat} {l : List D} (R : Rel K fl G ow σ H δ) (hfl : fl[i]? = some .O) (h : dVar i δ = some (.list l)) :
    ∃ a xs, ow i = some a ∧ σ[i]? = some (some (.ref a)) ∧ H a = some (.lst xs) ∧ RAs K (okA ow) true H xs l := by
  have e := dVar_eq h
  cases ho : ow i with
  | none =>
    have z := R.oo i _ e (by rw [hfl]; rfl) (by rw [hfl]; simp) ho
    simp [flat] at z
  | some a =>
    obtain ⟨h0, _, xs, ds, h1, h2, h3, h4⟩ := R.own i a ho
    rw [e] at h4
    cases h4
    exact ⟨a, xs, rfl, h1, h2, h3⟩
def WalkD (K : PySem.W.Frag) (ow : Ow) (L : List Nat) (H1 : Hp) (J : It) (l : List D) : Prop := ∀ H2 : Hp, (∀ b o, H1 b = some o → (∀ i, ow i = some b → i ∈ L) → (∀ i, b ∉ ow.n i) → H2 b = some o) → ∀ i : Nat,
  (∀ d, l[i]? = some d → J.go i H2 ∧ ∀ x H3, J.yld i H2 x H3 → Same H2 H3 ∧ RA K (fun b => okA ow b ∧ H1 b ≠ none) true H3 x d) ∧ (l.length ≤ i → J.stop i H2)
def tDI (K : PySem.W.Frag) (fl : List Fl) (L : List Nat) (fi : FA) : TI := fun σ H R' => ∃ G ow δ l, Rel K fl G ow σ H δ ∧ fi δ = some l ∧ ∀ J H1, Same H H1 → WalkD K ow L H1 J l → R' J H1
abbrev DI (X : Cx) (fl : List Fl) (L : List Nat) (tg iter : Expr) (fi : FA) : Prop := PI X tg iter (tDI X.K fl L fi)
theorem PI.imp {tg iter : Expr} {t t' : TI} (h : PI X tg iter t) (i : ∀ σ H R', t' σ H R' → t σ H R') : PI X tg iter t' := fun pins s σ H R' I q => h pins s σ H R' I (i σ H R' q)
section
variable {K : PySem.W.Frag} {ok : Ok} {pl : Bool} {H1 H2 : Hp} {ow : Ow} {L : List Nat}
theorem nm {b : Addr} {o : HO} (hl : ∀ i b, ow i = some b → ∃ xs, H1 b = some (.lst xs)) (h : H1 b = some o) (hn : ∀ xs, o ≠ .lst xs) : ∀ i, ow i = some b → i ∈ L := fun i e => by
  obtain ⟨xs, z⟩ := hl i b e
  rw [h] at z
  exact absurd (Option.some.inj z) (hn xs)
theorem nm2 {b : Addr} {o : HO} (hl : ∀ i b, b ∈ ow.n i → Chd (H1 b)) (h : H1 b = some o) (hn : Chg o → False) : ∀ i, b ∉ ow.n i := fun i e => by
  obtain ⟨u, z, c⟩ := hl i b e
  rw [h] at z
  cases z
  exact hn c
mutual
theorem RA.keep (hk : ∀ b o, H1 b = some o → (∀ i, ow i = some b → i ∈ L) → (∀ i, b ∉ ow.n i) → H2 b = some o) (hl : ∀ i b, ow i = some b → ∃ xs, H1 b = some (.lst xs)) (hm : ∀ i b, b ∈ ow.n i → Chd (H1 b)) (ho : ∀ b, ok b → okA ow b) : ∀ {v : V} {d : D}, RA K ok pl H1 v d → RA K ok pl H2 v d
  | _, _, .non => .non
  | _, _, .bl b => .bl b
  | _, _, .int i => .int i
  | _, _, .str x => .str x
  | _, _, .lst e k q => .lst (hk _ _ e (fun i z => absurd z ((ho _ k).1 i)) (ho _ k).2) k (RAs.keep hk hl hm ho q)
  | _, _, .lsk e k q => .lsk (by
      rcases e with ⟨o, e⟩ | e
      · exact .inl ⟨o, hk _ _ e (nm hl e (by intro xs z; cases z)) (nm2 hm e Chg.frz)⟩
      · exact .inr e) k (RAs.keep hk hl hm ho q)
  | _, _, .tup e q => .tup (hk _ _ e (nm hl e (by intro xs z; cases z)) (nm2 hm e Chg.tup)) (RAs.keep hk hl hm ho q)
  | _, _, .dic e g k => .dic (hk _ _ e (fun i z => absurd z ((ho _ k).1 i)) (ho _ k).2) (g.imp fun _ _ t => hk _ _ t (nm hl t (by intro xs z; cases z)) (nm2 hm t Chg.tup)) k
  | _, _, .dik e g k => .dik (hk _ _ e (nm hl e (by intro xs z; cases z)) (nm2 hm e Chg.frz)) (g.imp fun _ _ t => hk _ _ t (nm hl t (by intro xs z; cases z)) (nm2 hm t Chg.tup)) k
theorem RAs.keep (hk : ∀ b o, H1 b = some o → (∀ i, ow i = some b → i ∈ L) → (∀ i, b ∉ ow.n i) → H2 b = some o) (hl : ∀ i b, ow i = some b → ∃ xs, H1 b = some (.lst xs)) (hm : ∀ i b, b ∈ ow.n i → Chd (H1 b)) (ho : ∀ b, ok b → okA ow b) : ∀ {v : List V} {d : List D}, RAs K ok pl H1 v d → RAs K ok pl H2 v d
  | _, _, .nil => .nil
  | _, _, .cons e q => .cons (RA.keep hk hl hm ho e) (RAs.keep hk hl hm ho q)
end
end
theorem Rel.ownL {K : PySem.W.Frag} {G : Gh} {ow : Ow} {σ : St} {H : Hp} {δ : DS} (R : Rel K fl G ow σ H δ) : ∀ i b, ow i = some b → ∃ xs, H b = some (.lst xs) := fun i b e => by
  obtain ⟨_, _, xs, _, _, h2, _⟩ := R.own i b e
  exact ⟨xs, h2⟩
theorem Rel.ownC {K : PySem.W.Frag} {G : Gh} {ow : Ow} {σ : St} {H : Hp} {δ : DS} (R : Rel K fl G ow σ H δ) : ∀ i b, b ∈ ow.n i → Chd (H b) := fun i b e => (R.nt i b e).2.1
theorem walk_B {K : PySem.W.Frag} {G : Gh} {ow : Ow} {σ : St} {H Hb : Hp} {δ : DS} {L : List Nat} {v : V} {l : List D} (R : Rel K fl G ow σ H δ) (r : Rs K G.H0 ow Hb H (.B L) v (.list l)) : ∃ a xs, v = .ref a ∧ SqL K H a xs ∧
    ∀ H2 : Hp, (∀ b o, H b = some o → (∀ i, ow i = some b → i ∈ L) → (∀ i, b ∉ ow.n i) → H2 b = some o) → SqL K H2 a xs ∧ RAs K (fun b => okA ow b ∧ H b ≠ none) true H2 xs l := by
  rcases r with r | ⟨i, hi, a, xs, ds, ho, rfl, e, hx, hr⟩
  · cases r with
    | lst e k q => exact ⟨_, _, rfl, SqL.of e, fun H2 hk => ⟨SqL.of (hk _ _ e (fun i z => absurd z (k.1 i)) k.2), RAs.keep hk R.ownL R.ownC (fun b z => z.1) q.track⟩⟩
    | lsk e k q => exact ⟨_, _, rfl, e.sq, fun H2 hk => ⟨SqK.sq (by
        rcases e with ⟨o, e⟩ | e
        · exact .inl ⟨o, hk _ _ e (nm R.ownL e (by intro xs z; cases z)) (nm2 R.ownC e Chg.frz)⟩
        · exact .inr e), RAs.keep hk R.ownL R.ownC (fun b z => z.1) q.track⟩⟩
  · cases e
    exact ⟨a, xs, rfl, SqL.of hx, fun H2 hk => ⟨SqL.of (hk _ _ hx (fun j z => by rw [R.inj j i a z ho]; exact hi) (fun j z => R.ns j i a z ho)), RAs.keep hk R.ownL R.ownC (fun b z => z.1) hr.track⟩⟩
theorem di_list {tg : Expr} {L : List Nat} (h : DE X fl (.B L) e f) : DI X fl L tg e (fLst f) := PI.imp (pi_list h) fun σ H R' h => by
  obtain ⟨G, ow, δ, l, R, hf, q⟩ := h
  obtain ⟨d, e1, e2⟩ := bind1 hf
  cases d <;> first | (cases e2; done) | skip
  cases e2
  refine ⟨G, ow, δ, _, R, e1, fun v H1 s r => ?_⟩
  obtain ⟨a, xs, rfl, hx, keep⟩ := walk_B (R.grow s) r
  refine ⟨a, rfl, ⟨xs, hx⟩, q _ _ s fun H2 k2 i => ?_⟩
  obtain ⟨k3, k4⟩ := keep H2 k2
  refine ⟨fun d hd => ?_, fun hl => ⟨xs, k3, by rw [k4.length]; exact hl⟩⟩
  obtain ⟨y, hy, ry⟩ := k4.get hd
  refine ⟨⟨xs, y, k3, hy⟩, fun x H3 hyl => ?_⟩
  obtain ⟨e, hz⟩ := hyl
  subst e
  have : some y = some x := hy.symm.trans (hz xs k3)
  cases this
  exact ⟨Same.refl _, ry⟩
theorem rngD_len (lo hi : Int) : (rngD lo hi).length = (hi - lo).toNat := by simp [rngD]
theorem walk_rng {K : PySem.W.Frag} {ow : Ow} {L : List Nat} {H1 : Hp} (lo hi : Int) : WalkD K ow L H1 (Itr lo (hi - lo).toNat) (rngD lo hi) := by
  intro H2 _ i
  refine ⟨fun d hd => ?_, fun hl => by rw [rngD_len] at hl; exact hl⟩
  unfold rngD at hd
  rw [List.getElem?_map] at hd
  by_cases hi' : i < (hi - lo).toNat
  · rw [List.getElem?_range hi'] at hd
    cases hd
    refine ⟨hi', fun x H3 hy => ?_⟩
    obtain ⟨e, e2⟩ := hy
    subst e e2
    exact ⟨Same.refl _, .int _⟩
  · rw [List.getElem?_eq_none (by simpa using hi')] at hd
    cases hd
theorem rngG_ok {i : Int} (h : rngG i = true) : -(2 ^ 62) ≤ i ∧ i < 2 ^ 62 := by
  unfold rngG at h
  rw [Bool.and_eq_true] at h
  exact ⟨of_decide_eq_true h.1, of_decide_eq_true h.2⟩
theorem di_range1 {tg : Expr} {L : List Nat} {p : Pos} {fa : FA} (hg : Gl X "range") (hm : X.mg "range" = none) (h : DA X fl [a] fa) (hs : starEach [a] X.env = [(false, eval a X.env)] := by rfl) : DI X fl L tg (.Call (.Name "range" p) [a] [] pos) (fRng1 fa) :=
  PI.imp (pi_range1 hg hm h hs) fun σ H R' h => by
  obtain ⟨G, ow, δ, l, R, hf, q⟩ := h
  obtain ⟨ds, e1, e2⟩ := bind1 hf
  split at e2
  · next j =>
    by_cases z : rngG j = true
    · rw [if_pos z] at e2
      cases e2
      refine ⟨G, ow, δ, _, R, e1, fun vs H1 s r => ?_⟩
      cases r with
      | cons r1 r2 =>
        cases r2
        obtain rfl := r1.intE
        refine ⟨j, rfl, (rngG_ok z).1, (rngG_ok z).2, ?_⟩
        have w := walk_rng (K := X.K) (ow := ow) (L := L) (H1 := H1) 0 j
        rw [Int.sub_zero] at w
        exact q _ _ s w
    · rw [if_neg z] at e2
      cases e2
  · cases e2
def lock (L : List Nat) (fl : List Fl) : List Fl := fl.mapIdx fun i x => if x = .O ∧ i ∈ L then .L else x
theorem lock_get {L : List Nat} {i : Nat} : (lock L fl)[i]? = (fl[i]?).map fun x => if x = .O ∧ i ∈ L then .L else x := by
  unfold lock
  rw [List.getElem?_mapIdx]
theorem lock_A {L : List Nat} {i : Nat} : (lock L fl)[i]? = some .A ↔ fl[i]? = some .A := by
  rw [lock_get]
  cases h : fl[i]? with
  | none => simp
  | some x =>
    cases x <;> simp
    by_cases z : i ∈ L <;> simp [z]
theorem lock_O {L : List Nat} {i : Nat} (h : (lock L fl)[i]? = some .O) : fl[i]? = some .O ∧ i ∉ L := by
  rw [lock_get] at h
  cases e : fl[i]? with
  | none => rw [e] at h; simp at h
  | some x =>
    rw [e] at h
    cases x <;> simp at h
    by_cases z : i ∈ L
    · simp [z] at h
    · exact ⟨rfl, z⟩
theorem lock_L {L : List Nat} {i : Nat} (h : fl[i]? = some .L) : (lock L fl)[i]? = some .L := by
  rw [lock_get, h]
  simp
theorem lock_OL {L : List Nat} {i : Nat} (h : fl[i]? = some .O) (hi : i ∈ L) : (lock L fl)[i]? = some .L := by
  rw [lock_get, h]
  simp [hi]
theorem lock_OO {L : List Nat} {i : Nat} (h : fl[i]? = some .O) (hi : i ∉ L) : (lock L fl)[i]? = some .O := by
  rw [lock_get, h]
  simp [hi]
theorem lock_N {L : List Nat} {i : Nat} : (lock L fl)[i]? = some .N ↔ fl[i]? = some .N := by
  rw [lock_get]
  cases h : fl[i]? with
  | none => simp
  | some x =>
    cases x <;> simp
    by_cases z : i ∈ L <;> simp [z]
theorem lock_M {L : List Nat} {i : Nat} : (lock L fl)[i]? = some .M ↔ fl[i]? = some .M := by
  rw [lock_get]
  cases h : fl[i]? with
  | none => simp
  | some x =>
    cases x <;> simp
    by_cases z : i ∈ L <;> simp [z]
theorem lock_isN {L : List Nat} {i : Nat} : isN (lock L fl)[i]? = isN fl[i]? := by
  rw [lock_get]
  cases h : fl[i]? with
  | none => rfl
  | some x =>
    cases x <;> simp [isN]
    by_cases z : i ∈ L <;> simp [z]
def Let (fl' : List Fl) (ow : Ow) (b : Addr) : Prop := (∃ j, ow j = some b ∧ fl'[j]? = some .O) ∨ ∃ j, b ∈ ow.n j ∧ fl'[j]? = some .N
open Classical in
noncomputable def ghL (fl' : List Fl) (G : Gh) (ow : Ow) (H : Hp) : Gh := ⟨G.H0, fun b => if Let fl' ow b then none else H b, ow, ow.n, G.tb⟩
open Classical in
theorem ghL_out {fl' : List Fl} {G : Gh} {ow : Ow} {H : Hp} {b : Addr} (h : ¬ Let fl' ow b) : (ghL fl' G ow H).HF b = H b := by
  unfold ghL
  dsimp only
  rw [if_neg h]
open Classical in
theorem ghL_in {fl' : List Fl} {G : Gh} {ow : Ow} {H : Hp} {b : Addr} (h : Let fl' ow b) : (ghL fl' G ow H).HF b = none := by
  unfold ghL
  dsimp only
  rw [if_pos h]
theorem Rel.lock {K : PySem.W.Frag} {G : Gh} {ow : Ow} {σ : St} {H : Hp} {δ : DS} (L : List Nat) (R : Rel K fl G ow σ H δ) : Rel K (lock L fl) (ghL (lock L fl) G ow H) ow σ H δ := by
  refine ⟨fun b o hb => ?_, fun b o hb => ?_, R.len, fun i a h => ?_, R.inj, fun i h => rfl, fun i d h1 hn h2 => R.dat i d h1 (by rw [lock_isN] at hn; exact hn) h2, fun i d h1 hn h2 h3 => R.oo i d h1 (by rw [lock_isN] at hn; exact hn) (fun z => h2 (lock_A.mpr z)) h3, fun i a h => ?_, R.nd, R.ns, fun i h => rfl, fun i d hn h1 => R.nr i d (by rw [lock_isN] at hn; exact hn) h1⟩
  · have hb' : G.H0 b = some o := hb
    rw [ghL_out]
    · exact R.same0 b o hb'
    · rintro (⟨j, e, _⟩ | ⟨j, e, _⟩)
      · have := (R.own j b e).1
        rw [hb'] at this
        cases this
      · have := (R.nt j b e).1
        rw [hb'] at this
        cases this
  · by_cases z : Let (D3.lock L fl) ow b
    · rw [ghL_in z] at hb; cases hb
    · rw [ghL_out z] at hb; exact hb
  · obtain ⟨h0, hf, xs, ds, h1, h2, h3, h4⟩ := R.own i a h
    refine ⟨h0, ?_, xs, ds, h1, h2, h3, h4⟩
    have out : (D3.lock L fl)[i]? = some .L → (ghL (D3.lock L fl) G ow H).HF a = H a := fun hl => ghL_out (by
      rintro (⟨j, e, hj⟩ | ⟨j, e, hj⟩)
      · rw [R.inj j i a e h, hl] at hj
        cases hj
      · exact R.ns j i a e h)
    rcases hf with ⟨hf, _⟩ | ⟨hf, _⟩
    · by_cases hi : i ∈ L
      · exact .inr ⟨lock_OL hf hi, xs, by rw [out (lock_OL hf hi)]; exact h2⟩
      · exact .inl ⟨lock_OO hf hi, ghL_in (.inl ⟨i, h, lock_OO hf hi⟩)⟩
    · exact .inr ⟨lock_L hf, xs, by rw [out (lock_L hf)]; exact h2⟩
  · obtain ⟨g1, g2, g3⟩ := R.nt i a h
    refine ⟨g1, g2, ?_⟩
    rcases g3 with ⟨z, _⟩ | z
    · exact .inl ⟨lock_N.mpr z, ghL_in (.inr ⟨i, h, lock_N.mpr z⟩)⟩
    · exact .inr (lock_M.mpr z)
theorem Rel.unlock {K : PySem.W.Frag} {G : Gh} {ow ow' : Ow} {σ σ' : St} {H H' : Hp} {δ δ' : DS} {L : List Nat} (R : Rel K fl G ow σ H δ) (R' : Rel K (D3.lock L fl) (ghL (D3.lock L fl) G ow H) ow' σ' H' δ') : Rel K fl G ow' σ' H' δ' := by
  have sub : Same G.HF (ghL (D3.lock L fl) G ow H).HF := fun b o hb => by
    rw [ghL_out]
    · exact R.s1 b o hb
    · rintro (⟨j, e, hj⟩ | ⟨j, e, hj⟩)
      · rcases (R.own j b e).2.1 with ⟨_, z⟩ | ⟨z, _⟩
        · rw [hb] at z; cases z
        · have := (lock_O hj).1
          rw [z] at this
          cases this
      · rcases (R.nt j b e).2.2 with ⟨_, z⟩ | z
        · rw [hb] at z; cases z
        · have := lock_N.mp hj
          rw [z] at this
          cases this
  refine ⟨R.s0, sub.trans R'.s1, R'.len, fun i a h => ?_, R'.inj, fun i h => ?_, fun i d h1 hn h2 => R'.dat i d h1 (by rw [lock_isN]; exact hn) h2, fun i d h1 hn h2 h3 => R'.oo i d h1 (by rw [lock_isN]; exact hn) (fun z => h2 (lock_A.mp z)) h3, fun i a h => ?_, R'.nd, R'.ns, fun i h => ?_, fun i d hn h1 => R'.nr i d (by rw [lock_isN]; exact hn) h1⟩
  · obtain ⟨h0, hf, rest⟩ := R'.own i a h
    refine ⟨h0, ?_, rest⟩
    rcases hf with ⟨hf, hz⟩ | ⟨hf, _⟩
    · exact .inl ⟨(lock_O hf).1, sub.free hz⟩
    · have e : ow' i = ow i := R'.pin i hf
      rw [e] at h
      exact (R.own i a h).2.1
  · have e : ow' i = ow i := R'.pin i (lock_L h)
    rw [e]
    exact R.pin i h
  · obtain ⟨g1, g2, g3⟩ := R'.nt i a h
    rcases g3 with ⟨z, hz⟩ | z
    · exact ⟨g1, g2, .inl ⟨lock_N.mp z, sub.free hz⟩⟩
    · exact ⟨g1, g2, .inr (lock_M.mp z)⟩
  · have e : ow'.n i = ow.n i := R'.np i (lock_M.mpr h)
    rw [e]
    exact R.np i h
theorem ds_for {tg iter : Expr} {L : List Nat} {T : List Nat} {fi : FA} {g : FG} (hp : PassesOwn (model X.prog X.w) X.A X.env X.xe) (hc : X.calm = true) (hi : DI X fl L tg iter fi) (hg : DG X (lock L fl) T tg g) (hb : DSs X (lock L fl) body fs)
    (hs : ∀ x, foldedSetIterable iter X.env x = pure x := by intro _; rfl) : DS1 X fl (.For tg iter body [] pos) (sFor fi g fs) := PS.imp (ps_for hp hc hi hg hb hs) fun Dn σ H h => by
  obtain ⟨G, ow, δ, o, R0, hf, q⟩ := h
  obtain ⟨l, e1, e2⟩ := bind1 hf
  refine ⟨G, ow, δ, l, R0, e1, fun J H1 s wk => ?_⟩
  have R1 := R0.grow s
  have RL := R1.lock L
  refine ⟨fun i m σ' H' => m = l.length - i ∧ ∃ ow' δ', Rel X.K (lock L fl) (ghL (lock L fl) G ow H1) ow' σ' H' δ' ∧ forD g fs (l.drop i) δ' = some o, ⟨_, rfl, ow, δ, RL, by simpa using e2⟩, ?_⟩
  rintro i m σ' H' ⟨rfl, ow', δ', R', hd⟩
  have kept : ∀ b o, H1 b = some o → (∀ i, ow i = some b → i ∈ L) → (∀ i, b ∉ ow.n i) → H' b = some o := fun b o hb hl hn => R'.s1 b o (by
    rw [ghL_out]
    · exact hb
    · rintro (⟨j, e, hj⟩ | ⟨j, e, _⟩)
      · exact (lock_O hj).2 (hl j e)
      · exact hn j e)
  obtain ⟨w1, w2⟩ := wk H' kept i
  by_cases hlt : i < l.length
  · have hdrop : l.drop i = l[i] :: l.drop (i + 1) := List.drop_eq_getElem_cons hlt
    rw [hdrop, forD] at hd
    obtain ⟨δ1, e3, hd⟩ := bind1 hd
    obtain ⟨o1, e4, hd⟩ := bind1 hd
    obtain ⟨go, yl⟩ := w1 l[i] (List.getElem?_eq_getElem hlt)
    refine .inr ⟨go, fun σ' H' => ∃ ow' δ', Rel X.K (lock L fl) (ghL (lock L fl) G ow H1) ow' σ' H' δ' ∧ forD g fs (l.drop (i + 1)) δ' = some o, fun σ2 H2 ⟨ow2, δ2, R2, h2⟩ => ⟨l.length - (i + 1), by omega, rfl, ow2, δ2, R2, h2⟩, fun x H3 hy => ?_⟩
    obtain ⟨s3, r3⟩ := yl x H3 hy
    have sub : ∀ b, okA ow b ∧ H1 b ≠ none → okA ow' b := fun b z => by
      obtain ⟨z1, z2⟩ := z
      refine ⟨fun j e => ?_, fun j e => ?_⟩
      · rcases (R'.own j b e).2.1 with ⟨_, hz⟩ | ⟨hz, _⟩
        · have : (ghL (lock L fl) G ow H1).HF b = H1 b := ghL_out (by rintro (⟨j', e', _⟩ | ⟨j', e', _⟩); exact z1.1 j' e'; exact z1.2 j' e')
          rw [this] at hz
          exact z2 hz
        · have e' : ow' j = ow j := R'.pin j hz
          rw [e'] at e
          exact z1.1 j e
      · rcases (R'.nt j b e).2.2 with ⟨_, hz⟩ | w
        · have : (ghL (lock L fl) G ow H1).HF b = H1 b := ghL_out (by rintro (⟨j', e', _⟩ | ⟨j', e', _⟩); exact z1.1 j' e'; exact z1.2 j' e')
          rw [this] at hz
          exact z2 hz
        · have e' : ow'.n j = ow.n j := R'.np j w
          rw [e'] at e
          exact z1.2 j e
    refine ⟨_, ow', δ', _, δ1, R'.grow s3, r3.imp sub (fun z => z), e3, fun σ4 R4 _ => ⟨_, ow', δ1, o1, R4, e4, ?_⟩⟩
    · cases o1 with
      | nx δ2 => exact fun ow2 σ2 H2 R2 => ⟨ow2, δ2, R2, hd⟩
      | ct δ2 => exact fun ow2 σ2 H2 R2 => ⟨ow2, δ2, R2, hd⟩
      | bk δ2 => cases hd; exact fun ow2 σ2 H2 R2 => q ow2 σ2 H2 (R1.unlock R2)
      | rt d => cases hd; exact q
      | ex c f v => cases hd; exact q
  · have e : l.drop i = [] := List.drop_eq_nil_of_le (by omega)
    rw [e, forD] at hd
    cases hd
    exact .inl ⟨w2 (by omega), q ow' σ' H' (R1.unlock R')⟩
theorem ds_while (hp : PassesOwn (model X.prog X.w) X.A X.env X.xe) (hc : DT X fl c ft) (hb : DSs X fl body fs) : DS1 X fl (.While c body [] pos) (sWhile ft fs) := PS.imp (ps_while hp hc hb) fun Dn σ H h => by
  obtain ⟨G, ow, δ, o, R0, hf, q⟩ := h
  obtain ⟨n, hn⟩ := sWhile_inv hf
  refine ⟨fun m σ' H' => ∃ ow' δ', Rel X.K fl G ow' σ' H' δ' ∧ whileD ft fs m δ' = some o, ⟨n, ow, δ, R0, hn⟩, ?_⟩
  rintro m σ' H' ⟨ow', δ', R', hw⟩
  cases m with
  | zero => simp [whileD] at hw
  | succ m =>
    rw [whileD] at hw
    obtain ⟨t, e1, hw⟩ := bind1 hw
    refine ⟨G, ow', δ', t, R', e1, fun H1 s => ?_⟩
    cases t with
    | false =>
      rw [if_neg Bool.false_ne_true] at hw ⊢
      cases hw
      exact q ow' σ' H1 (R'.grow s)
    | true =>
      rw [if_pos rfl] at hw ⊢
      obtain ⟨o1, e2, hw⟩ := bind1 hw
      refine ⟨fun σ2 H2 => ∃ ow2 δ2, Rel X.K fl G ow2 σ2 H2 δ2 ∧ whileD ft fs m δ2 = some o, fun σ2 H2 ⟨ow2, δ2, R2, h2⟩ => ⟨m, Nat.lt_succ_self m, ow2, δ2, R2, h2⟩, G, ow', δ', o1, R'.grow s, e2, ?_⟩
      cases o1 with
      | nx δ2 => exact fun ow2 σ2 H2 R2 => ⟨ow2, δ2, R2, hw⟩
      | ct δ2 => exact fun ow2 σ2 H2 R2 => ⟨ow2, δ2, R2, hw⟩
      | bk δ2 => cases hw; exact q
      | rt d => cases hw; exact q
      | ex c f v => cases hw; exact q
end
end D3
namespace D3
open PySem PySem.Spec PyProof.Rows L2 My
def notStar : Expr → Bool
  | .Starred _ _ => false
  | _ => true
theorem star_of {e : Expr} {es : List Expr} {env : Env} (h : notStar e = true) : starEach (e :: es) env = (false, eval e env) :: starEach es env := by
  cases e <;> first | rfl | cases h
theorem pl_of {es : List Expr} {env : Env} {pos : Pos} (h : es.all notStar = true) : (backTo pos (starEach es env)).any (·.1) = false := by
  induction es with
  | nil => rfl
  | cons e es ih =>
    rw [List.all_cons, Bool.and_eq_true] at h
    rw [star_of h.1]
    have := ih h.2
    unfold backTo at this ⊢
    rw [List.map_cons, List.any_cons, this]
    rfl
def isR : Kd → Bool
  | .P => true
  | .A => true
  | .R => true
  | .C => true
  | _ => false
def okOf (H0 : Hp) (ow : Ow) (Hb : Hp) : Kd → Ok
  | .P => ok1
  | .A => okA ow
  | .R => okN H0
  | _ => okN Hb
def plOf : Kd → Bool
  | .P => true
  | .A => true
  | _ => false
section
variable {K : PySem.W.Frag} {H0 Hb Hc H : Hp} {ow : Ow} {v : V} {d : D} {k : Kd}
theorem Rs.ra (hk : isR k = true) (h : Rs K H0 ow Hb H k v d) : RA K (okOf H0 ow Hb k) (plOf k) H v d := by
  cases k <;> first | exact h | cases hk
theorem Rs.of_ra (hk : isR k = true) (h : RA K (okOf H0 ow Hb k) (plOf k) H v d) : Rs K H0 ow Hb H k v d := by
  cases k <;> first | exact h | cases hk
theorem okOf_back (s : Same Hb Hc) (hk : isR k = true) : ∀ a, okOf H0 ow Hc k a → okOf H0 ow Hb k a := fun a z => by
  cases k <;> first | exact z | exact s.free z | cases hk
theorem Rs.of_flat (hf : flat d = true) (h : RA K ok0 false H v d) : Rs K H0 ow Hb H k v d := by
  cases k with
  | P => exact RA.flat hf h
  | B L => exact .inl (RA.flat hf h)
  | A => exact RA.flat hf h
  | R => exact RA.flat hf h
  | F => exact .inl ⟨hf, h⟩
  | C => exact RA.flat hf h
  | FC => exact .inl ⟨hf, h⟩
  | T =>
    obtain ⟨as, h1, _, h3⟩ := RA.rt h
    cases as with
    | nil => exact ⟨[], h1, .nil, fun _ z => by cases z⟩
    | cons a r => exact (h3 a List.mem_cons_self).elim
theorem Rs.back (s : Same Hb Hc) (h : Rs K H0 ow Hc H k v d) : Rs K H0 ow Hb H k v d := by
  cases k with
  | P => exact h
  | B L => exact h
  | A => exact h
  | R => exact h
  | F =>
    rcases h with h | ⟨a, xs, ds, h1, h2, h3, h4⟩
    · exact .inl h
    · exact .inr ⟨a, xs, ds, h1, h2, s.free h3, h4⟩
  | C => exact RA.imp (fun a z => s.free z) (fun z => z) h
  | FC =>
    rcases h with h | ⟨a, xs, ds, h1, h2, h3, h4, h5⟩
    · exact .inl h
    · exact .inr ⟨a, xs, ds, h1, h2, s.free h3, h4, h5.imp (fun b z => ⟨s.free z.1, z.2⟩) (fun z => z)⟩
  | T =>
    obtain ⟨as, h1, h2, h3⟩ := h
    exact ⟨as, h1, h2, fun a z => s.free (h3 a z)⟩
end
def tDB (K : PySem.W.Frag) (fl : List Fl) (k : Kd) (f : FA) : TA := fun σ H Q => ∃ G ow δ ds, Rel K fl G ow σ H δ ∧ f δ = some ds ∧ ∀ vs H', Same H H' → RAs K (okOf G.H0 ow H k) (plOf k) H' vs ds → Q vs H'
abbrev DB (X : Cx) (fl : List Fl) (k : Kd) (es : List Expr) (f : FA) : Prop := PA X es (tDB X.K fl k f)
section
variable {X : Cx} {fl : List Fl} {e a b c : Expr} {es rest : List Expr} {k : Kd} {f fa fb fc : FE} {ft gt : FT} {pos : Pos}
theorem db_nil : DB X fl k [] dNil := PA.imp pa_nil fun σ H Q h => by
  obtain ⟨G, ow, δ, ds, R, hf, q⟩ := h
  cases hf
  exact q [] H (Same.refl H) .nil
theorem db_cons {fr : FA} (hk : isR k = true) (h : DE X fl k e f) (hr : DB X fl k es fr) (hs : starEach (e :: es) X.env = (false, eval e X.env) :: starEach es X.env := by exact star_of rfl) : DB X fl k (e :: es) (dCons f fr) := PA.imp (pa_cons h hr hs) fun σ H Q h => by
  obtain ⟨G, ow, δ, ds, R, hf, q⟩ := h
  obtain ⟨d, e1, hf⟩ := bind1 hf
  obtain ⟨r, e2, hf⟩ := bind1 hf
  cases hf
  refine ⟨G, ow, δ, d, R, e1, fun v H1 s1 r1 => ⟨G, ow, δ, r, R.grow s1, e2, fun vs H2 s2 r2 => ?_⟩⟩
  exact q _ H2 (s1.trans s2) (.cons ((r1.ra hk).same s2) (r2.imp (okOf_back s1 hk) (fun z => z)))
theorem da_of (h : DB X fl .P es fa') : DA X fl es fa' := PA.imp h fun σ H Q h => by
  obtain ⟨G, ow, δ, ds, R, hf, q⟩ := h
  exact ⟨G, ow, δ, ds, R, hf, fun vs H' s r => q vs H' s r⟩
theorem de_tup {x1} {fa : FA} (hk : isR k = true) (h : DB X fl k es fa) : DE X fl k (.Tuple es x1 pos) (dTup fa) := PE.imp (pe_tup h) fun σ H Q h => by
  obtain ⟨G, ow, δ, d, R, hf, q⟩ := h
  obtain ⟨l, e1, e2⟩ := bind1 hf
  by_cases z : l.length ≤ sizeLine
  · rw [if_pos z] at e2
    cases e2
    refine ⟨G, ow, δ, l, R, e1, fun vs H' s r => ⟨by rw [r.length]; exact z, fun p hp => ?_⟩⟩
    have g := same_new hp (.tup vs)
    exact q _ _ (s.trans g) (Rs.of_ra hk (.tup upd_same (r.same g)))
  · rw [if_neg z] at e2
    cases e2
theorem de_lstA {fa : FA} (h : DB X fl .A es fa) : DE X fl .F (.List es pos) (dLst fa) := PE.imp (pe_lst h) fun σ H Q h => by
  obtain ⟨G, ow, δ, d, R, hf, q⟩ := h
  obtain ⟨l, e1, e2⟩ := bind1 hf
  by_cases z : l.length ≤ sizeLine
  · rw [if_pos z] at e2
    cases e2
    refine ⟨G, ow, δ, l, R, e1, fun vs H' s r => ⟨by rw [r.length]; exact z, fun p hp => ?_⟩⟩
    have g := same_new hp (.lst vs)
    exact q _ _ (s.trans g) (.inr ⟨p, vs, l, rfl, rfl, s.free hp, upd_same, (r.track.imp (fun b w => ⟨w.1, fun e => w.2 (e ▸ hp)⟩) (fun z => z)).same g⟩)
  · rw [if_neg z] at e2
    cases e2
theorem de_lstC {fa : FA} (h : DB X fl .C es fa) : DE X fl .FC (.List es pos) (dLst fa) := PE.imp (pe_lst h) fun σ H Q h => by
  obtain ⟨G, ow, δ, d, R, hf, q⟩ := h
  obtain ⟨l, e1, e2⟩ := bind1 hf
  by_cases z : l.length ≤ sizeLine
  · rw [if_pos z] at e2
    cases e2
    refine ⟨G, ow, δ, l, R, e1, fun vs H' s r => ⟨by rw [r.length]; exact z, fun p hp => ?_⟩⟩
    have g := same_new hp (.lst vs)
    exact q _ _ (s.trans g) (.inr ⟨p, vs, l, rfl, rfl, s.free hp, upd_same, (r.track.imp (fun b w => ⟨w.1, fun e => w.2 (e ▸ hp)⟩) (fun z => z)).same g⟩)
  · rw [if_neg z] at e2
    cases e2
theorem RAs.at {K : PySem.W.Frag} {ok : Ok} {pl : Bool} {H : Hp} {vs : List V} {l : List D} {i : Int} {d : D} (r : RAs K ok pl H vs l) (h : pAt l i = some d) : ∃ v, atI vs i = some v ∧ RA K ok pl H v d := by
  unfold pAt at h
  unfold atI
  obtain ⟨j, e1, e2⟩ := bind1 h
  obtain ⟨y, e3, ry⟩ := r.get e2
  exact ⟨y, by rw [r.length, show ixN l.length i = some j from e1]; exact e3, ry⟩
theorem de_ix {L : List Nat} (ha : DE X fl (.B L) a fa) (hb : DE X fl .P b fb) (hs : PlainIx b) : DE X fl .A (.Subscript a b pos) (dOp gIx fa fb) := PE.imp (pe_ix ix_seq ha hb hs) fun σ H Q h => by
  obtain ⟨G, ow, δ, d, R, hf, q⟩ := h
  obtain ⟨x, y, e1, e2, e3⟩ := bind2 hf
  refine ⟨G, ow, δ, x, R, e1, fun v H1 s1 r1 => ⟨G, ow, δ, y, R.grow s1, e2, fun u H2 s2 r2 => ?_⟩⟩
  unfold gIx at e3
  split at e3
  · next l i =>
    obtain rfl := RA.intE r2
    rcases r1 with r1 | ⟨i', _, p, xs, ds, ho, rfl, ez, hx, hr⟩
    · obtain ⟨p, xs, rfl, hx, hr⟩ := RA.lstE (RA.same s2 r1)
      obtain ⟨z, ez, rz⟩ := hr.at e3
      exact .inl ⟨p, xs, i, z, rfl, rfl, hx, ez, q z H2 (s1.trans s2) rz⟩
    · cases ez
      obtain ⟨z, ez, rz⟩ := (hr.same s2).at e3
      exact .inl ⟨p, xs, i, z, rfl, rfl, SqL.of (s2 _ _ hx), ez, q z H2 (s1.trans s2) rz⟩
  · next l i =>
    obtain rfl := RA.intE r2
    rcases r1 with r1 | ⟨i', _, p, xs, ds, ho, rfl, ez, hx, hr⟩
    · obtain ⟨p, xs, rfl, hx, hr⟩ := RA.tupE (RA.same s2 r1)
      obtain ⟨z, ez, rz⟩ := hr.at e3
      exact .inr (.inl ⟨p, xs, i, z, rfl, rfl, hx, ez, q z H2 (s1.trans s2) rz⟩)
    · cases ez
  · cases e3
theorem de_one {op : BoolOp} (h : DE X fl k a f) : DE X fl k (.BoolOp op [a] pos) f := pe_one h
theorem de_and (h1 : DE X fl .P a fa) (h2 : DE X fl k (.BoolOp .And (b :: rest) pos) fb) : DE X fl k (.BoolOp .And (a :: b :: rest) pos) (dAnd fa fb) := PE.imp (pe_and h1 h2) fun σ H Q h => by
  obtain ⟨G, ow, δ, d, R, hf, q⟩ := h
  obtain ⟨x, e1, e2⟩ := bind1 hf
  refine ⟨G, ow, δ, x, R, e1, fun v H1 s1 r1 => ?_⟩
  split at e2
  · obtain rfl := RA.blE r1
    exact ⟨true, rfl, iteT ⟨G, ow, δ, d, R.grow s1, e2, fun u H2 s2 r2 => q u H2 (s1.trans s2) (r2.back s1)⟩⟩
  · obtain rfl := RA.blE r1
    cases e2
    exact ⟨false, rfl, iteF (q _ H1 s1 (Rs.of_flat rfl (.bl _)))⟩
  · cases e2
theorem de_or (h1 : DE X fl .P a fa) (h2 : DE X fl k (.BoolOp .Or (b :: rest) pos) fb) : DE X fl k (.BoolOp .Or (a :: b :: rest) pos) (dOr fa fb) := PE.imp (pe_or h1 h2) fun σ H Q h => by
  obtain ⟨G, ow, δ, d, R, hf, q⟩ := h
  obtain ⟨x, e1, e2⟩ := bind1 hf
  refine ⟨G, ow, δ, x, R, e1, fun v H1 s1 r1 => ?_⟩
  split at e2
  · obtain rfl := RA.blE r1
    cases e2
    exact ⟨true, rfl, iteT (q _ H1 s1 (Rs.of_flat rfl (.bl _)))⟩
  · obtain rfl := RA.blE r1
    exact ⟨false, rfl, iteF ⟨G, ow, δ, d, R.grow s1, e2, fun u H2 s2 r2 => q u H2 (s1.trans s2) (r2.back s1)⟩⟩
  · cases e2
theorem de_not (h1 : DE X fl .P a fa) : DE X fl .FC (.UnaryOp .Not a pos) (dNot fa) := PE.imp (pe_not h1) fun σ H Q h => by
  obtain ⟨G, ow, δ, d, R, hf, q⟩ := h
  obtain ⟨x, e1, e2⟩ := bind1 hf
  refine ⟨G, ow, δ, x, R, e1, fun v H1 s1 r1 => ?_⟩
  split at e2
  · next c =>
    obtain rfl := RA.blE r1
    cases e2
    exact ⟨c, rfl, q _ H1 s1 (Rs.of_flat rfl (.bl _))⟩
  · cases e2
theorem dt_not (h : DT X fl a ft) : DT X fl (.UnaryOp .Not a pos) (tNot ft) := PT.imp (pt_not h) fun σ H Q h => by
  obtain ⟨G, ow, δ, t, R, hf, q⟩ := h
  unfold tNot at hf
  cases e : ft δ with
  | none => rw [e] at hf; cases hf
  | some x =>
    rw [e] at hf
    cases hf
    exact ⟨G, ow, δ, x, R, e, fun H' s => q H' s⟩
theorem dw_and1 (h : DT X fl a ft) : DW X fl (.BoolOp .And [a] pos) ft := pw_and1 h
theorem dw_or1 (h : DT X fl a ft) : DW X fl (.BoolOp .Or [a] pos) ft := pw_or1 h
theorem dw_and (h1 : DT X fl a ft) (h2 : DW X fl (.BoolOp .And (b :: rest) pos) gt) : DW X fl (.BoolOp .And (a :: b :: rest) pos) (tAnd ft gt) := PW.imp (pw_and h1 h2) fun σ H Q h => by
  obtain ⟨G, ow, δ, t, R, hf, q⟩ := h
  obtain ⟨x, e1, e2⟩ := bind1 hf
  refine ⟨G, ow, δ, x, R, e1, fun H1 s1 => ?_⟩
  cases x with
  | true => exact iteT ⟨G, ow, δ, t, R.grow s1, e2, fun H2 s2 => q H2 (s1.trans s2)⟩
  | false => cases e2; exact iteF (q H1 s1)
theorem dw_or (h1 : DT X fl a ft) (h2 : DW X fl (.BoolOp .Or (b :: rest) pos) gt) : DW X fl (.BoolOp .Or (a :: b :: rest) pos) (tOr ft gt) := PW.imp (pw_or h1 h2) fun σ H Q h => by
  obtain ⟨G, ow, δ, t, R, hf, q⟩ := h
  obtain ⟨x, e1, e2⟩ := bind1 hf
  refine ⟨G, ow, δ, x, R, e1, fun H1 s1 => ?_⟩
  cases x with
  | true => cases e2; exact iteT (q H1 s1)
  | false => exact iteF ⟨G, ow, δ, t, R.grow s1, e2, fun H2 s2 => q H2 (s1.trans s2)⟩
theorem dt_w (h : DW X fl a ft) : DT X fl a ft := PW.pt h
theorem isN_eq {K : PySem.W.Frag} {ok : Ok} {pl : Bool} {H : Hp} {v : V} {d : D} (r : RA K ok pl H v d) : decide (v = .non) = isNone d := by
  cases r <;> rfl
theorem de_notN {j pos'} (h : DE X fl .P a f) : DE X fl .FC (.Compare a [.IsNot] [.Constant .none j pos'] pos) (dUn gNotN f) := PE.imp (pe_cmp (pc_notN h)) fun σ H Q h => by
  obtain ⟨G, ow, δ, d, R, hf, q⟩ := h
  obtain ⟨x, e1, e2⟩ := bind1 hf
  cases e2
  refine ⟨G, ow, δ, x, R, e1, fun v H1 s1 r1 => ?_⟩
  show Q (.bl (!decide (v = .non))) H1
  rw [isN_eq (RA.same (Same.refl H1) r1)]
  exact q _ H1 s1 (.inl ⟨rfl, .bl _⟩)
def BrC (K : PySem.W.Frag) (r : List V → Hp → VK → Prop) (g : List D → Option D) : Prop := ∀ (H : Hp) (xs : List V) (ds : List D) (d : D) (Q : VK), RAs K ok1 true H xs ds → g ds = some d → (∀ v, flat d = true → RA K ok0 false H v d → Q v H) → r xs H Q
theorem de_blt {id : String} {r : List V → Hp → VK → Prop} {g : List D → Option D} {x : Str} {p : Pos} {fa : FA} (hc : CallR X (.builtin id) r) (hb : BrC X.K r g) (hg : Gl X x) (hm : X.mg x = none) (hv : bootBuiltins x = some (.builtin id)) (ha : DB X fl .P (e :: es) fa) (hn : x ≠ "__name__" := by decide) (hdb : (x == ("__debug__" : Str)) = false := by decide)
    (he : starEach (e :: es) X.env = (false, eval e X.env) :: starEach es X.env := by exact star_of rfl) (hpl : (backTo pos (starEach es X.env)).any (·.1) = false := by exact pl_of rfl) : DE X fl .FC (.Call (.Name x p) (e :: es) [] pos) (dCall g fa) :=
  PE.imp (pe_callB hc hg hm hv ha hn hdb he hpl) fun σ H Q h => by
  obtain ⟨G, ow, δ, d, R, hf, q⟩ := h
  obtain ⟨ds, e1, e2⟩ := bind1 hf
  exact ⟨G, ow, δ, ds, R, e1, fun vs H' s r' => hb H' vs ds d Q r' e2 fun v hv rv => q v H' s (.inl ⟨hv, rv⟩)⟩
theorem b_len {K : PySem.W.Frag} : BrC K (fun xs H Q => ∃ p ys, xs = [.ref p] ∧ (SqL K H p ys ∨ SqT K H p ys) ∧ Q (.int ys.length) H) gLen := by
  intro H xs ds d Q r e q
  unfold gLen at e
  split at e
  · next l =>
    cases e
    cases r with
    | cons r1 r2 =>
      cases r2
      obtain ⟨a, ys, rfl, hx, hr⟩ := r1.lstE
      refine ⟨a, ys, rfl, .inl hx, ?_⟩
      rw [hr.length]
      exact q _ rfl (.int _)
  · next l =>
    cases e
    cases r with
    | cons r1 r2 =>
      cases r2
      obtain ⟨a, ys, rfl, hx, hr⟩ := r1.tupE
      refine ⟨a, ys, rfl, .inr hx, ?_⟩
      rw [hr.length]
      exact q _ rfl (.int _)
  · cases e
theorem b_abs {K : PySem.W.Frag} : BrC K (fun xs H Q => ∃ i, xs = [.int i] ∧ Q (.int (if i < 0 then -i else i)) H) gAbs := by
  intro H xs ds d Q r e q
  unfold gAbs at e
  split at e
  · cases e
    cases r with
    | cons r1 r2 =>
      cases r2
      obtain rfl := r1.intE
      exact ⟨_, rfl, q _ rfl (.int _)⟩
  · cases e
theorem b_max2 {K : PySem.W.Frag} : BrC K (fun xs H Q => ∃ i j, xs = [.int i, .int j] ∧ Q (.int (if j > i then j else i)) H) gMax2 := by
  intro H xs ds d Q r e q
  unfold gMax2 at e
  split at e
  · cases e
    cases r with
    | cons r1 r2 =>
      cases r2 with
      | cons r2 r3 =>
        cases r3
        obtain rfl := r1.intE
        obtain rfl := r2.intE
        exact ⟨_, _, rfl, q _ rfl (.int _)⟩
  · cases e
theorem b_min2 {K : PySem.W.Frag} : BrC K (fun xs H Q => ∃ i j, xs = [.int i, .int j] ∧ Q (.int (if j < i then j else i)) H) gMin2 := by
  intro H xs ds d Q r e q
  unfold gMin2 at e
  split at e
  · cases e
    cases r with
    | cons r1 r2 =>
      cases r2 with
      | cons r2 r3 =>
        cases r3
        obtain rfl := r1.intE
        obtain rfl := r2.intE
        exact ⟨_, _, rfl, q _ rfl (.int _)⟩
  · cases e
theorem tyD_mem (d : D) : tyD d = "NoneType" ∨ tyD d = "bool" ∨ tyD d = "int" ∨ tyD d = "str" ∨ tyD d = "list" ∨ tyD d = "tuple" ∨ tyD d = "dict" := by
  cases d <;> simp [tyD]
def rIsD (K : PySem.W.Frag) : List V → Hp → VK → Prop := fun xs H Q => ∃ x c d, xs = [x, .ty c] ∧ (c = "int" ∨ c = "bool" ∨ c = "tuple" ∨ c = "list" ∨ c = "str") ∧ RA K ok1 true H x d ∧ Q (.bl (isT c (tyD d))) H
theorem call_isD : CallR X (.builtin "isinstance") (rIsD X.K) := by
  intro pins s σ H xs us Q I r h
  obtain ⟨x, c, d, rfl, hc, ra, q⟩ := h
  obtain ⟨u, w', rfl, rx, rc⟩ := vals2 r
  cases rc
  have kn := kit_nn (K := X.K) hc (tyD_mem d)
  have fin : ∀ tk, EP X pins σ Q (.bool (isT c (tyD d))) { s with toks := tk } := fun tk => ⟨.bl _, H, I.tok _, rfl, q⟩
  cases ra with
  | non => cases (show u = Value.none from rx); exact PySem.W.kia_one PySem.W.kitx_none I.kIn True.intro kn (fun z => nomatch z) fin
  | bl b => cases (show u = Value.bool b from rx); exact PySem.W.kia_one PySem.W.kitx_bool I.kIn True.intro kn (fun z => nomatch z) fin
  | int i => obtain ⟨t, z⟩ := (show ∃ t, u = Value.int i t from rx); cases z; exact PySem.W.kia_one PySem.W.kitx_int I.kIn True.intro kn (fun z => nomatch z) fin
  | str y => obtain ⟨t, z⟩ := (show ∃ t, u = Value.str y t from rx); cases z; exact PySem.W.kia_one PySem.W.kitx_str I.kIn True.intro kn (fun z => nomatch z) fin
  | @lst a xs ds e k q' =>
    cases (show u = Value.ref a from rx)
    obtain ⟨its, _, ⟨o, n, e1, e2, _⟩, _⟩ := I.list (SqL.of e)
    exact PySem.W.kia_one PySem.W.kitx_list I.kIn ⟨_, e1, e2⟩ kn (fun z => nomatch z) fin
  | @lsk a xs ds e k q' =>
    cases (show u = Value.ref a from rx)
    obtain ⟨its, _, ⟨o, n, e1, e2, _⟩, _⟩ := I.list e.sq
    exact PySem.W.kia_one PySem.W.kitx_list I.kIn ⟨_, e1, e2⟩ kn (fun z => nomatch z) fin
  | @tup a xs ds e q' =>
    cases (show u = Value.ref a from rx)
    obtain ⟨its, _, ⟨o, e1, e2, _⟩, _⟩ := I.tuple e.sq
    exact PySem.W.kia_one PySem.W.kitx_tuple I.kIn ⟨_, e1, e2⟩ kn (fun z => nomatch z) fin
  | @dic a u0 kvs e g k =>
    rcases g.or with ⟨ks, z⟩ | ⟨ks, z⟩
    · rw [z] at e; exact isinst_ok I rx (TyOf.dK e) kn fin
    · rw [z] at e; exact isinst_ok I rx (TyOf.dT e) kn fin
  | @dik a u0 kvs ob e g k =>
    cases (show u = Value.ref a from rx)
    have ob := (show ObjOk X.prog X.w H s.heap a u0 from (show L2.Rd H a u0 from .inr ⟨_, e⟩).ok I.hok)
    rcases g.or with ⟨ks, z⟩ | ⟨ks, z⟩
    · rw [z] at ob
      obtain ⟨_, _, vs, _, dd⟩ := ob
      obtain ⟨o1, _, _, h1, h2, _⟩ := dd
      exact PySem.W.kia_one PySem.W.kitx_dict I.kIn ⟨_, h1, h2.1⟩ kn (fun z => nomatch z) fin
    · rw [z] at ob
      obtain ⟨_, _, xs, _, o1, _, _, h1, h2, _⟩ := ob
      exact PySem.W.kia_one PySem.W.kitx_dict I.kIn ⟨_, h1, h2.1⟩ kn (fun z => nomatch z) fin
theorem de_isi {T : String} {x : Str} {p p' : Pos} (hc : T = "int" ∨ T = "bool" ∨ T = "tuple" ∨ T = "list" ∨ T = "str") (h : DE X fl .P a f) (hg : Gl X "isinstance") (hm : X.mg "isinstance" = none) (hg' : Gl X x) (hm' : X.mg x = none) (hv' : bootBuiltins x = some (.type T))
    (hn' : x ≠ "__name__" := by decide) (hd' : (x == ("__debug__" : Str)) = false := by decide)
    (he : starEach [a, .Name x p'] X.env = (false, eval a X.env) :: starEach [.Name x p'] X.env := by rfl) (he2 : starEach [.Name x p'] X.env = (false, eval (.Name x p') X.env) :: starEach [] X.env := by rfl) (hpl : (backTo pos (starEach [.Name x p'] X.env)).any (·.1) = false := by rfl) :
    DE X fl .FC (.Call (.Name "isinstance" p) [a, .Name x p'] [] pos) (dUn (gIs T) f) :=
  PE.imp (pe_callB call_isD hg hm boot_isinstance (pa_cons h (pa_cons (pe_bltn (v := .ty T) hg' hm' hv' rfl hn' hd') pa_nil he2) he) (by decide) (by decide) he hpl) fun σ H Q h => by
  obtain ⟨G, ow, δ, d, R, hf, q⟩ := h
  obtain ⟨x, e1, e2⟩ := bind1 hf
  cases e2
  exact ⟨G, ow, δ, x, R, e1, fun v H1 s1 r1 => ⟨v, T, x, rfl, hc, r1, q _ H1 s1 (.inl ⟨rfl, .bl _⟩)⟩⟩
end
def spD (K : PySem.W.Frag) (F : List D → Option D) : Sp := fun vs H Q _ => ∃ ds d, (Tb H ∧ RAs K ok1 true H vs ds) ∧ F ds = some d ∧ ∀ v H', Same H H' → RA K (okN H) false H' v d → Q v H'
section
variable {P : Program} {w : World} {K : PySem.W.Frag} {mg : Str → Option Value} {base : Heap} {x : Str} {ps N : List Str} {st : Stmt} {k n : Nat} {fs : FS} {fl : List Fl}
theorem rel_start {vs : List V} {ds : List D} {H : Hp} (p : Nat) (hp : ∀ i, i < p → fl[i]? = some .A) (hl : ds.length = p) (hN : p ≤ N.length) (r' : Tb H ∧ RAs K ok1 true H vs ds) :
    Rel K fl ⟨H, H, fun _ => none, fun _ => [], r'.1⟩ ow0 (L2.start N vs) H (ds.map (fun d => some (.d d)) ++ List.replicate (N.length - p) none) := by
  have r := r'.2
  have hv : vs.length = p := by rw [r.length]; exact hl
  have get : ∀ i d, (ds.map (fun d => some (U.d d)) ++ List.replicate (N.length - p) none)[i]? = some (some (.d d)) → i < p ∧ ds[i]? = some d := fun i d h => by
    by_cases hi : i < p
    · rw [List.getElem?_append_left (by rw [List.length_map, hl]; exact hi), List.getElem?_map] at h
      cases e : ds[i]? with
      | none => rw [e] at h; cases h
      | some z => rw [e] at h; cases h; exact ⟨hi, rfl⟩
    · rw [List.getElem?_append_right (by rw [List.length_map, hl]; omega), List.getElem?_replicate] at h
      split at h <;> cases h
  refine ⟨Same.refl H, Same.refl H, ?_, fun i a h => (by cases h), fun i j a h => (by cases h), fun i h => rfl, fun i d h _ _ => ?_, fun i d h _ h2 _ => ?_, fun i a h => (by cases h), fun i j a h => (by cases h), fun i j a h => (by cases h), fun i h => rfl, fun i d hn h => ?_⟩
  · unfold L2.start
    simp only [List.length_append, List.length_map, List.length_replicate, hv, hl]
  · obtain ⟨hi, e⟩ := get i d h
    obtain ⟨v, e1, e2⟩ := r.get e
    refine ⟨v, ?_, e2.imp (fun _ _ => ⟨fun i z => (by cases z), fun i z => (by cases z)⟩) (fun z => z)⟩
    unfold L2.start
    rw [List.getElem?_append_left (by rw [List.length_map, hv]; exact hi), List.getElem?_map, e1]
    rfl
  · exact absurd (hp i (get i d h).1) h2
  · rw [hp i (get i d h).1] at hn
    cases hn
end
section
variable {X : Cx} {fl : List Fl} {e : Expr} {es : List Expr} {pos p : Pos} {x : Str} {ps : List Str} {n : Nat} {F : List D → Option D} {fa : FA}
theorem de_call (h : Has X.prog X.w X.K X.mg X.base n x ps (spD X.K F)) (hr : Room n X.A) (ha : DB X fl .P (e :: es) fa) (hg : Gl X x := by rfl) (hdb : (x == ("__debug__" : Str)) = false := by decide)
    (he : starEach (e :: es) X.env = (false, eval e X.env) :: starEach es X.env := by exact star_of rfl) (hpl : (backTo pos (starEach es X.env)).any (·.1) = false := by exact pl_of rfl) :
    DE X fl .C (.Call (.Name x p) (e :: es) [] pos) (dCall F fa) := PE.imp (pe_callH h hr ha hg hdb he hpl) fun σ H Q h => by
  obtain ⟨G, ow, δ, d, R, hf, q⟩ := h
  obtain ⟨ds, e1, e2⟩ := bind1 hf
  refine ⟨G, ow, δ, ds, R, e1, fun vs H' s r => ?_⟩
  show spD X.K F (vs ++ []) H' Q E0
  rw [List.append_nil]
  exact ⟨ds, d, ⟨R.tb.same s, r⟩, e2, fun v H2 s2 r2 => q v H2 (s.trans s2) (RA.imp (fun a z => s.free z) (fun z => z) r2)⟩
end
end D3
namespace D3
open PySem PySem.Spec PyProof.Rows L2 My
section
variable {X : Cx} {fl fl' : List Fl} {e a b c elt tg iter : Expr} {es ifs : List Expr} {k : Kd} {f fa fb fc : FE} {ft gt : FT} {pos : Pos} {scope : Scope} {ix L TT : List Nat} {fi : FA} {g : FG}
theorem pts_yes : PTs X [] (tDT X.K fl D3.tYes) := fun pins s σ H Q I h => by
  obtain ⟨G, ow, δ, b, R, hf, q⟩ := h
  cases hf
  exact pts_nil pins s σ H Q I (q H (Same.refl H))
theorem cap_rel {K : PySem.W.Frag} {G : Gh} {ow : Ow} {σ : St} {H H1 : Hp} {δ : DS} (t : Nat) (ix : List Nat) (hfl : ∀ i, i < t + ix.length → fl'[i]? = some .A) (R : Rel K fl G ow σ H δ) (s : Same H H1) :
    Rel K fl' ⟨H, H, fun _ => none, fun _ => [], R.tb⟩ ow0 (capσ t ix σ) H1 (capD t ix δ) := by
  have get : ∀ i d, (capD t ix δ)[i]? = some (some (.d d)) → i < t + ix.length ∧ ∃ j, ix[i - t]? = some j ∧ t ≤ i ∧ δ[j]? = some (some (.d d)) := fun i d h => by
    unfold capD at h
    by_cases hi : i < t
    · rw [List.getElem?_append_left (by rw [List.length_replicate]; exact hi), List.getElem?_replicate, if_pos hi] at h
      cases h
    · rw [List.getElem?_append_right (by rw [List.length_replicate]; omega), List.length_replicate, List.getElem?_map] at h
      cases e : ix[i - t]? with
      | none => rw [e] at h; cases h
      | some j =>
        rw [e] at h
        have hl : i - t < ix.length := by
          rcases Nat.lt_or_ge (i - t) ix.length with z | z
          · exact z
          · rw [List.getElem?_eq_none z] at e; cases e
        refine ⟨by omega, j, rfl, by omega, ?_⟩
        have h' : (δ[j]?).getD none = some (.d d) := by simpa using h
        cases q : δ[j]? with
        | none => rw [q] at h'; cases h'
        | some o => rw [q] at h'; simp at h'; rw [h']
  refine ⟨Same.refl H, s, ?_, fun i a h => (by cases h), fun i j a h => (by cases h), fun i h => rfl, fun i d h _ _ => ?_, fun i d h _ h2 _ => absurd (hfl i (get i d h).1) h2, fun i a h => (by cases h), fun i j a h => (by cases h), fun i j a h => (by cases h), fun i h => rfl, fun i d hn h => (by rw [hfl i (get i d h).1] at hn; cases hn)⟩
  · unfold capσ capD
    simp
  · obtain ⟨hi, j, ej, ht, ed⟩ := get i d h
    have key : ∃ v, σ[j]? = some (some v) ∧ RA K ok1 true H v d := by
      cases hN : isN fl[j]? with
      | true =>
        obtain ⟨v, h1, h2, _⟩ := R.nr j d hN ed
        exact ⟨v, h1, h2.ra fun _ _ => trivial⟩
      | false =>
      cases ho : ow j with
      | none =>
        obtain ⟨v, h1, h2⟩ := R.dat j d ed hN ho
        exact ⟨v, h1, h2.imp (fun _ _ => trivial) (fun z => z)⟩
      | some a =>
        obtain ⟨_, _, xs, ds, h1, h2, h3, h4⟩ := R.own j a ho
        rw [ed] at h4
        cases h4
        exact ⟨_, h1, .lst h2 trivial (h3.imp (fun _ _ => trivial) (fun z => z))⟩
    obtain ⟨v, h1, h2⟩ := key
    refine ⟨v, ?_, (h2.imp (fun _ _ => ⟨fun i z => (by cases z), fun i z => (by cases z)⟩) (fun z => z)).same s⟩
    unfold capσ
    rw [List.getElem?_append_right (by rw [List.length_replicate]; omega), List.length_replicate, List.getElem?_map, ej]
    show some ((σ[j]?).getD none) = _
    rw [h1]
    rfl
theorem comp_bridge {σ : St} {H : Hp} {Q : VK} {t : Nat} (hfl : ∀ i, i < t + ix.length → fl'[i]? = some .A) (htg : ∀ j ∈ TT, j < t)
    (h : tD X.K fl .FC (dComp fi g ft f t ix) σ H Q) : tComp (tDI X.K fl L fi) (tDG X.K fl' TT g) (tDT X.K fl' ft) (tD X.K fl' .C f) t (capσ t ix) σ H Q := by
  obtain ⟨G, ow, δ, d, R, hf, q⟩ := h
  obtain ⟨l, e1, e2⟩ := bind1 hf
  by_cases hl : l.length ≤ 100000
  case neg => rw [if_neg hl] at e2; cases e2
  rw [if_pos hl] at e2
  obtain ⟨r, e3, e4⟩ := bind1 e2
  cases e4
  refine ⟨G, ow, δ, l, R, e1, fun J H1 s1 wk Dl hD => ?_⟩
  have R1 := R.grow s1
  let okD : Ok := fun b => okN H b ∧ b ≠ Dl
  refine ⟨fun i m xs H2 => m = l.length - i ∧ H2 Dl = some (.lst xs) ∧ Same H1 H2 ∧ xs.length ≤ i ∧ i ≤ l.length ∧ ∃ ds rest, RAs X.K okD false H2 xs ds ∧ compD g ft f (capD t ix δ) (l.drop i) = some rest ∧ r = ds ++ rest,
    ⟨_, rfl, upd_same, same_new hD _, Nat.le_refl _, Nat.zero_le _, [], r, .nil, by simpa using e3, rfl⟩, ?_⟩
  rintro i m xs H2 ⟨rfl, hDl, s2, hxl, hil, ds, rest, hr, hc, rfl⟩
  refine ⟨hDl, ?_⟩
  obtain ⟨w1, w2⟩ := wk H2 (fun b o hb _ _ => s2 b o hb) i
  by_cases hlt : i < l.length
  · have hdrop : l.drop i = l[i] :: l.drop (i + 1) := List.drop_eq_getElem_cons hlt
    rw [hdrop, compD] at hc
    obtain ⟨δ1, e5, hc⟩ := bind1 hc
    obtain ⟨bb, e6, hc⟩ := bind1 hc
    obtain ⟨go, yl⟩ := w1 l[i] (List.getElem?_eq_getElem hlt)
    refine .inr ⟨go, Nat.lt_of_le_of_lt (Nat.le_trans hxl (Nat.le_trans hil hl)) (by decide), fun x H3 hy => ?_⟩
    obtain ⟨s3, r3⟩ := yl x H3 hy
    have s13 := s2.trans s3
    have Rb := (cap_rel t ix hfl R1 (Same.refl H1)).grow s13
    refine ⟨_, _, _, _, δ1, Rb, r3.imp (fun _ _ => ⟨fun i z => (by cases z), fun i z => (by cases z)⟩) (fun z => z), e5, fun σ4 R4 keep4 => ⟨?_, ?_⟩⟩
    · apply List.ext_getElem?
      intro n
      rw [List.getElem?_drop, List.getElem?_drop]
      exact keep4 (t + n) fun z => absurd (htg _ z) (by omega)
    · refine ⟨_, _, δ1, bb, R4, e6, fun H5 s5 => ?_⟩
      cases bb with
      | false =>
        rw [if_neg Bool.false_ne_true] at hc ⊢
        have s35 := s3.trans s5
        exact ⟨l.length - (i + 1), by omega, rfl, s35 _ _ hDl, s2.trans s35, by omega, hlt, ds, rest, hr.same s35, hc, rfl⟩
      | true =>
        rw [if_pos rfl] at hc ⊢
        obtain ⟨y, e7, hc⟩ := bind1 hc
        obtain ⟨l', e8, hc⟩ := bind1 hc
        cases hc
        refine ⟨_, _, δ1, y, R4.grow s5, e7, fun v H6 s6 r6 => ?_⟩
        have s35 := s3.trans s5
        have s36 := s35.trans s6
        refine ⟨s36 _ _ hDl, l.length - (i + 1), by omega, rfl, upd_same, ?_, by rw [List.length_append, List.length_singleton]; omega, hlt, ds ++ [y], l', ?_, e8, by simp⟩
        · intro b o hb
          rw [upd_ne (fun z => by subst z; rw [hD] at hb; cases hb)]
          exact (s2.trans s36) b o hb
        · have nd : ¬ okD Dl := fun z => z.2 rfl
          have s05 : Same H H5 := s1.trans (s2.trans s35)
          have ry : RA X.K okD false H6 v y := RA.imp (fun b z => ⟨s05.free z, fun e => by subst e; rw [okN, s35 _ _ hDl] at z; cases z⟩) (fun z => z) r6
          exact ((hr.same s36).append (.cons ry .nil)).upd (s36 _ _ hDl) nd
  · have ed : l.drop i = [] := List.drop_eq_nil_of_le (by omega)
    rw [ed, compD] at hc
    cases hc
    refine .inl ⟨w2 (by omega), ?_⟩
    rw [List.append_nil] at q
    exact q (.ref Dl) H2 (s1.trans s2) (.inr ⟨Dl, xs, ds, rfl, rfl, s1.free hD, hDl, hr⟩)
theorem de_comp (hc : X.calm = true) (T Vn : List Str) (ix : List Nat) (hi : DI X fl L tg iter fi)
    (hg : ∀ cl C s3 H3 fp, DG (blk X (T ++ Vn) scope cl C s3 H3 fp) fl' TT tg g) (ht : ∀ cl C s3 H3 fp, PTs (blk X (T ++ Vn) scope cl C s3 H3 fp) ifs (tDT X.K fl' ft)) (he : ∀ cl C s3 H3 fp, DE (blk X (T ++ Vn) scope cl C s3 H3 fp) fl' .C elt f)
    (hfl : ∀ i, i < T.length + ix.length → fl'[i]? = some .A := by decide) (htg : ∀ j ∈ TT, j < T.length := by decide)
    (hB : capB X.N X.env.scope.names scope.names Vn ix = true := by rfl) (hk : scope.kind = .function := by rfl) (hcell : ∀ y ∈ scope.names, y.2 ≠ .cell := by decide +kernel)
    (hnames : ∀ x ∈ scope.names, x.2 = .local → scope.names.lookup x.1 = some .local := by decide +kernel)
    (hfr : ∀ x ∈ scope.names, x.2 = .free → x.1 ∈ Vn := by decide +kernel) (hs : ∀ x, foldedSetIterable iter X.env x = pure x := by intro _; rfl) :
    DE X fl .FC (.ListComp elt [⟨tg, iter, ifs, 0⟩] scope pos) (dComp fi g ft f T.length ix) :=
  PE.imp (pe_comp hc T Vn ix hi hg ht he hB hk hcell hnames hfr hs) fun _ _ _ h => comp_bridge hfl htg h
theorem ds_setCA {i : Nat} {x : Str} {pos' spos : Pos} (hfx : fl[i]? = some .A) (hN : X.N.Nodup) (hi' : X.N[i]? = some x) (hx : X.env.scope.names.lookup x = some .local) (hc : X.calm = true) (T Vn : List Str) (ix : List Nat) (hi : DI X fl L tg iter fi)
    (hg : ∀ cl C s3 H3 fp, DG (blk X (T ++ Vn) scope cl C s3 H3 fp) fl' TT tg g) (ht : ∀ cl C s3 H3 fp, PTs (blk X (T ++ Vn) scope cl C s3 H3 fp) ifs (tDT X.K fl' ft)) (he : ∀ cl C s3 H3 fp, DE (blk X (T ++ Vn) scope cl C s3 H3 fp) fl' .C elt f)
    (hfl : ∀ i, i < T.length + ix.length → fl'[i]? = some .A := by decide) (htg : ∀ j ∈ TT, j < T.length := by decide)
    (hsw : swapsWith (.ListComp elt [⟨tg, iter, ifs, 0⟩] scope pos) (some (.Name x pos')) spos.line X.env = pure true := by rfl)
    (hB : capB X.N X.env.scope.names scope.names Vn ix = true := by rfl) (hk : scope.kind = .function := by rfl) (hcell : ∀ y ∈ scope.names, y.2 ≠ .cell := by decide +kernel)
    (hnames : ∀ x ∈ scope.names, x.2 = .local → scope.names.lookup x.1 = some .local := by decide +kernel)
    (hfr : ∀ x ∈ scope.names, x.2 = .free → x.1 ∈ Vn := by decide +kernel) (hs : ∀ x, foldedSetIterable iter X.env x = pure x := by intro _; rfl) :
    DS1 X fl (.Assign [.Name x pos'] (.ListComp elt [⟨tg, iter, ifs, 0⟩] scope pos) spos) (sSetl i (dComp fi g ft f T.length ix)) :=
  PS.imp (ps_setC hN hi' hx hc T Vn ix hi hg ht he hsw hB hk hcell hnames hfr hs) fun Dn σ H h => by
  obtain ⟨G, ow, δ, o, R, hf, q⟩ := h
  unfold sSetl at hf
  by_cases hl : i < δ.length
  · rw [if_pos hl] at hf
    obtain ⟨d, e1, e2⟩ := bind1 hf
    cases e2
    exact comp_bridge (fl := fl) hfl htg ⟨G, ow, δ, d, R, e1, fun v H' s r => q ow _ H' ((R.grow s).setA hfx (slot_lt R hl) ((r.FC_F R).F_A R))⟩
  · rw [if_neg hl] at hf
    cases hf
theorem B_list {K : PySem.W.Frag} {H0 : Hp} {ow : Ow} {Hb H : Hp} {L : List Nat} {v : V} {l : List D} (r : Rs K H0 ow Hb H (.B L) v (.list l)) : ∃ a xs, v = .ref a ∧ SqL K H a xs ∧ RAs K (okA ow) true H xs l := by
  rcases r with r | ⟨i, hi, a, xs, ds, ho, rfl, e, hx, hr⟩
  · exact r.lstE
  · cases e
    exact ⟨a, xs, rfl, SqL.of hx, hr⟩
def tDO (K : PySem.W.Frag) (fl : List Fl) (f : FO) : TO := fun σ H Q => ∃ G ow δ o, Rel K fl G ow σ H δ ∧ f δ = some o ∧ ∀ H', Same H H' → Q o H'
theorem PO.imp {o : Option Expr} {t t' : TO} (h : PO X o t) (i : ∀ σ H Q, t' σ H Q → t σ H Q) : PO X o t' := fun pins s σ H Q I q => h pins s σ H Q I (i σ H Q q)
theorem do_none : PO X none (tDO X.K fl oNone) := PO.imp po_none fun σ H Q h => by
  obtain ⟨G, ow, δ, o, R, hf, q⟩ := h
  cases hf
  exact q H (Same.refl H)
theorem do_part (h : DE X fl .P e f) : PO X (some e) (tDO X.K fl (oPart f)) := PO.imp (po_some h) fun σ H Q h => by
  obtain ⟨G, ow, δ, o, R, hf, q⟩ := h
  obtain ⟨d, e1, e2⟩ := bind1 hf
  split at e2
  · cases e2
    refine ⟨G, ow, δ, _, R, e1, fun v H1 s1 r1 => ?_⟩
    obtain rfl := RA.intE r1
    exact ⟨_, rfl, q H1 s1⟩
  · cases e2
end
end D3
namespace D3
open PySem PySem.Spec PyProof.Rows L2 My
section
variable {X : Cx} {pins : List (Addr × Obj)} {σ : St} {H : Hp} {s : Shared} {h' : Heap}
end
section
variable {X : Cx} {fl : List Fl} {a : Expr} {f : FE} {pos : Pos}
end
structure Bl (mg : Str → Option Value) : Prop where
  len_ : mg "len" = none
  range_ : mg "range" = none
  abs_ : mg "abs" = none
  isinstance_ : mg "isinstance" = none
  int_ : mg "int" = none
  bool_ : mg "bool" = none
  tuple_ : mg "tuple" = none
  list_ : mg "list" = none
  str_ : mg "str" = none
  max_ : mg "max" = none
  min_ : mg "min" = none
  sorted_ : mg "sorted" = none
  sum_ : mg "sum" = none
  reversed_ : mg "reversed" = none
  enumerate_ : mg "enumerate" = none
  zip_ : mg "zip" = none
  set_ : mg "set" = none
  any_ : mg "any" = none
  all_ : mg "all" = none
  dict_ : mg "dict" = none
end D3
namespace D3
open PySem PySem.Spec PyProof.Rows L2 My
structure FunD (K : PySem.W.Frag) (x : Str) (st : Stmt) (f : Addr) (fd : FuncData) : Prop where
  ex : ∃ (oc : Value) (od : Option Addr) (dV kV doc pm : Value) (an : Option Addr) (cdv ct : Value) (osl : Array (Option Value)),
    fd = PySem.W.fnOf x x (defArgs st) (defBody st) (defScope st) dV kV doc pm an cdv ct ∧ K.lookup f = some ⟨oc, od, .func fd, osl⟩ ∧ PySem.W.codeIn K cdv x = true
  kp : PySem.W.keepIn K (.ref f) = true
structure Dg (K : PySem.W.Frag) (mg : Str → Option Value) (x : Str) (st : Stmt) (ps : List Str) : Prop where
  ex : ∃ (f : Addr) (fd : FuncData), FunD K x st f fd ∧ Binds K fd ps [] ∧ mg x = some (.ref f)
theorem dg_mk {K : PySem.W.Frag} {h : Heap} {mg : Str → Option Value} {f : Addr} {oc kV dc pm cd ct : Value} {od an : Option Addr} {sl : Array (Option Value)} {x : Str} {st : Stmt} {ps : List Str} (X : K.In h) (G : h.Ns mainGlobals mg)
    (hb : ∀ (kV doc pm : Value) (an : Option Addr) (cdv ct : Value) (us : List Value), us.length = ps.length → bindArgs (PySem.W.fnOf x x (defArgs st) (defBody st) (defScope st) .none kV doc pm an cdv ct) ⟨us, []⟩ = pure (ps.zip us))
    (a : PySem.W.nsIn K mainGlobals x = some (some (.ref f))) (l : K.lookup f = some ⟨oc, od, .func (PySem.W.fnOf x x (defArgs st) (defBody st) (defScope st) .none kV dc pm an cd ct), sl⟩) (c : PySem.W.codeIn K cd x = true) (k : PySem.W.keepIn K (.ref f) = true) : Dg K mg x st ps :=
  ⟨_, _, ⟨⟨oc, od, .none, kV, dc, pm, an, cd, ct, sl, rfl, l, c⟩, k⟩, .all (hb kV dc pm an cd ct), PySem.W.mg_of X G a⟩
structure Dl (K : PySem.W.Frag) (mg : Str → Option Value) (x y : Str) (st : Stmt) : Prop where
  ex : ∃ (f : Addr) (fd : FuncData), FunD K x st f fd ∧ (∀ (s : Shared) (u : Value), BindsTo s fd ⟨[u], []⟩ [(y, u)]) ∧ mg x = some (.ref f)
theorem dl_mk {K : PySem.W.Frag} {h : Heap} {mg : Str → Option Value} {f : Addr} {oc kV dc pm cd ct : Value} {od an : Option Addr} {sl : Array (Option Value)} {x y : Str} {st : Stmt} (X : K.In h) (G : h.Ns mainGlobals mg)
    (hb : ∀ (kV doc pm : Value) (an : Option Addr) (cdv ct : Value) (u : Value), bindArgs (PySem.W.fnOf x x (defArgs st) (defBody st) (defScope st) .none kV doc pm an cdv ct) ⟨[u], []⟩ = pure [(y, u)])
    (a : PySem.W.nsIn K mainGlobals x = some (some (.ref f))) (l : K.lookup f = some ⟨oc, od, .func (PySem.W.fnOf x x (defArgs st) (defBody st) (defScope st) .none kV dc pm an cd ct), sl⟩) (c : PySem.W.codeIn K cd x = true) (k : PySem.W.keepIn K (.ref f) = true) : Dl K mg x y st :=
  ⟨_, _, ⟨⟨oc, od, .none, kV, dc, pm, an, cd, ct, sl, rfl, l, c⟩, k⟩, fun s u => .of_eq (hb kV dc pm an cd ct u), PySem.W.mg_of X G a⟩
section
variable {P : Program} {w : World} {K : PySem.W.Frag} {mg : Str → Option Value} {base : Heap} {x : Str} {ps N : List Str} {st : Stmt} {k n : Nat} {fs : FS} {fl : List Fl}
theorem FunD.ok {f : Addr} {fd : FuncData} {sp : Sp} (F : FunD K x st f fd) (S : FnScope N ps (defScope st)) (len : ∀ vs H Q E, sp vs H Q E → vs.length = ps.length)
    (hbody : ∀ (cdv : Value) (A : Around) (outer : List Env) (s : Shared) (H : Hp) (vs : List V) (Q : VK) (E : XK), Room k (A.deeper (envOfC x (defScope st) s.heap.objs.size f cdv)) → sp vs H Q E →
      ∃ t, PSs (cxOf CX0 P w K mg base N x (defScope st) f cdv A outer s H E).nox (defBody st) t ∧ t { nx := fun _ H' => Q .non H', rt := Q } (L2.start N vs) H) : FnOk P w K mg base CX0 (k + 1) f fd ps sp := by
  obtain ⟨oc, od, dV, kV, doc, pm, an, cdv, ct, osl, rfl, lk, hcd⟩ := F.ex
  refine fn_of lk hcd S len fun A outer s H vs Q E hr hsp => ?_
  obtain ⟨t, h, q⟩ := hbody cdv A outer s H vs Q E hr hsp
  exact ⟨t, h.nox, q⟩
theorem fun_ok {f : Addr} {fd : FuncData} (Fn : FunD K x st f fd) (S : FnScope N ps (defScope st)) (hp : ∀ i, i < ps.length → fl[i]? = some .A) (hN : ps.length ≤ N.length)
    (hbody : ∀ (f : Addr) (cdv : Value) (A : Around) (outer : List Env) (s : Shared) (H : Hp) (E : XK), Room k (A.deeper (envOfC x (defScope st) s.heap.objs.size f cdv)) → DSs (cx P w K mg base N x st f cdv A outer s H E) fl (defBody st) fs) :
    FnOk P w K mg base CX0 (k + 1) f fd ps (spD K (fnD ps.length (N.length - ps.length) fs)) := by
  refine Fn.ok S (fun vs H Q E h => ?_) (fun cdv A outer s H vs Q E hr h => ?_)
  · obtain ⟨ds, d, r, hf, _⟩ := h
    unfold fnD at hf
    by_cases z : ds.length = ps.length
    · rw [r.2.length]; exact z
    · rw [if_neg z] at hf; cases hf
  · obtain ⟨ds, d, r, hf, q⟩ := h
    refine ⟨_, hbody f cdv A outer s H E hr, ?_⟩
    unfold fnD at hf
    by_cases z : ds.length = ps.length
    · rw [if_pos z] at hf
      split at hf
      · next d' e =>
        cases hf
        exact ⟨_, _, _, _, rel_start ps.length hp z hN r, e, fun v H' s r => q v H' s r⟩
      · next δ' e =>
        cases hf
        exact ⟨_, _, _, _, rel_start ps.length hp z hN r, e, fun ow' σ' H' R' => q .non H' R'.same0 .non⟩
      · cases hf
    · rw [if_neg z] at hf; cases hf
theorem dg_ok (Dd : Dg K mg x st ps) (S : FnScope N ps (defScope st)) (hp : ∀ i, i < ps.length → fl[i]? = some .A) (hN : ps.length ≤ N.length)
    (hbody : ∀ (f : Addr) (cdv : Value) (A : Around) (outer : List Env) (s : Shared) (H : Hp) (E : XK), Room k (A.deeper (envOfC x (defScope st) s.heap.objs.size f cdv)) → DSs (cx P w K mg base N x st f cdv A outer s H E) fl (defBody st) fs) :
    Has P w K mg base (k + 1) x ps (spD K (fnD ps.length (N.length - ps.length) fs)) := by
  obtain ⟨f, fd, Fn, b, m⟩ := Dd.ex
  exact ⟨f, fd, fun_ok Fn S hp hN hbody, b, Fn.kp, m⟩
end
def spLaw (K : PySem.W.Frag) : Sp := fun vs H Q _ => ∃ (a : Addr) (ns : List Int), Tb H ∧ vs = [.ref a] ∧ SqL K H a (ns.map V.int) ∧ ns.length ≤ 63 ∧ ∀ H', Q (.bl true) H'
theorem ra_ints {K : PySem.W.Frag} {ok : Ok} {pl : Bool} {H : Hp} : ∀ ns : List Int, RAs K ok pl H (ns.map V.int) (ns.map PyData.int)
  | [] => .nil
  | n :: r => .cons (.int n) (ra_ints r)
theorem law_imp {K : PySem.W.Frag} {F : List D → Option D} (hF : ∀ ns : List Int, ns.length ≤ 63 → F [.list (ns.map .int)] = some (.bool true)) (vs : List V) (H : Hp) (Q : VK) (E : XK) (h : spLaw K vs H Q E) : spD K F vs H Q E := by
  obtain ⟨a, ns, tb, rfl, hS, hl, q⟩ := h
  refine ⟨_, _, ⟨tb, .cons ?_ .nil⟩, hF ns hl, fun v H' s r => ?_⟩
  · rcases hS with (h | ⟨o, h⟩) | h
    · exact .lst h trivial (ra_ints ns)
    · exact .lsk (.inl ⟨o, h⟩) rfl (ra_ints ns)
    · exact .lsk (.inr h) rfl (ra_ints ns)
  · obtain rfl := r.blE
    exact q H'
end D3
namespace D3
open PySem PySem.Spec PyProof.Rows L2 My
section
variable {prog : Program} {w : World} {A : Around} {E : Value → Shared → Prop} {s : Shared}
end
section
variable {X : Cx} {fl : List Fl} {a : Expr} {f : FE} {pos p p2 pos2 : Pos}
end
section
variable {X : Cx} {fl : List Fl} {a b : Expr} {pos p p2 pos2 : Pos} {fa : FA}
end
end D3
namespace D3
open PySem PySem.Spec PyProof.Rows L2 My
section
variable {X : Cx}
theorem ints_are : ∀ {ns : List Int} {its : List Value}, Vals (ns.map V.int) its → IntsAre its ns
  | [], _, .nil => .nil
  | n :: r, _, .cons h t => by
    obtain ⟨k, rfl⟩ := h
    exact .cons _ _ (ints_are t)
theorem intsD_ra {K : PySem.W.Frag} {ok : Ok} {pl : Bool} {H : Hp} : ∀ {l : List D} {ns : List Int} {ys : List V}, intsD l = some ns → RAs K ok pl H ys l → ys = ns.map V.int
  | [], _, _, e, .nil => by cases e; rfl
  | d :: r, ns, _, e, .cons h t => by
    cases d <;> first | (cases e; done) | skip
    obtain rfl := h.intE
    cases e2 : intsD r with
    | none => rw [intsD, e2] at e; cases e
    | some m =>
      rw [intsD, e2] at e
      cases e
      rw [intsD_ra e2 t]
      rfl
theorem b_sum {K : PySem.W.Frag} : BrC K (fun xs H Q => ∃ (p : Addr) (ns : List Int), xs = [.ref p] ∧ SqL K H p (ns.map V.int) ∧ Q (.int ns.sum) H) gSum := by
  intro H xs ds d Q r e q
  unfold gSum at e
  split at e
  · next l =>
    cases e2 : intsD l with
    | none => rw [e2] at e; cases e
    | some ns =>
      rw [e2] at e
      cases e
      cases r with
      | cons r1 r2 =>
        cases r2
        obtain ⟨a, ys, rfl, hx, hr⟩ := r1.lstE
        obtain rfl := intsD_ra e2 hr
        exact ⟨a, ns, rfl, hx, q _ rfl (.int _)⟩
  · cases e
theorem vals_ints : ∀ {ns : List Int} {its : List Value}, IntsAre its ns → Vals (ns.map V.int) its
  | _, _, .nil => .nil
  | _, _, .cons n t r => .cons ⟨t, rfl⟩ (vals_ints r)
theorem mt_index : MtR X "list.index" (fun x xs H Q => ∃ (p : Addr) (ns : List Int) (k : Int), x = .ref p ∧ xs = [.int k] ∧ SqL X.K H p (ns.map V.int) ∧ k ∈ ns ∧ Q (.int (ns.idxOf k : Nat)) H) := by
  intro pins s σ H x xs v us Q I rx rv h
  obtain ⟨p, ns, k, rfl, rfl, hx, hk, q⟩ := h
  cases rx
  obtain ⟨u, rfl, t, rfl⟩ := vals1 rv
  obtain ⟨its, rvs, pl, hz⟩ := I.list hx
  have hi := ints_are rvs
  obtain ⟨⟨cls, dd, data, sl⟩, ho, hc, n, hd⟩ := id pl.isList
  simp only at hc hd
  subst hc hd
  have hlen := hi.length
  have hj : ns.idxOf k < ns.length := List.idxOf_lt_length_iff.mpr hk
  rw [List.length_map] at hz
  have hz2 : ns.length ≤ 16777216 := by rw [sizeLine_eq] at hz; exact hz
  refine call_meets PySem.F.slot_list_index ⟨_, ho, rfl⟩ PySem.F.entry_list_index (PySem.F.args_list_index_2 _ _)
    (PySem.SeqAt.list_indexAt p its.toArray n dd sl (.int k t) (isInt k) (ns.idxOf k) (by simpa [hlen] using hj) (by omega) ?_ ?_) ⟨ho, fun y hy => (eq_isInt k t hi y (by simpa using hy)).at _ _, ⟨.int _, H, I.tok _, ⟨_, rfl⟩, q⟩⟩
  · show isInt k its[ns.idxOf k] = true
    rw [isInt_at k hi _ (by omega) hj]
    simpa using List.getElem_idxOf hj
  · intro j hjs hlt
    show isInt k its[j] = false
    rw [isInt_at k hi j (by simpa using hjs) (by omega)]
    exact ne_of_lt_idxOf hlt _
end
end D3
namespace D3
open PySem PySem.Spec PyProof.Rows L2 My
def gK (n : Nat) (us ws : List α) : List α := if ws.length = n then us ++ ws else []
structure HasD (P : Program) (w : World) (K : PySem.W.Frag) (mg : Str → Option Value) (base : Heap) (n : Nat) (x : Str) (ps : List Str) (sp : Sp) (dvs : List V) (ks : List Str) : Prop where
  ex : ∃ (f : Addr) (fd : FuncData) (ds : List Value), FnOk P w K mg base CX0 n f fd ps sp ∧ Binds K fd ps ds ∧ Vals dvs ds ∧ KBinds K fd ps ks (gK ks.length) (gK ks.length) ∧ PySem.W.keepIn K (.ref f) = true ∧ mg x = some (.ref f)
structure DgD (K : PySem.W.Frag) (mg : Str → Option Value) (x : Str) (st : Stmt) (ps : List Str) (dvs : List V) (ks : List Str) : Prop where
  ex : ∃ (f : Addr) (fd : FuncData) (ds : List Value), FunD K x st f fd ∧ Binds K fd ps ds ∧ Vals dvs ds ∧ KBinds K fd ps ks (gK ks.length) (gK ks.length) ∧ mg x = some (.ref f)
section
variable {P : Program} {w : World} {K : PySem.W.Frag} {mg : Str → Option Value} {base : Heap} {x : Str} {ps N ks : List Str} {st : Stmt} {k n : Nat} {fs : FS} {fl : List Fl} {dvs : List V}
theorem HasD.mono {sp : Sp} (h : HasD P w K mg base k x ps sp dvs ks) (l : k ≤ n) : HasD P w K mg base n x ps sp dvs ks := by
  obtain ⟨f, fd, ds, F, b, v, kb, kp, m⟩ := h.ex
  exact ⟨f, fd, ds, F.mono l, b, v, kb, kp, m⟩
end
section
variable {X : Cx} {fl : List Fl} {e ke : Expr} {es : List Expr} {pos p kpos : Pos} {x kn : Str} {ps : List Str} {n : Nat} {F : List D → Option D} {fa : FA} {fk : FE} {i : Int} {dvs : List V}
theorem b_int1 {K : PySem.W.Frag} : BrC K (fun xs H Q => (∃ i, xs = [.int i] ∧ Q (.int i) H) ∨ ∃ k, xs = [.bl k] ∧ Q (.int (if k then 1 else 0)) H) gInt := by
  intro H xs ds d Q r e q
  unfold gInt at e
  split at e
  · cases e
    cases r with
    | cons r1 r2 =>
      cases r2
      obtain rfl := r1.intE
      exact .inl ⟨_, rfl, q _ rfl (.int _)⟩
  · cases e
    cases r with
    | cons r1 r2 =>
      cases r2
      obtain rfl := r1.blE
      exact .inr ⟨_, rfl, q _ rfl (.int _)⟩
  · cases e
theorem dt_isN {j pos'} {a : Expr} {f : FE} (h : DE X fl .P a f) : DT X fl (.Compare a [.Is] [.Constant .none j pos'] pos) (tBool (dUn gIsN f)) := PT.imp (pt_cmp (pc_isN h)) fun σ H Q h => by
  obtain ⟨G, ow, δ, c, R, hf, q⟩ := h
  obtain ⟨d, e1, e2⟩ := bind1 hf
  obtain ⟨x, e3, e4⟩ := bind1 e1
  cases e4
  cases e2
  refine ⟨G, ow, δ, x, R, e3, fun v H1 s1 r1 => ?_⟩
  refine ⟨decide (v = .non), rfl, ?_⟩
  rw [isN_eq (RA.same (Same.refl H1) r1)]
  exact q H1 s1
theorem de_intc {p : Pos} (ha : DB X fl .P [e] fa) (hg : Gl X "int") (hm : X.mg "int" = none)
    (he : starEach [e] X.env = (false, eval e X.env) :: starEach [] X.env := by rfl) (hpl : (backTo pos (starEach [] X.env)).any (·.1) = false := by rfl) : DE X fl .FC (.Call (.Name "int" p) [e] [] pos) (dCall gInt fa) :=
  PE.imp (pe_callTy call_int1 hg hm boot_int ha (by decide) (by decide) he hpl) fun σ H Q h => by
  obtain ⟨G, ow, δ, d, R, hf, q⟩ := h
  obtain ⟨ds, e1, e2⟩ := bind1 hf
  exact ⟨G, ow, δ, ds, R, e1, fun vs H' s r' => b_int1 H' vs ds d Q r' e2 fun v hv rv => q v H' s (.inl ⟨hv, rv⟩)⟩
end
end D3
namespace D3
open PySem PySem.Spec PyProof.Rows L2 My
section
variable {X : Cx}
theorem bools_at : ∀ {bs : List Bool} {its : List Value}, Vals (bs.map V.bl) its → its = bs.map Value.bool
  | [], _, .nil => rfl
  | b :: r, _, .cons h t => by
    cases h
    rw [bools_at t]
    rfl
theorem all_range (bs : List Bool) : (List.range bs.length).all (fun i => bs.getD i false) = bs.all id := by
  rw [Bool.eq_iff_iff, List.all_eq_true, List.all_eq_true]
  constructor
  · intro h b hb
    obtain ⟨i, hi, rfl⟩ := List.getElem_of_mem hb
    have := h i (List.mem_range.mpr hi)
    rw [List.getD_eq_getElem?_getD, List.getElem?_eq_getElem hi] at this
    exact this
  · intro h i hi
    have hi := List.mem_range.mp hi
    rw [List.getD_eq_getElem?_getD, List.getElem?_eq_getElem hi]
    exact h _ (List.getElem_mem hi)
theorem bools_truth {prog : Program} {w : World} {A : Around} (bs : List Bool) : TruthOf prog w A (fun i v => (bs.map Value.bool).toArray[i]? = some v) (fun i => bs.getD i false) := by
  intro i v s Q E hv hQ
  have hv' : (bs.map Value.bool)[i]? = some v := by simpa using hv
  rw [List.getElem?_map] at hv'
  cases e : bs[i]? with
  | none => rw [e] at hv'; cases hv'
  | some b =>
    rw [e] at hv'
    cases hv'
    have eb : bs.getD i false = b := by rw [List.getD_eq_getElem?_getD, e]; rfl
    have hQ' : Q (bs.getD i false) s := hQ
    rw [eb] at hQ'
    exact wpAny_truthy_bool hQ'
theorem call_allL (hc : X.calm = true) : CallR X (.builtin "all") (fun xs H Q => ∃ (p : Addr) (bs : List Bool), xs = [.ref p] ∧ SqL X.K H p (bs.map V.bl) ∧ Q (.bl (bs.all id)) H) := by
  intro pins s σ H xs us Q I r h
  obtain ⟨p, bs, rfl, hx, q⟩ := h
  obtain ⟨u, rfl, rx⟩ := vals1 r
  cases rx
  obtain ⟨its, rvs, pl, hz⟩ := I.list hx
  obtain rfl := bools_at rvs
  have hl : s.heap.IsList p (bs.map Value.bool).toArray := pl.isList
  have hlt : p < s.heap.objs.size := by obtain ⟨_, e, _⟩ := id hl; exact Heap.lt_size e
  refine call_all_walk (wpAny_pyIter_list hl ?_)
  refine ⟨_, _, _, _, _, _, _, rfl, Walks.list (A := X.A.in1) (I.ok.hd hc) _ p (Nat.ne_of_lt hlt) (bs.map Value.bool).toArray, ⟨⟨_, Heap.get?_push_size _ rfl, rfl, rfl⟩, hl.push _⟩, bools_truth bs, fun h' tk hk => ?_⟩
  have e : (bs.map Value.bool).toArray.size = bs.length := by simp
  rw [e, all_range]
  exact ⟨.bl _, H, I.kept (old_kept hk), rfl, q⟩
theorem boolsD_ra {K : PySem.W.Frag} {ok : Ok} {pl : Bool} {H : Hp} : ∀ {l : List D} {bs : List Bool} {ys : List V}, boolsD l = some bs → RAs K ok pl H ys l → ys = bs.map V.bl
  | [], _, _, e, .nil => by cases e; rfl
  | d :: r, bs, _, e, .cons h t => by
    cases d <;> first | (cases e; done) | skip
    obtain rfl := h.blE
    cases e2 : boolsD r with
    | none => rw [boolsD, e2] at e; cases e
    | some m =>
      rw [boolsD, e2] at e
      cases e
      rw [boolsD_ra e2 t]
      rfl
theorem b_all {K : PySem.W.Frag} : BrC K (fun xs H Q => ∃ (p : Addr) (bs : List Bool), xs = [.ref p] ∧ SqL K H p (bs.map V.bl) ∧ Q (.bl (bs.all id)) H) gAll := by
  intro H xs ds d Q r e q
  unfold gAll at e
  split at e
  · next l =>
    cases e2 : boolsD l with
    | none => rw [e2] at e; cases e
    | some bs =>
      rw [e2] at e
      cases e
      cases r with
      | cons r1 r2 =>
        cases r2
        obtain ⟨a, ys, rfl, hx, hr⟩ := r1.lstE
        obtain rfl := boolsD_ra e2 hr
        exact ⟨a, bs, rfl, hx, q _ rfl (.bl _)⟩
  · cases e
theorem b_any {K : PySem.W.Frag} : BrC K (fun xs H Q => ∃ (p : Addr) (bs : List Bool), xs = [.ref p] ∧ SqL K H p (bs.map V.bl) ∧ Q (.bl (bs.any id)) H) gAny := by
  intro H xs ds d Q r e q
  unfold gAny at e
  split at e
  · next l =>
    cases e2 : boolsD l with
    | none => rw [e2] at e; cases e
    | some bs =>
      rw [e2] at e
      cases e
      cases r with
      | cons r1 r2 =>
        cases r2
        obtain ⟨a, ys, rfl, hx, hr⟩ := r1.lstE
        obtain rfl := boolsD_ra e2 hr
        exact ⟨a, bs, rfl, hx, q _ rfl (.bl _)⟩
  · cases e
end
section
variable {X : Cx} {fl : List Fl} {a : Expr} {f : FE} {pos : Pos} {ta : TE}
end
section
variable {X : Cx} {fl : List Fl} {a b c : Expr} {f fa fb fc : FE} {pos : Pos}
theorem dt_chain {op op' : CmpOp} {r r' : R2} {g g' : D → D → Option D} (ho : OpR X (compareOp op) r) (ho' : OpR X (compareOp op') r') (hb : BrO X.K r g) (hb' : BrO X.K r' g') (h1 : DE X fl .P a fa) (h2 : DE X fl .P b fb) (h3 : DE X fl .P c fc)
    (hm : lastMarks [op, op'] [b, c] = false := by with_unfolding_all rfl) : DT X fl (.Compare a [op, op'] [b, c] pos) (tBool (dChain g g' fa fb fc)) := PT.imp (pt_chain ho ho' h1 h2 h3 hm) fun σ H Q h => by
  obtain ⟨G, ow, δ, bb, R, hf, q⟩ := h
  obtain ⟨d, hf, hd⟩ := bind1 hf
  have hd' : d = .bool bb := by cases d <;> first | (cases hd; rfl) | (cases hd; done)
  subst hd'
  obtain ⟨x, e1, hf⟩ := bind1 hf
  obtain ⟨y, e2, hf⟩ := bind1 hf
  obtain ⟨z, e3, hf⟩ := bind1 hf
  refine ⟨G, ow, δ, x, R, e1, fun v H1 s1 r1 => ⟨G, ow, δ, y, R.grow s1, e2, fun u H2 s2 r2 => ?_⟩⟩
  refine hb H2 v u x y z _ (RA.same s2 r1) r2 e3 fun zv hz rz => ?_
  split at hf
  · obtain rfl := rz.blE
    obtain ⟨w, e4, e5⟩ := bind1 hf
    refine ⟨true, rfl, iteT ⟨G, ow, δ, w, R.grow (s1.trans s2), e4, fun wv H3 s3 r3 => ?_⟩⟩
    refine hb' H3 u wv y w _ _ (RA.same s3 r2) r3 e5 fun z hz rz => ?_
    obtain rfl := rz.blE
    exact ⟨_, rfl, q H3 (s1.trans (s2.trans s3))⟩
  · obtain rfl := rz.blE
    cases hf
    exact ⟨false, rfl, iteF ⟨_, rfl, q H2 (s1.trans s2)⟩⟩
  · cases hf
end
section
variable {X : Cx} {fl : List Fl} {a b : Expr} {f g : FE} {pos : Pos}
theorem RsB.same {K : PySem.W.Frag} {G : Gh} {ow : Ow} {Hb H H' : Hp} {L : List Nat} {v : V} {d : D} (e : Same H H') (h : Rs K G.H0 ow Hb H (.B L) v d) : Rs K G.H0 ow Hb H' (.B L) v d := by
  rcases h with h | ⟨i, hi, a, xs, ds, h1, h2, h3, h4, h5⟩
  · exact .inl (RA.same e h)
  · exact .inr ⟨i, hi, a, xs, ds, h1, h2, h3, e _ _ h4, h5.same e⟩
end
end D3
namespace D3
open PySem PySem.Spec PyProof.Rows L2 My
theorem RTs.length {K : PySem.W.Frag} {H : Hp} : ∀ {v : List V} {d : List D} {as : List Addr}, RTs K H v d as → v.length = d.length
  | _, _, _, .nil => rfl
  | _, _, _, .cons _ q => by simp [RTs.length q]
section
variable {X : Cx} {fl : List Fl} {e a b c : Expr} {es rest : List Expr} {k : Kd} {f fa fb fc : FE} {ft gt : FT} {pos : Pos}
theorem de_dicT : DE X fl .T (.Dict [] [] pos) (dC (.dict [])) := PE.imp pe_dnewK fun σ H Q h => by
  obtain ⟨G, ow, δ, d, R, hf, q⟩ := h
  cases hf
  intro p hp
  exact q _ _ (same_new hp _) ⟨[p], .dic upd_same (.inl ⟨rfl, rfl⟩), List.nodup_cons.mpr ⟨List.not_mem_nil, .nil⟩, fun x hx => by rw [List.mem_singleton.mp hx]; exact hp⟩
theorem c_T_C (h : DE X fl .T e f) : DE X fl .C e f := de_cast h fun Hb H G ow σ δ v d R r => by
  obtain ⟨as, h1, h2, h3⟩ := r
  exact h1.ra h3
end
section
variable {K : PySem.W.Frag} {fl : List Fl}
def owN (ow : Ow) (i : Nat) (as : List Addr) : Ow := ⟨ow.s, fun j => if j = i then as else ow.n j⟩
theorem owN_eq {ow : Ow} {i : Nat} {as : List Addr} : (owN ow i as).n i = as := if_pos rfl
theorem owN_ne {ow : Ow} {i j : Nat} {as : List Addr} (h : j ≠ i) : (owN ow i as).n j = ow.n j := if_neg h
theorem Rel.mutN {G : Gh} {ow : Ow} {σ : St} {H : Hp} {δ : DS} {i : Nat} {a : Addr} {u u' : HO} [cu : Chg u] [cu' : Chg u'] {d : D} {v : V} {as : List Addr} (R : Rel K fl G ow σ H δ) (hfl : fl[i]? = some .N) (hi : i < δ.length) (ha : a ∈ ow.n i) (hx : H a = some u) (hv : σ[i]? = some (some v))
    (hr : RT K (upd H a u') v d as) (hs : ∀ b ∈ as, b ∈ ow.n i) (hd : as.Nodup) : ∃ ow', Rel K fl G ow' σ (upd H a u') (δ.set i (some (.d d))) := by
  have na : ¬ okA ow a := fun z => z.2 i ha
  have hF : G.HF a = none := by
    rcases (R.nt i a ha).2.2 with ⟨_, z⟩ | z
    · exact z
    · rw [hfl] at z; cases z
  have no : ∀ a, ow i ≠ some a := fun a z => by
    obtain ⟨_, hz, _⟩ := R.own i a z
    rw [hfl] at hz
    rcases hz with ⟨z, _⟩ | ⟨z, _⟩ <;> cases z
  have sub : ∀ b, okA ow b → okA (owN ow i as) b := fun b z => ⟨z.1, fun j e => by
    by_cases hj : j = i
    · subst hj
      rw [owN_eq] at e
      exact z.2 j (hs b e)
    · rw [owN_ne hj] at e
      exact z.2 j e⟩
  have tr : ∀ b, Chd (H b) → Chd (upd H a u' b) := fun b z => by
    by_cases hb : b = a
    · rw [hb, upd_same]; exact ⟨_, rfl, cu'⟩
    · rw [upd_ne hb]; exact z
  refine ⟨owN ow i as, R.s0, fun b o hb => ?_, by rw [List.length_set]; exact R.len, fun j b h => ?_, R.inj, R.pin, fun j d' g1 gn g2 => ?_, fun j d' g1 gn g2 g3 => ?_, fun j b h => ?_, fun j j' b h h' => ?_, fun j j' b h => ?_, fun j h => ?_, fun j d' gn g1 => ?_⟩
  · rw [upd_ne (fun z => by subst z; rw [hF] at hb; cases hb)]
    exact R.s1 b o hb
  · have hj : j ≠ i := fun z => no b (z ▸ h)
    obtain ⟨h0, hf, zs, ds, g1, g2, g3, g4⟩ := R.own j b h
    have hb : b ≠ a := fun z => R.ns i j a ha (z ▸ h)
    exact ⟨h0, hf, zs, ds, g1, by rw [upd_ne hb]; exact g2, (g3.upd hx na).imp sub (fun z => z), by rw [List.getElem?_set_ne (Ne.symm hj)]; exact g4⟩
  · rcases set_get g1 with ⟨rfl, e⟩ | ⟨hj, e⟩
    · rw [hfl] at gn; cases gn
    · obtain ⟨v', g3, g4⟩ := R.dat j d' e gn g2
      exact ⟨v', g3, (g4.upd hx na).imp sub (fun z => z)⟩
  · rcases set_get g1 with ⟨rfl, e⟩ | ⟨hj, e⟩
    · rw [hfl] at gn; cases gn
    · exact R.oo j d' e gn g2 g3
  · by_cases hj : j = i
    · subst hj
      rw [owN_eq] at h
      obtain ⟨g1, g2, g3⟩ := R.nt j b (hs b h)
      exact ⟨g1, tr b g2, g3⟩
    · rw [owN_ne hj] at h
      obtain ⟨g1, g2, g3⟩ := R.nt j b h
      exact ⟨g1, tr b g2, g3⟩
  · have old : ∀ j b, b ∈ (owN ow i as).n j → b ∈ ow.n j := fun j b h => by
      by_cases hj : j = i
      · subst hj; rw [owN_eq] at h; exact hs b h
      · rw [owN_ne hj] at h; exact h
    exact R.nd j j' b (old j b h) (old j' b h')
  · by_cases hj : j = i
    · subst hj; rw [owN_eq] at h; exact R.ns j j' b (hs b h)
    · rw [owN_ne hj] at h; exact R.ns j j' b h
  · have hj : j ≠ i := fun z => by subst z; rw [hfl] at h; cases h
    rw [owN_ne hj]
    exact R.np j h
  · rcases set_get g1 with ⟨rfl, e⟩ | ⟨hj, e⟩
    · cases e
      exact ⟨v, hv, by rw [owN_eq]; exact hr, by rw [owN_eq]; exact hd⟩
    · obtain ⟨v', g3, g4, g5⟩ := R.nr j d' gn e
      exact ⟨v', g3, by rw [owN_ne hj]; exact g4.upd hx (fun z => hj (R.nd j i a z ha)), by rw [owN_ne hj]; exact g5⟩
end
section
variable {K : PySem.W.Frag} {H : Hp}
theorem RTs.part {m : List D} : ∀ {vs : List V} {ds : List D} {as : List Addr} {k : Nat}, RTs K H vs ds as → ds[k]? = some (.list m) → ∃ a xs bs, vs[k]? = some (.ref a) ∧ H a = some (.lst xs) ∧ RTs K H xs m bs ∧ a ∈ as ∧ (∀ b ∈ bs, b ∈ as) ∧
    (as.Nodup → a ∉ bs ∧ bs.Nodup ∧ ∀ ys m' bs', RTs K (L2.upd H a (.lst ys)) ys m' bs' → (∀ b ∈ bs', b ∈ bs) → bs'.Nodup → ∃ as', RTs K (L2.upd H a (.lst ys)) vs (ds.set k (.list m')) as' ∧ as'.Nodup ∧ ∀ b ∈ as', b ∈ as)
  | _, _, _, _, .nil, h => by simp at h
  | _, _, _, 0, .cons e q, h => by
    simp at h
    subst h
    cases e with
    | lst hx r =>
      rename_i bs2 a xs as
      refine ⟨a, xs, as, rfl, hx, r, by simp, fun b hb => by simp [hb], fun nd => ?_⟩
      obtain ⟨n1, n2, n3⟩ := List.nodup_append.mp nd
      obtain ⟨n4, n5⟩ := List.nodup_cons.mp n1
      refine ⟨n4, n5, fun ys m' bs' h1 h2 h3 => ⟨(a :: bs') ++ bs2, ?_, ?_, ?_⟩⟩
      · exact .cons (.lst upd_same h1) (RTs.upd hx (fun z => n3 a List.mem_cons_self a z rfl) q)
      · refine List.nodup_append.mpr ⟨List.nodup_cons.mpr ⟨fun z => n4 (h2 a z), h3⟩, n2, fun x hx y hy => ?_⟩
        rcases List.mem_cons.mp hx with rfl | z
        · exact n3 x List.mem_cons_self y hy
        · exact n3 x (List.mem_cons_of_mem _ (h2 x z)) y hy
      · intro b hb
        rcases List.mem_append.mp hb with z | z
        · rcases List.mem_cons.mp z with rfl | z
          · simp
          · simp [h2 b z]
        · simp [z]
  | _, _, _, k + 1, .cons (as := as1) (bs := bs2) e q, h => by
    obtain ⟨a, xs, bs, h1, h2, h3, h4, h5, h6⟩ := RTs.part (k := k) q (by simpa using h)
    refine ⟨a, xs, bs, by simpa using h1, h2, h3, List.mem_append_right _ h4, fun b hb => List.mem_append_right _ (h5 b hb), fun nd => ?_⟩
    obtain ⟨n1, n2, n3⟩ := List.nodup_append.mp nd
    obtain ⟨g1, g2, g3⟩ := h6 n2
    refine ⟨g1, g2, fun ys m' bs' k1 k2 k3 => ?_⟩
    obtain ⟨as', r1, r2, r3⟩ := g3 ys m' bs' k1 k2 k3
    refine ⟨as1 ++ as', .cons (RT.upd h2 (fun z => n3 a z a h4 rfl) e) r1, List.nodup_append.mpr ⟨n1, r2, fun x hx y hy => n3 x hx y (r3 y hy)⟩, fun b hb => ?_⟩
    rcases List.mem_append.mp hb with z | z
    · exact List.mem_append_left _ z
    · exact List.mem_append_right _ (r3 b z)
end
section
variable {X : Cx} {fl : List Fl} {e ke : Expr} {f fk : FE} {pos : Pos}
theorem Rel.part {K : PySem.W.Frag} {G : Gh} {ow : Ow} {σ : St} {H : Hp} {δ : DS} {i : Nat} {x : D} {l m : List D} {n : Nat} (R : Rel K fl G ow σ H δ) (hfl : fl[i]? = some .N) (hx : dVar i δ = some x) (hl : partOf x = some l) (hm : l[n]? = some (.list m)) :
    ∃ p vs a xs, σ[i]? = some (some (.ref p)) ∧ vs.length = l.length ∧ (∀ H', Same H H' → SqL K H' p vs ∨ SqT K H' p vs) ∧ vs[n]? = some (.ref a) ∧ (∀ H', Same H H' → H' a = some (.lst xs)) ∧ xs.length = m.length ∧
      ∀ H', Same H H' → ∃ bs, RTs K H' xs m bs ∧ a ∉ bs ∧ bs.Nodup ∧ ∀ ys m' bs', RTs K (L2.upd H' a (.lst ys)) ys m' bs' → (∀ b ∈ bs', b ∈ bs) → bs'.Nodup → ∃ ow', Rel K fl G ow' σ (L2.upd H' a (.lst ys)) (δ.set i (some (.d (putAt x n (.list m'))))) := by
  have e := dVar_eq hx
  have hi : i < δ.length := by
    rcases Nat.lt_or_ge i δ.length with z | z
    · exact z
    · rw [List.getElem?_eq_none z] at e; cases e
  obtain ⟨v, h1, h2, h3⟩ := R.nr i x (by rw [hfl]; rfl) e
  generalize hN : ow.n i = as at h2 h3
  cases h2 with
  | lst hp r =>
    rename_i p vs ds bs0
    cases hl
    obtain ⟨n1, n2⟩ := List.nodup_cons.mp h3
    obtain ⟨a, xs, bs, g1, g2, g3, g4, g5, g6⟩ := r.part hm
    have pa : p ≠ a := fun z => n1 (z ▸ g4)
    refine ⟨p, vs, a, xs, h1, r.length, fun H' s => .inl (SqL.of (s _ _ hp)), g1, fun H' s => s _ _ g2, g3.length, fun H' s => ?_⟩
    obtain ⟨a', xs', bs', f1, f2, f3, f4, f5, f6⟩ := (r.same s).part hm
    rw [g1] at f1
    cases f1
    rw [s _ _ g2] at f2
    cases f2
    obtain ⟨k1, k2, k3⟩ := f6 n2
    refine ⟨bs', f3, k1, k2, fun ys m' bs'' q1 q2 q3 => ?_⟩
    obtain ⟨as', r1, r2, r3⟩ := k3 ys m' bs'' q1 q2 q3
    refine (R.grow s).mutN hfl hi (by rw [hN]; exact List.mem_cons_of_mem _ g4) (s _ _ g2) h1 (.lst (by rw [upd_ne pa]; exact s _ _ hp) r1) (fun b hb => ?_) (List.nodup_cons.mpr ⟨fun z => n1 (r3 p z), r2⟩)
    rw [hN]
    rcases List.mem_cons.mp hb with rfl | z
    · exact List.mem_cons_self
    · exact List.mem_cons_of_mem _ (r3 b z)
  | tup hp r =>
    rename_i p vs ds
    cases hl
    obtain ⟨a, xs, bs, g1, g2, g3, g4, g5, g6⟩ := r.part hm
    refine ⟨p, vs, a, xs, h1, r.length, fun H' s => .inr (same_tup s hp.sq), g1, fun H' s => s _ _ g2, g3.length, fun H' s => ?_⟩
    obtain ⟨a', xs', bs', f1, f2, f3, f4, f5, f6⟩ := (r.same s).part hm
    rw [g1] at f1
    cases f1
    rw [s _ _ g2] at f2
    cases f2
    obtain ⟨k1, k2, k3⟩ := f6 h3
    refine ⟨bs', f3, k1, k2, fun ys m' bs'' q1 q2 q3 => ?_⟩
    obtain ⟨as', r1, r2, r3⟩ := k3 ys m' bs'' q1 q2 q3
    exact (R.grow s).mutN hfl hi (by rw [hN]; exact g4) (s _ _ g2) h1 (.tup (SqT0.upd (s _ _ g2) (SqT0.same s hp)) r1) (fun b hb => by rw [hN]; exact r3 b hb) r2
  | non => cases hl
  | bl _ => cases hl
  | int _ => cases hl
  | str _ => cases hl
  | dic _ _ => cases hl
end
end D3
namespace D3
open PySem
def qM (g : List D → Option (List D)) (i : Nat) (x : Option D) (δ : DS) : Option Oc := match x with
  | some (.list l) => match g l with
    | some m => some (.nx (δ.set i (some (.d (.list m)))))
    | none => none
  | _ => none
def insK (n : Nat) (j : Int) : Nat := if j < 0 then (j + n).toNat else min j.toNat n
def popD (j : Int) (l : List D) : Option (List D) := if l.length ≤ 1000000 then (pIx l.length j).map fun n => l.eraseIdx n else none
def insD (j : Int) (d : D) (l : List D) : Option (List D) := if l.length < 1000000 ∧ -(2 ^ 62) ≤ j ∧ j < 2 ^ 62 then some (l.take (insK l.length j) ++ d :: l.drop (insK l.length j)) else none
def sRev (i : Nat) : FS := fun δ => qM (fun l => some l.reverse) i (dVar i δ) δ
def qPo (i : Nat) (k x : Option D) (δ : DS) : Option Oc := match k with
  | some (.int j) => qM (popD j) i x δ
  | _ => none
def sPopI (i : Nat) (fk : FE) : FS := fun δ => qPo i (fk δ) (dVar i δ) δ
def qIn (i : Nat) (k d x : Option D) (δ : DS) : Option Oc := match k, d with
  | some (.int j), some d => qM (insD j d) i x δ
  | _, _ => none
def sIns (i : Nat) (fk f : FE) : FS := fun δ => qIn i (fk δ) (f δ) (dVar i δ) δ
def asSeq : D → Option (List D)
  | .list l => some l
  | .tuple l => some l
  | _ => none
def fSeq (f : FE) : FA := fun δ => (f δ).bind asSeq
def gTupL : D → Option D
  | .list l => some (.tuple l)
  | .tuple l => some (.tuple l)
  | _ => none
theorem qM_inv {g : List D → Option (List D)} {i : Nat} {x : Option D} {δ : DS} {o : Oc} (h : qM g i x δ = some o) : ∃ l m, x = some (.list l) ∧ g l = some m ∧ o = .nx (δ.set i (some (.d (.list m)))) := by
  unfold qM at h
  split at h
  · next l =>
    split at h
    · next m e => cases h; exact ⟨l, m, rfl, e, rfl⟩
    · cases h
  · cases h
theorem v_ins {i : Nat} {fk f : FE} {δ : DS} : sIns i fk f δ = qIn i (fk δ) (f δ) (dVar i δ) δ := rfl
theorem v_ins_s {i : Nat} {j : Int} {d : D} {x : Option D} {δ : DS} : qIn i (some (.int j)) (some d) x δ = qM (insD j d) i x δ := rfl
theorem qM_s {g : List D → Option (List D)} {i : Nat} {l m : List D} {δ : DS} (h : g l = some m) : qM g i (some (.list l)) δ = some (.nx (δ.set i (some (.d (.list m))))) := by
  show (match g l with
    | some m => some (Oc.nx (δ.set i (some (.d (.list m)))))
    | none => none) = _
  rw [h]
def gIn : D → D → Option D := fun x y => match y with
  | .list l => if (SeqAt.shaped x && SeqAt.shaped (.list l)) = true then some (.bool (l.any fun z => PyData.eqv z x)) else none
  | .tuple l => if (SeqAt.shaped x && SeqAt.shaped (.tuple l)) = true then some (.bool (l.any fun z => PyData.eqv z x)) else none
  | _ => none
def clr (T : List Nat) (δ : DS) : DS := δ.mapIdx fun i x => if i ∈ T then none else x
end D3
namespace D3
open PySem PySem.Spec PyProof.Rows L2 My
section
variable {X : Cx}
def rInsert : V → List V → Hp → VK → Prop := fun x vs H Q => ∃ l xs i y, x = .ref l ∧ vs = [.int i, y] ∧ H l = some (.lst xs) ∧ -(2 ^ 63) ≤ i ∧ i < 2 ^ 63 ∧ xs.length < sizeLine ∧ Q .non (upd H l (.lst (xs.take (insK xs.length i) ++ y :: xs.drop (insK xs.length i))))
theorem ins_arr (li : List Value) (k : Nat) (y : Value) : (li.toArray.extract 0 k).push y ++ li.toArray.extract k = (li.take k ++ y :: li.drop k).toArray := by
  apply Array.ext'
  simp [List.extract_eq_drop_take]
  exact List.take_of_length_le (by simp)
theorem mt_insert : MtM X "list.insert" rInsert := by
  intro pins s σ H x vs v us Q I rx rv h
  obtain ⟨l, xs, i, y, rfl, rfl, hH, h1, h2, hz, q⟩ := h
  cases rx
  obtain ⟨u1, u2, rfl, ru1, ru2⟩ := rv.two
  obtain ⟨t, rfl⟩ := ru1
  obtain ⟨z, its, n, r, hl, e⟩ := I.lstM hH
  refine call_meets F.slot_list_insert ⟨_, e, rfl⟩ F.entry_list_insert (F.args_list_insert_3 _ _ _) (AutoSeq1.list_insert_list_int_val_1 l its.toArray n i t u2 (by simp [fitsIndex_both h1 h2]) (by rw [List.size_toArray]; omega)) ⟨e, ?_⟩
  refine ⟨.non, _, I.lset (its' := its.take (insK xs.length i) ++ u2 :: its.drop (insK xs.length i)) hH e ?_ ((r.take _).append (.cons ru2 (r.drop _))) ?_, rfl, q⟩
  · show (its.toArray.extract 0 (if i < 0 then (i + (its.toArray.size : Int)).toNat else min i.toNat its.toArray.size)).push u2 ++ its.toArray.extract (if i < 0 then (i + (its.toArray.size : Int)).toNat else min i.toNat its.toArray.size) = _
    rw [hl]
    exact ins_arr its (insK its.length i) u2
  · rw [List.length_append, List.length_cons, List.length_take, List.length_drop]
    omega
end
section
variable {X : Cx} {fl : List Fl} {e ke : Expr} {f fk : FE} {pos : Pos}
theorem ds_ins {i : Nat} {x : Str} {vpos apos cpos : Pos} (hfl : fl[i]? = some .O) (hk : DE X fl .P ke fk) (h : DE X fl .A e f) (hN : X.N[i]? = some x) (hv : Vis X.env.scope x := by first | exact Or.inl rfl | exact Or.inr (Or.inl rfl) | exact Or.inr (Or.inr rfl)) (hd : (x == ("__debug__" : Str)) = false := by decide)
    (hcd : (x == ("__classdict__" : Str)) = false := by decide)
    (hs : swapsWith (.Call (.Attribute (.Name x vpos) "insert" apos) [ke, e] [] cpos) none pos.line X.env = pure false := by rfl)
    (hbase : attributeBase (.Name x vpos) "insert" X.env (eval (.Name x vpos) X.env) = eval (.Name x vpos) X.env := by rfl)
    (hfew : ((backTo cpos (starEach [ke, e] X.env)).all (fun x => !x.1) && (backToKw cpos (keywordEach [] X.env)).all (fun x => x.1.isSome)
      && decide (([ke, e] : List Expr).length + ([] : List Keyword).length + (if ([] : List Keyword).isEmpty then 0 else 1) < 30)) = true := by rfl)
    (hline : (apos.endLine == cpos.line) = true := by rfl) (hst : starEach [ke, e] X.env = (false, eval ke X.env) :: starEach [e] X.env := by exact star_of rfl) (hst2 : starEach [e] X.env = (false, eval e X.env) :: starEach [] X.env := by exact star_of rfl) (hplain : (backTo cpos (starEach [e] X.env)).any (·.1) = false := by exact pl_of rfl) :
    DS1 X fl (.Expr (.Call (.Attribute (.Name x vpos) "insert" apos) [ke, e] [] cpos) pos) (sIns i fk f) :=
  PS.imp (ps_expr (pe_bm PySem.F.plainAttrs_list PySem.F.slot_list_insert PySem.F.type_list_insert mt_insert (pe_var hN hv hd hcd) (pa_cons hk (pa_cons h pa_nil hst2) hst) hbase hfew hline hst hplain) hs) fun Dn σ H hh => by
  obtain ⟨G, ow, δ, o, R, hf, q⟩ := hh
  unfold sIns qIn at hf
  split at hf
  case h_2 => cases hf
  next j d ek ed =>
  obtain ⟨l, m, e1, e2, rfl⟩ := qM_inv hf
  unfold insD at e2
  by_cases hl : l.length < 1000000 ∧ -(2 ^ 62) ≤ j ∧ j < 2 ^ 62
  case neg => rw [if_neg hl] at e2; cases e2
  rw [if_pos hl] at e2
  cases e2
  obtain ⟨a, xs, ho, h1, h2, h3⟩ := own_of R hfl e1
  refine ⟨_, h1, .inl ⟨rfl, _, SqL.of h2⟩, G, ow, δ, _, R, ek, fun v H' s r => ?_⟩
  obtain rfl := RA.intE r
  refine ⟨G, ow, δ, d, R.grow s, ed, fun u H2 s2 r2 => ?_⟩
  have S := s.trans s2
  refine ⟨a, xs, j, u, rfl, rfl, S _ _ h2, by omega, by omega, by rw [h3.length]; exact Nat.lt_trans hl.1 (by decide), ?_⟩
  have R' := R.grow S
  have h3' := h3.same S
  refine q ow σ _ (R'.mut hfl ho ?_)
  rw [h3.length]
  exact (h3'.take _).append (.cons r2 (h3'.drop _))
end
section
variable {X : Cx} {fl : List Fl} {a : Expr} {pos p p2 pos2 : Pos} {fa : FA}
end
end D3
namespace D3
open PySem PySem.Spec PyProof.Rows L2 My
section
variable {X : Cx} {pins : List (Addr × Obj)} {σ : L2.St} {H : Hp} {s : Shared}
end
section
variable {X : Cx} {K : PySem.W.Frag}
end
section
variable {X : Cx} {fl : List Fl} {es : List Expr} {pos : Pos}
end
section
variable {X : Cx} {fl : List Fl} {e : Expr} {f : FE}
theorem pi_or {tg l : Expr} {t1 t2 : TI} (h1 : PI X tg l t1) (h2 : PI X tg l t2) : PI X tg l (fun σ H R => t1 σ H R ∨ t2 σ H R) := fun pins s σ H R I h => by
  rcases h with h | h
  · exact h1 pins s σ H R I h
  · exact h2 pins s σ H R I h
theorem walk_T {K : PySem.W.Frag} {G : Gh} {ow : Ow} {σ : St} {H Hb : Hp} {δ : DS} {L : List Nat} {v : V} {l : List D} (R : Rel K fl G ow σ H δ) (r : Rs K G.H0 ow Hb H (.B L) v (.tuple l)) : ∃ a xs, v = .ref a ∧ SqT K H a xs ∧
    ∀ H2 : Hp, (∀ b o, H b = some o → (∀ i, ow i = some b → i ∈ L) → (∀ i, b ∉ ow.n i) → H2 b = some o) → SqT K H2 a xs ∧ RAs K (fun b => okA ow b ∧ H b ≠ none) true H2 xs l := by
  rcases r with r | ⟨i, hi, a, xs, ds, ho, rfl, e, hx, hr⟩
  · cases r with
    | tup e q =>
      refine ⟨_, _, rfl, e.sq, fun H2 hk => ⟨?_, RAs.keep hk R.ownL R.ownC (fun b z => z.1) q.track⟩⟩
      exact .inl (.inl (hk _ _ e (nm R.ownL e (by intro xs z; cases z)) (nm2 R.ownC e Chg.tup)))
  · cases e
theorem di_seq {tg : Expr} {L : List Nat} (h : DE X fl (.B L) e f) : DI X fl L tg e (fSeq f) := PI.imp (pi_or (pi_list h) (pi_tup h)) fun σ H R' h => by
  obtain ⟨G, ow, δ, l, R, hf, q⟩ := h
  obtain ⟨d, e1, e2⟩ := bind1 hf
  cases d with
  | list l' =>
    cases e2
    refine .inl ⟨G, ow, δ, _, R, e1, fun v H1 s r => ?_⟩
    obtain ⟨a, xs, rfl, hx, keep⟩ := walk_B (R.grow s) r
    refine ⟨a, rfl, ⟨xs, hx⟩, q _ _ s fun H2 k2 i => ?_⟩
    obtain ⟨k3, k4⟩ := keep H2 k2
    refine ⟨fun d hd => ?_, fun hl => ⟨xs, k3, by rw [k4.length]; exact hl⟩⟩
    obtain ⟨y, hy, ry⟩ := k4.get hd
    refine ⟨⟨xs, y, k3, hy⟩, fun x H3 hyl => ?_⟩
    obtain ⟨e, hz⟩ := hyl
    subst e
    have : some y = some x := hy.symm.trans (hz xs k3)
    cases this
    exact ⟨Same.refl _, ry⟩
  | tuple l' =>
    cases e2
    refine .inr ⟨G, ow, δ, _, R, e1, fun v H1 s r => ?_⟩
    obtain ⟨a, xs, rfl, hx, keep⟩ := walk_T (R.grow s) r
    refine ⟨a, rfl, ⟨xs, hx⟩, q _ _ s fun H2 k2 i => ?_⟩
    obtain ⟨k3, k4⟩ := keep H2 k2
    refine ⟨fun d hd => ?_, fun hl => ⟨xs, k3, by rw [k4.length]; exact hl⟩⟩
    obtain ⟨y, hy, ry⟩ := k4.get hd
    refine ⟨⟨xs, y, k3, hy⟩, fun x H3 hyl => ?_⟩
    obtain ⟨e, hz⟩ := hyl
    subst e
    have : some y = some x := hy.symm.trans (hz xs k3)
    cases this
    exact ⟨Same.refl _, ry⟩
  | none => cases e2
  | bool _ => cases e2
  | int _ => cases e2
  | str _ => cases e2
  | dict _ => cases e2
end
section
variable {X : Cx} {fl : List Fl} {a : Expr} {f : FE} {pos p : Pos}
theorem de_tupL {L : List Nat} (h : DE X fl (.B L) a f) (hg : Gl X "tuple") (hm : X.mg "tuple" = none)
    (he : starEach [a] X.env = (false, eval a X.env) :: starEach [] X.env := by exact star_of rfl) (hpl : (backTo pos (starEach [] X.env)).any (·.1) = false := by rfl) : DE X fl .A (.Call (.Name "tuple" p) [a] [] pos) (dUn gTupL f) :=
  PE.imp (pe_callTy call_tuple_of hg hm boot_tuple (pa_cons h pa_nil he) (by decide) (by decide) he hpl) fun σ H Q h => by
  obtain ⟨G, ow, δ, d, R, hf, q⟩ := h
  obtain ⟨x, e1, e2⟩ := bind1 hf
  refine ⟨G, ow, δ, x, R, e1, fun v H1 s1 r1 => ?_⟩
  unfold gTupL at e2
  split at e2
  · cases e2
    obtain ⟨p, xs, rfl, hx, hr⟩ := B_list r1
    exact ⟨p, xs, rfl, .inl ⟨hx, fun pn hp => q _ _ (s1.trans (same_new hp _)) (.tup upd_same (hr.same (same_new hp _)))⟩⟩
  · cases e2
    rcases r1 with r1 | ⟨i, hi, a, xs, ds, ho, rfl, e, hx, hr⟩
    · obtain ⟨p, xs, rfl, hx, hr⟩ := r1.tupE0
      exact ⟨p, xs, rfl, .inr ⟨hx.sq, q _ _ s1 (.tup hx hr)⟩⟩
    · cases e
  · cases e2
end
section
variable {X : Cx} {fl : List Fl} {a b : Expr} {fa fb : FE} {pos : Pos}
end
end D3
namespace D3
open PySem PySem.Spec PyProof.Rows L2 My
section
variable {X : Cx} {K : PySem.W.Frag}
def rInD (K : PySem.W.Frag) : R2 := fun x y H Q => ∃ da l, RdV K H x da ∧ ((RdV K H y (.list l) ∧ SeqAt.shaped (.list l) = true) ∨ (RdV K H y (.tuple l) ∧ SeqAt.shaped (.tuple l) = true)) ∧ SeqAt.shaped da = true ∧ Q (.bl (l.any fun z => PyData.eqv z da)) H
theorem in_room {A : Around} {l : List D} {d : D} (hu : A.units + 64 < cLine) (h : PyData.depthAll l + 1 ≤ 64) : A.units + 1 + min (PyData.depthAll l) d.depth < cLine := by
  have := Nat.min_le_left (PyData.depthAll l) d.depth
  omega
theorem shaped_list {l : List D} (h : SeqAt.shaped (.list l) = true) : PyData.canLayAll0 l = true ∧ PyData.depthAll l + 1 ≤ 64 := by
  unfold SeqAt.shaped at h
  rw [Bool.and_eq_true] at h
  refine ⟨by simpa [PyData.canLay0] using h.1, ?_⟩
  have := of_decide_eq_true h.2
  simpa [PyData.depth] using this
theorem shaped_tuple {l : List D} (h : SeqAt.shaped (.tuple l) = true) : PyData.canLayAll0 l = true ∧ PyData.depthAll l + 1 ≤ 64 := by
  unfold SeqAt.shaped at h
  rw [Bool.and_eq_true] at h
  refine ⟨by simpa [PyData.canLay0] using h.1, ?_⟩
  have := of_decide_eq_true h.2
  simpa [PyData.depth] using this
theorem op_inD (hu : X.A.units + 64 < cLine) : OpR X (compareOp .In) (rInD X.K) := by
  intro pins s σ H x y v u Q I rx ry h
  obtain ⟨da, l, ha, hb, sa, q⟩ := h
  obtain ⟨as, za⟩ := ha.reads I rx
  rcases hb with ⟨hb, sb⟩ | ⟨hb, sb⟩
  · obtain ⟨bs, zb⟩ := hb.reads I ry
    exact SeqAt.in_list_reads zb za (shaped_list sb).1 (SeqAt.canLay_of_shaped sa) (in_room hu (shaped_list sb).2) ⟨.bl _, H, I, rfl, q⟩
  · obtain ⟨bs, zb⟩ := hb.reads I ry
    exact SeqAt.in_tuple_reads zb za (shaped_tuple sb).1 (SeqAt.canLay_of_shaped sa) (in_room hu (shaped_tuple sb).2) ⟨.bl _, H, I, rfl, q⟩
theorem b_in : BrO K (rInD K) gIn := by
  intro H x y dx dy d Q rx ry e q
  cases dy with
  | list l =>
    by_cases z : (SeqAt.shaped dx && SeqAt.shaped (.list l)) = true
    · have e : (if (SeqAt.shaped dx && SeqAt.shaped (.list l)) = true then some (PyData.bool (l.any fun z => PyData.eqv z dx)) else none) = some d := e
      rw [if_pos z] at e
      cases e
      rw [Bool.and_eq_true] at z
      exact ⟨dx, l, rx.rd (SeqAt.canLay_of_shaped z.1), .inl ⟨ry.rd (SeqAt.canLay_of_shaped z.2), z.2⟩, z.1, q _ rfl (.bl _)⟩
    · have e : (if (SeqAt.shaped dx && SeqAt.shaped (.list l)) = true then some (PyData.bool (l.any fun z => PyData.eqv z dx)) else none) = some d := e
      rw [if_neg z] at e
      cases e
  | tuple l =>
    by_cases z : (SeqAt.shaped dx && SeqAt.shaped (.tuple l)) = true
    · have e : (if (SeqAt.shaped dx && SeqAt.shaped (.tuple l)) = true then some (PyData.bool (l.any fun z => PyData.eqv z dx)) else none) = some d := e
      rw [if_pos z] at e
      cases e
      rw [Bool.and_eq_true] at z
      exact ⟨dx, l, rx.rd (SeqAt.canLay_of_shaped z.1), .inr ⟨ry.rd (SeqAt.canLay_of_shaped z.2), z.2⟩, z.1, q _ rfl (.bl _)⟩
    · have e : (if (SeqAt.shaped dx && SeqAt.shaped (.tuple l)) = true then some (PyData.bool (l.any fun z => PyData.eqv z dx)) else none) = some d := e
      rw [if_neg z] at e
      cases e
  | _ => cases e
end
section
variable {X : Cx} {fl : List Fl} {a : Expr} {f : FE} {pos : Pos}
end
section
variable {X : Cx} {fl : List Fl} {e : Expr} {es : List Expr} {f : FE} {pos p : Pos} {x : Str} {n : Nat} {F : List D → Option D} {fa : FA}
end
section
variable {P : Program} {w : World} {K : PySem.W.Frag} {mg : Str → Option Value} {base : Heap} {x : Str} {ps N : List Str} {st : Stmt} {k n : Nat} {fs : FS} {fl : List Fl}
end
section
variable {P : Program} {w : World} {K : PySem.W.Frag} {mg : Str → Option Value} {base : Heap} {x : Str} {ps : List Str} {st : Stmt} {n : Nat}
end
end D3
namespace D3
open PySem PySem.Spec PyProof.Rows L2 My
section
variable {K : PySem.W.Frag} {fl flA : List Fl} {G : Gh} {ow : Ow} {σ σ' : St} {H H1 : Hp} {δ : DS} {T : List Nat}
theorem clr_get {i : Nat} {x : U} (h : (clr T δ)[i]? = some (some x)) : i ∉ T ∧ δ[i]? = some (some x) := by
  unfold clr at h
  rw [List.getElem?_mapIdx] at h
  cases e : δ[i]? with
  | none => rw [e] at h; cases h
  | some y =>
    rw [e, Option.map_some] at h
    by_cases z : i ∈ T
    · rw [if_pos z] at h; cases h
    · rw [if_neg z] at h; exact ⟨z, h⟩
theorem clr_ne {i : Nat} (h : i ∉ T) : (clr T δ)[i]? = δ[i]? := by
  unfold clr
  rw [List.getElem?_mapIdx]
  cases δ[i]? with
  | none => rfl
  | some y => rw [Option.map_some, if_neg h]
theorem clr_len : (clr T δ).length = δ.length := by unfold clr; rw [List.length_mapIdx]
theorem Rel.forget (R : Rel K fl G ow σ H δ) (hT : ∀ i ∈ T, fl[i]? = some .A) (hl : σ'.length = σ.length) (hσ : ∀ j, j ∉ T → σ'[j]? = σ[j]?) : Rel K fl G ow σ' H (clr T δ) := by
  refine ⟨R.s0, R.s1, by rw [clr_len, hl]; exact R.len, fun i a h => ?_, R.inj, R.pin, fun i d h hn ho => ?_, fun i d h hn h2 ho => R.oo i d (clr_get h).2 hn h2 ho, R.nt, R.nd, R.ns, R.np, fun i d hn h => ?_⟩
  · obtain ⟨h0, hf, xs, ds, h1, h2, h3, h4⟩ := R.own i a h
    have ni : i ∉ T := fun z => by
      rw [hT i z] at hf
      rcases hf with ⟨w, _⟩ | ⟨w, _⟩ <;> cases w
    exact ⟨h0, hf, xs, ds, by rw [hσ i ni]; exact h1, h2, h3, by rw [clr_ne ni]; exact h4⟩
  · obtain ⟨ni, e⟩ := clr_get h
    obtain ⟨v, h1, h2⟩ := R.dat i d e hn ho
    exact ⟨v, by rw [hσ i ni]; exact h1, h2⟩
  · obtain ⟨ni, e⟩ := clr_get h
    obtain ⟨v, h1, h2⟩ := R.nr i d hn e
    exact ⟨v, by rw [hσ i ni]; exact h1, h2⟩
end
section
variable {X : Cx} {fl flA : List Fl} {e : Expr} {es : List Expr} {f : FE} {fa : FA} {pos : Pos}
end
section
variable {X : Cx} {fl : List Fl} {pos : Pos}
end
end D3
namespace D3
open PySem
inductive Or where
  | o (x : Oc)
  | ex (c : Str) (v : D)
abbrev FX := DS → Option Or
def xOf (f : FS) : FX := fun δ => (f δ).bind fun o => some (.o o)
def xSeq (f g : FX) : FX := fun δ => (f δ).bind fun o => match o with
  | .o (.nx δ') => g δ'
  | o => some o
def xIf (c : FT) (f g : FX) : FX := fun δ => (c δ).bind fun b => if b = true then f δ else g δ
def xRaise (c : Str) (f : FE) : FX := fun δ => (f δ).bind fun d => some (.ex c d)
def fnX (p q : Nat) (b : FX) : List D → Option Or := fun ds => if ds.length = p then match b (ds.map (fun d => some (.d d)) ++ List.replicate q none) with
    | some (.o (.rt d)) => some (.o (.rt d))
    | some (.o (.nx _)) => some (.o (.rt .none))
    | some (.o (.ex c f d)) => some (.o (.ex c f d))
    | some (.ex c d) => some (.ex c d)
    | _ => none
  else none
def xAsg (j : Nat) (F : List D → Option Or) (dd : List D) (fa : FA) : FX := fun δ => (fa δ).bind fun ds => match F (ds ++ dd) with
  | some (.o (.rt d)) => if fl1 d = true ∧ j < δ.length then some (.o (.nx (δ.set j (some (.d d))))) else none
  | some (.ex c d) => some (.ex c d)
  | _ => none
end D3
namespace XC
open PySem
open Sem (wp)
structure Two (h : Heap) (C N I : Addr) (bmB : List Value) (mN mI : Str → Option Value) (B newId : String) : Prop where
  ex : ∃ (nm q : Str) (bs : List Value) (sn : List Str) (sub : List Value) (ab : Bool) (col : Option Bool) (dd : Option Addr) (k0 k1 k2 k3 k5 : Option Value),
    h.get? C = some (excClassObj nm q C N bs (.ref I :: bmB) true sn sub ab col dd k0 k1 k2 k3 k5 newId)
  nsC : h.Ns N mN
  up : ∃ (nm q : Str) (NI : Addr) (bs : List Value) (sn : List Str) (sub : List Value) (ab : Bool) (col : Option Bool) (dd : Option Addr) (k0 k1 k2 k3 k5 : Option Value) (nid : String),
    h.get? I = some (excClassObj nm q I NI bs bmB true sn sub ab col dd k0 k1 k2 k3 k5 nid) ∧ h.Ns NI mI
  mro : mroOf (.type B) = pure bmB
section
variable {M : Model} {A : Around} {E : Value → Shared → Prop} {h : Heap} {g : Array GenState} {d : Drawn} {t : Nat} {os : OsState}
variable {C N I : Addr} {bmB : List Value} {mN mI : Str → Option Value} {B newId initId : String}
theorem Two.keeps {h' : Heap} (T : Two h C N I bmB mN mI B newId) (k : ∀ b o, h.get? b = some o → h'.get? b = some o) : Two h' C N I bmB mN mI B newId := by
  obtain ⟨⟨nm, q, bs, sn, sub, ab, col, dd, k0, k1, k2, k3, k5, hC⟩, hn, ⟨jnm, jq, NI, jbs, jsn, jsub, jab, jcol, jdd, j0, j1, j2, j3, j5, nid, hI, hm⟩, hb⟩ := T
  exact ⟨⟨nm, q, bs, sn, sub, ab, col, dd, k0, k1, k2, k3, k5, k _ _ hC⟩, hn.keeps k, ⟨jnm, jq, NI, jbs, jsn, jsub, jab, jcol, jdd, j0, j1, j2, j3, j5, nid, k _ _ hI, hm.keeps k⟩, hb⟩
theorem Two.tail (T : Two h C N I bmB mN mI B newId) (hi : mI "__init__" = none) : OwnTail h bmB (.ref I :: bmB) := by
  obtain ⟨jnm, jq, NI, jbs, jsn, jsub, jab, jcol, jdd, j0, j1, j2, j3, j5, nid, hI, hm⟩ := T.up
  exact .own hI hm hi .base
theorem Two.look {name : Str} {y : Option Value} {Q : Option Value → Shared → Prop} (T : Two h C N I bmB mN mI B newId) (hB : typeLookup (.type B) name = pure y)
    (hq : Q (match mN name with
      | some v => some v
      | none => match mI name with
        | some v => some v
        | none => y) ⟨h, g, d, t, os⟩) : wpAny M A (typeLookup (.ref C) name) Q E ⟨h, g, d, t, os⟩ := by
  obtain ⟨⟨nm, q, bs, sn, sub, ab, col, dd, k0, k1, k2, k3, k5, hC⟩, hn, ⟨jnm, jq, NI, jbs, jsn, jsub, jab, jcol, jdd, j0, j1, j2, j3, j5, nid, hI, hm⟩, hb⟩ := T
  have rest : lookupAlong bmB name = pure y := by
    rw [typeLookup_eq, hb] at hB
    exact hB
  rw [typeLookup_eq]
  refine wpAny_bind (wpAny_mroOf_exc hC ?_)
  rw [lookupAlong_cons]
  refine wpAny_bind (wpAny_classOwn_exc hC hn ?_)
  cases e1 : mN name with
  | some v =>
    rw [e1] at hq
    exact wpAny_pure hq
  | none =>
    rw [e1] at hq
    show wpAny M A (lookupAlong (.ref I :: bmB) name) Q E _
    rw [lookupAlong_cons]
    refine wpAny_bind (wpAny_classOwn_cls hI hm ?_)
    cases e2 : mI name with
    | some v =>
      rw [e2] at hq
      exact wpAny_pure hq
    | none =>
      rw [e2] at hq
      show wpAny M A (lookupAlong bmB name) Q E _
      rw [rest]
      exact wpAny_pure hq
end
section
variable {prog : Program} {w : World} {A : Around} {E : Value → Shared → Prop} {h : Heap} {g : Array GenState} {d : Drawn} {t : Nat} {os : OsState}
variable {C N I : Addr} {bmB : List Value} {mN mI : Str → Option Value} {B newId initId : String}
theorem Two.make {rest : List Value} {fI : Addr} {oI : Obj} {Q : Fin → Shared → Prop} (T : Two h C N I bmB mN mI B newId) (F : ExcBaseFacts B newId initId bmB) (hi : mI "__init__" = none) (hN : mN "__init__" = some (.ref fI))
    (hf : h.get? fI = some oI) (hfc : oI.cls = .type "function") (hrest : rest.length ≤ sizeLine)
    (hq : ∀ h' e, h.objs.size ≤ e → Heap.MadeExcOf h h' e (.ref C) rest → wpAny (model prog w) A (call (.ref fI) (.ref e :: rest)) (fun r s' => r = .none ∧ Q (.done (.ret (.ref e))) s') E ⟨h', g, d, t, os⟩) :
    wpAny (model prog w) A (Builtin.«type.__call__» ⟨.ref C :: rest, []⟩) Q E ⟨h, g, d, t, os⟩ := by
  have TT := T.tail hi
  have T0 := T
  obtain ⟨⟨nm, q, bs, sn, sub, ab, col, dd, k0, k1, k2, k3, k5, hC⟩, hn, ⟨jnm, jq, NI, jbs, jsn, jsub, jab, jcol, jdd, j0, j1, j2, j3, j5, nid, hI, hm⟩, hb⟩ := T
  repeat (first
    | with_reducible refine wpAny_loadPart_at hC ?_
    | with_reducible refine wpAny_madeBy_exc hC ?_
    | wp_step)
  refine codeAny_call_builtin_code (Code.quiet_builtin _ F.quiet) (wpAny_check_new_subT F TT hC ?_)
  refine codeAny_exc_new_subT F TT hC ?_ hrest
  show wpAny _ _ _ _ _ _
  obtain ⟨h2, e2⟩ : ∃ h2, h2 = (h.push { cls := .type "tuple", data := .seq rest.toArray }).push { cls := .ref C, data := .fields #[.ref h.objs.size, .none, .none, .none, .bool false, .none] } := ⟨_, rfl⟩
  rw [← e2]
  have kp : ∀ b o, h.get? b = some o → h2.get? b = some o := fun b o z => by
    rw [e2]; exact Heap.get?_push_of_some _ (Heap.get?_push_of_some _ z)
  have hx : h2.get? (h.objs.size + 1) = some { cls := .ref C, data := .fields #[.ref h.objs.size, .none, .none, .none, .bool false, .none] } := by
    rw [e2]; heap_get
  have ht : h2.get? h.objs.size = some { cls := .type "tuple", data := .seq rest.toArray } := by
    rw [e2]; exact Heap.get?_push_of_some _ (Heap.get?_push_at rfl rfl)
  have hC2 := kp _ _ hC
  have cc : (Value.ref C :: .ref I :: bmB).contains (.ref C) = true := by simp
  unfold isInstance
  repeat (first
    | with_reducible refine wpAny_loadPart_at hx ?_
    | (with_reducible refine wpAny_isSubtype_exc hC2 ?_; rw [cc])
    | wp_step)
  show wpAny _ _ (typeLookup (.ref C) _) _ _ _
  refine (T0.keeps kp).look F.init.lookup ?_
  rw [hN]
  refine wpAny_holding (wpAny_bind ?_)
  unfold bindSpecial
  refine wpAny_bind (wpAny_typeOf (T := "function") ⟨_, kp _ _ hf, hfc⟩ ?_)
  rw [if_pos (by decide)]
  refine wpAny_pure (wpAny_bind (wpAny_mono (hq h2 (h.objs.size + 1) (Nat.le_succ _) ⟨kp, Heap.get?_none_of_le (Nat.le_succ _), h.objs.size, hx, Heap.get?_none_of_le (Nat.le_refl _), ht⟩) (fun r s' hr => ?_) fun _ _ z => z))
  obtain ⟨rfl, hQ⟩ := hr
  wp_walk
  exact hQ
end
end XC
namespace XC
open PySem Builtin Builtin.ObjectAttr
open Sem (wp)
section
variable {prog : Program} {w : World} {A : Around} {E : Value → Shared → Prop} {h : Heap} {g : Array GenState} {d : Drawn} {t : Nat} {os : OsState}
variable {C N I x : Addr} {bmB : List Value} {mN mI : Str → Option Value} {B newId initId sa owner : String} {name : Str} {v : Value}
theorem Two.store0 {tk : Tok} {o : Obj} {Q : Fin → Shared → Prop} (T : Two h C N I bmB mN mI B newId) (SF : StoreFacts B bmB sa owner) (n1 : mN name = none) (n2 : mI name = none) (hB : typeLookup (.type B) name = pure none)
    (hx : h.get? x = some o) (hc : o.cls = .ref C) (hnc : ∀ c, o.data ≠ .cls c) (hdn : o.dict = none)
    (hq : ∀ h' tk' dx, h'.get? x = some { o with dict := some dx } → h.objs.size ≤ dx → dx ≠ x → h'.Ns1 dx (fun y => if y = name then some v else none) → (∀ b u, b ≠ x → h.get? b = some u → h'.get? b = some u) → Q (.done (.ret .none)) ⟨h', g, d, tk', os⟩) :
    wpAny (model prog w) A (Builtin.«object.__setattr__» ⟨[.ref x, .str name tk, v], []⟩) Q E ⟨h, g, d, t, os⟩ := by
  have T0 := T
  obtain ⟨⟨nm, q, bs, sn, sub, ab, col, dd, k0, k1, k2, k3, k5, hC⟩, hn, ⟨jnm, jq, NI, jbs, jsn, jsub, jab, jcol, jdd, j0, j1, j2, j3, j5, nid, hI, hm⟩, hb⟩ := T
  have pass : refuseLoop (.ref x) "__setattr__" (.ref C :: .ref I :: bmB) = pure () := by
    rw [refuseLoop_ref, refuseLoop_ref]; exact SF.passes _
  unfold Builtin.«object.__setattr__»
  repeat (first
    | rw [refuse_eq]
    | rw [pass]
    | (with_reducible refine wpAny_loadPart_at hx ?_; rw [hc])
    | with_reducible refine wpAny_mroOf_exc hC ?_
    | (with_reducible refine T0.look hB ?_; rw [n1, n2])
    | wp_step)
  rw [hdn, if_neg (by simp [typeHasDict])]
  split
  · rename_i z
    cases z
  split
  · rename_i c z
    exact absurd z (hnc c)
  obtain ⟨h1, e1⟩ : ∃ h1, h1 = h.push { cls := .type "dict", data := .dict #[] } := ⟨_, rfl⟩
  have x1 : h1.get? x = some o := by rw [e1]; exact Heap.get?_push_of_some _ hx
  have ne : x ≠ h.objs.size := Nat.ne_of_lt (Heap.lt_size hx)
  refine wpAny_bind (wpAny_alloc' ?_)
  rw [← e1]
  refine wpAny_bind (wpAny_update' x1 (wpAny_pure ?_))
  obtain ⟨h2, e2⟩ : ∃ h2, h2 = h1.update x fun o => { cls := o.cls, dict := some h.objs.size, data := o.data, slots := o.slots } := ⟨_, rfl⟩
  rw [← e2]
  have d2 : h2.get? h.objs.size = some { cls := .type "dict", data := .dict #[] } := by
    rw [e2, e1]
    exact (Heap.get?_update_ne _ _ _ _ ne.symm).trans (Heap.get?_push_at rfl rfl)
  have x2 : h2.get? x = some { cls := o.cls, dict := some h.objs.size, data := o.data, slots := o.slots } := by
    rw [e2]
    refine Heap.get?_update_self _ x1 ?_
    have fr := (Heap.get?_some_iff.mp hx).2
    obtain ⟨oc, od, odt, osl⟩ := o
    cases odt <;> first | rfl | exact fr
  have k2 : ∀ b u, b ≠ x → h.get? b = some u → h2.get? b = some u := fun b u z q => by
    rw [e2, e1]
    exact (Heap.get?_update_ne _ _ _ _ z).trans (Heap.get?_push_of_some _ q)
  have n0 : h2.Ns h.objs.size (fun _ => none) := ⟨_, #[], _, d2, rfl, fun e z => absurd z (by simp), fun _ => rfl⟩
  show wpAny _ _ (storeInDict h.objs.size (.str name tk) name v) _ _ _
  unfold storeInDict newKeyGuard
  refine wpAny_bind (wpAny_pure (wpAny_bind (wpAny_nsSet1 (Heap.Ns1.of_empty n0) fun h3 n3 hs => ?_)))
  obtain ⟨oD, esD, epD, a1, a2, a3⟩ := n3.count (Within.cons name v Within.nil)
  refine wpAny_bind (wpAny_lookBehind a1 (by rw [a2]; exact pastItsLine_dict (Nat.le_trans a3 (show 1 ≤ sizeLine + 1 by decide))) ?_)
  wp_walk
  exact hq h3 _ h.objs.size ((hs.2 x ne).trans x2) (Nat.le_refl _) ne.symm n3 fun b u z q => (hs.2 b (Nat.ne_of_lt (Heap.lt_size q))).trans (k2 b u z q)
theorem Two.set0 {o : Obj} {Q : Unit → Shared → Prop} (T : Two h C N I bmB mN mI B newId) (SF : StoreFacts B bmB sa owner) (s1 : mN "__setattr__" = none) (s2 : mI "__setattr__" = none) (n1 : mN name = none) (n2 : mI name = none) (hB : typeLookup (.type B) name = pure none)
    (hx : h.get? x = some o) (hc : o.cls = .ref C) (hnc : ∀ c, o.data ≠ .cls c) (hdn : o.dict = none)
    (hq : ∀ h' tk' dx, h'.get? x = some { o with dict := some dx } → h.objs.size ≤ dx → dx ≠ x → h'.Ns1 dx (fun y => if y = name then some v else none) → (∀ b u, b ≠ x → h.get? b = some u → h'.get? b = some u) → Q () ⟨h', g, d, tk', os⟩) :
    wpAny (model prog w) A (setAttr (.ref x) name v) Q E ⟨h, g, d, t, os⟩ := by
  have T0 := T
  obtain ⟨⟨nm, q, bs, sn, sub, ab, col, dd, k0, k1, k2, k3, k5, hC⟩, hn, ⟨jnm, jq, NI, jbs, jsn, jsub, jab, jcol, jdd, j0, j1, j2, j3, j5, nid, hI, hm⟩, hb⟩ := T
  have f3 := SF.slot.bind (.ref x)
  have own : (Value.ref C :: .ref I :: bmB).contains (.type owner) = true := by
    rw [List.contains_cons, List.contains_cons, SF.hasOwner, Bool.or_true, Bool.or_true]
  unfold setAttr callSpecial? specialOf
  repeat (any_goals (first
    | assumption
    | (with_reducible refine wpAny_loadPart_at hx ?_; rw [hc])
    | (with_reducible refine T0.look SF.slot.lookup ?_; rw [s1, s2])
    | wp_step))
  refine codeAny_call_builtin SF.slot.plain SF.entry ?_
  have ck : ∀ {A : Around} {E : Value → Shared → Prop} (tk : Tok) (Q : Unit → Shared → Prop) (t : Nat), Q () ⟨h, g, d, t, os⟩ → wpAny (model prog w) A (checkBuiltinCall sa ⟨[.ref x, .str name tk, v], []⟩) Q E ⟨h, g, d, t, os⟩ := by
    intro A E tk Q t z
    have ha := SF.args (.ref x) (.str name tk) v
    simp only [checkBuiltinCall, SF.kind, SF.split]
    refine wpAny_bind ?_
    unfold isInstance
    repeat (first
      | (with_reducible refine wpAny_loadPart_at hx ?_; rw [hc])
      | (with_reducible refine wpAny_isSubtype_exc hC ?_; rw [own])
      | wp_step)
    cases sg : Manifest.signature? sa with
    | none => exact wpAny_pure z
    | some sig =>
      simp only [argsOk, sg] at ha
      have ha : Bind.checkArgs sa sig ⟨[.ref x, .str name tk, v], []⟩ = pure () := ha
      show wpAny _ _ (Bind.checkArgs sa sig ⟨[.ref x, .str name tk, v], []⟩) _ _ _
      rw [ha]
      exact wpAny_pure z
  refine ck _ _ _ (T0.store0 SF n1 n2 hB hx hc hnc hdn fun h' tk' dx z1 z2 z3 z4 z5 => ?_)
  repeat (any_goals (first | assumption | wp_step))
  exact hq h' tk' dx z1 z2 z3 z4 z5
end
end XC
namespace XC
open PySem PySem.Spec PyProof.Rows L2 My
section
variable {P : Program} {w : World} {K : PySem.W.Frag} {mg : Str → Option Value} {base : Heap}
variable {C N I x : Addr} {bmB : List Value} {mN mI : Str → Option Value} {B newId initId sa owner : String}
theorem init_run {k : Nat} {fI : Addr} {name qual f : Str} {params : Arguments} {scope : Scope} {dV kV doc pm cdv ct oc : Value} {an od : Option Addr} {osl : Array (Option Value)} {p1 p2 p3 p4 : Pos}
    (lk : K.lookup fI = some ⟨oc, od, .func (PySem.W.fnOf name qual params [.Assign [.Attribute (.Name "self" p1) f p2] (.Name f p3) p4] scope dV kV doc pm an cdv ct), osl⟩) (hcd : PySem.W.codeIn K cdv qual = true)
    (S : FnScope ["self", f] ["self", f] scope) (l1 : scope.names.lookup ("self" : Str) = some NameKind.local) (l2 : scope.names.lookup f = some .local) (fs : ("self" : Str) ≠ f) (fd : (f == ("__debug__" : Str)) = false) (fc : (f == ("__classdict__" : Str)) = false)
    (hb : Binds K (PySem.W.fnOf name qual params [.Assign [.Attribute (.Name "self" p1) f p2] (.Name f p3) p4] scope dV kV doc pm an cdv ct) ["self", f] [])
    {A : Around} {outer : List Env} {s : Shared} {H : Hp} (hr : Room (k + 1) A) (e0 : Env0 P w K mg base A outer s H)
    (T : Two s.heap C N I bmB mN mI B newId) (SF : StoreFacts B bmB sa owner) (s1 : mN "__setattr__" = none) (s2 : mI "__setattr__" = none) (n1 : mN f = none) (n2 : mI f = none) (hB : typeLookup (.type B) f = pure none)
    {o : Obj} (hx : s.heap.get? x = some o) (hc : o.cls = .ref C) (hnc : ∀ c, o.data ≠ .cls c) (hdn : o.dict = none) {v : V} {u : Value} (rv : RelV v u) {R : Result → Shared → Prop}
    (hq : ∀ h' tk' dx, h'.get? x = some { o with dict := some dx } → s.heap.objs.size ≤ dx → dx ≠ x → h'.Ns1 dx (fun y => if y = f then some u else none) → (∀ b ob, b ≠ x → s.heap.get? b = some ob → h'.get? b = some ob) → R (.ok (.ret .none)) { s with heap := h', toks := tk' }) :
    codeAny (model P w) A (.call (.ref fI) ⟨[.ref x, u], []⟩) R s := by
  have KX : K.In s.heap := e0.mod.kin.keeps fun b o e => (e0.bs b o e).1
  have lim : s.heap.NoLimit := e0.mod.nolimit.keeps fun b o e => (e0.bs b o e).1
  have kinds : ∀ y ∈ (["self", f] : List Str).zip [Value.ref x, u], scope.names.lookup y.1 = some .local ∨ (scope.names.lookup y.1 = some .cell ∧ ((cellsFrom (s.heap.objs.size + 1) scope.names []).lookup y.1).isSome = true) := by
    rintro ⟨n, z⟩ hy
    rcases S.par n (List.of_mem_zip hy).1 with q | q
    · exact .inl q
    · exact .inr ⟨q, PySem.W.cellsFrom_some _ _ _ (.inl q)⟩
  refine codeAny_call_function hr.depth (KX _ _ lk) rfl S.co S.gen rfl (PySem.W.codeRec_of KX hcd) (hb s [.ref x, u] KX rfl _ _ _ _ ?_)
  refine wpAny_newFunctionEnv_cells S.kind kinds fun env he s3 y => ?_
  subst he
  refine ⟨lim.keeps y.toInCall.keep, codeAny_func ?_⟩
  obtain ⟨h3, tk3, rfl, kp⟩ := y.done
  have ns := y.toInCall.ns
  have m1 : bindL (envOfC qual scope s.heap.objs.size fI cdv).kindOf ((["self", f] : List Str).zip [Value.ref x, u]) (fun _ => none) "self" = some (.ref x) :=
    bindL_get S.nd (i := 0) rfl rfl l1
  have m2 : bindL (envOfC qual scope s.heap.objs.size fI cdv).kindOf ((["self", f] : List Str).zip [Value.ref x, u]) (fun _ => none) f = some u :=
    bindL_get S.nd (i := 1) rfl rfl l2
  refine wpAny_execs_cons (plainObj_wpAny_Assign_Attribute (wpAny_Name (wpAny_loadName_local S.kind l2 ns m2 (wpAny_Name (wpAny_loadName_local S.kind l1 ns m1 ?_))) fd))
  refine (T.keeps kp).set0 SF s1 s2 n1 n2 hB (kp _ _ hx) hc hnc hdn fun h' tk' dx z1 z2 z3 z4 z5 => ?_
  refine wpAny_execs_nil ?_
  exact hq h' tk' dx z1 (Nat.le_trans (Nat.le_trans y.toInCall.fresh (Nat.le_of_lt ns.lt)) z2) z3 z4 fun b ob e q => z5 b ob e (kp _ _ q)
end
end XC
namespace XC
open PySem PySem.Spec PyProof.Rows L2 My
structure Fly (h : Heap) (a C dx : Addr) (f : Str) (u : Value) (tb : Option Addr) : Prop where
  obj : ∃ vs sl, h.get? a = some ⟨.ref C, some dx, .fields vs, sl⟩ ∧ vs[1]? = some (tb.elim .none .ref)
  dic : h.Ns1 dx (fun y => if y = f then some u else none)
  ne : dx ≠ a
  hd : ∀ T, tb = some T → T ≠ a ∧ T ≠ dx ∧ ∃ oT ts, h.get? T = some oT ∧ oT.data = .fields ts ∧ ts[3]? = some .none
section
variable {M : Model} {A : Around} {E : Value → Shared → Prop} {s : Shared}
theorem entry_new {base : Heap} {env : Env} {outer : List Env} {L a : Addr} {oe : Obj} {vs : Array Value} {head : Value} {hn : Bool} {Q : Unit → Shared → Prop}
    (hfr : A.frames = some (env :: outer)) (hl : s.heap.FunFrames base (env :: outer)) (hf : env.frame = some L) (he : s.heap.get? a = some oe) (hd : oe.data = .fields vs) (hsz : 1 < vs.size)
    (h : ∀ h' T, s.heap.objs.size ≤ T → h'.get? a = some (oe.mapFields (·.setIfInBounds 1 (.ref T))) → (∃ oT ts, h'.get? T = some oT ∧ oT.data = .fields ts ∧ ts[3]? = some .none) →
      (∀ b o, b ≠ a → b ∉ frs (env :: outer) → s.heap.get? b = some o → h'.get? b = some o) → (∀ b o, b ≠ a → s.heap.get? b = some o → ∃ sl, h'.get? b = some { o with slots := sl }) → Q () { s with heap := h' }) :
    wpAny M A (do let z ← frameOf env; let pl ← entryPlaceOf L hn; let b ← EntryCells.newEntry head z .none (rawInt L) .none pl; setField (.ref a) 1 b) (fun _ s' => wpAny M A (setFlight (.ref a) none) Q E s') E s := by
  have nf : a ∉ (env :: outer).filterMap (·.frame) := fun z => by
    obtain ⟨_, o, ho, q⟩ := hl.mem z
    rw [he] at ho
    cases ho
    exact q vs hd
  refine wpAny_bind (wpAny_frameOf_fun hfr hl hf fun h1 hs => ?_)
  refine wpAny_bind (wpAny_entryPlaceOf fun pl hpl => ?_)
  unfold EntryCells.newEntry newFields
  refine wpAny_bind (wpAny_newObj_type ?_ (hpl.sizeOk5 _ _ _ _ _))
  obtain ⟨ob, eob⟩ : ∃ ob : Obj, ob = { cls := .type "traceback", dict := none, data := .fields ([head, .ref L, .none, rawInt L, .none] ++ (if pl.isEmpty then List.replicate 6 Value.none else pl)).toArray } := ⟨_, rfl⟩
  rw [← eob]
  have od : ob.data = .fields ([head, .ref L, .none, rawInt L, .none] ++ (if pl.isEmpty then List.replicate 6 Value.none else pl)).toArray := by rw [eob]
  have ofr : ob.isFreed = false := by rw [eob]; rfl
  have a1 : h1.get? a = some oe := (hs.2.1 a nf).trans he
  have a2 : (h1.push ob).get? a = some oe := Heap.get?_push_of_some _ a1
  refine wpAny_setField a2 hd hsz ?_
  have sz : h1.objs.size = s.heap.objs.size := hs.1
  have ne : h1.objs.size ≠ a := Nat.ne_of_gt (Heap.lt_size a1)
  have d3 := Obj.data_mapFields hd (·.setIfInBounds 1 (Value.ref h1.objs.size))
  obtain ⟨h3, e3⟩ : ∃ h3, h3 = (h1.push ob).update a (Obj.mapFields (·.setIfInBounds 1 (Value.ref h1.objs.size))) := ⟨_, rfl⟩
  rw [← e3]
  have a3 : h3.get? a = some (oe.mapFields (·.setIfInBounds 1 (.ref h1.objs.size))) := by
    rw [e3]; exact Heap.get?_update_self _ a2 (Obj.isFreed_of_fields d3)
  have t3 : h3.get? h1.objs.size = some ob := by
    rw [e3]; exact (Heap.get?_update_other _ _ ne.symm).trans (Heap.get?_push_size h1 ofr)
  have o3 : ∀ b, b ≠ a → b ≠ h1.objs.size → h3.get? b = h1.get? b := fun b z1 z2 => by
    rw [e3, Heap.get?_update_other _ _ (Ne.symm z1)]
    exact Heap.get?_push_ne _ _ _ z2
  unfold setFlight
  refine wpAny_bind (wpAny_field a3 d3 (x := .ref h1.objs.size) (by simp [hsz]) ?_)
  rw [if_pos (show (Value.ref h1.objs.size != Value.none) = true by simp)]
  have d4 := Obj.data_mapFields od (·.setIfInBounds 3 ((none : Option Addr).elim Value.none fun f => rawInt f))
  refine wpAny_setField t3 od (by simp only [List.size_toArray, List.length_append, List.length_cons, List.length_nil] <;> omega) ?_
  obtain ⟨h4, e4⟩ : ∃ h4, h4 = h3.update h1.objs.size (Obj.mapFields (·.setIfInBounds 3 ((none : Option Addr).elim Value.none fun f => rawInt f))) := ⟨_, rfl⟩
  rw [← e4]
  have o4 : ∀ b, b ≠ h1.objs.size → h4.get? b = h3.get? b := fun b z => by rw [e4]; exact Heap.get?_update_other _ _ (Ne.symm z)
  refine h h4 h1.objs.size (Nat.le_of_eq sz.symm) ((o4 a (Ne.symm ne)).trans a3) ⟨_, _, by rw [e4]; exact Heap.get?_update_self _ t3 (Obj.isFreed_of_fields d4), d4, ?_⟩ (fun b o z1 z2 q => ?_) fun b o z1 q => ?_
  · rcases hpl with rfl | ⟨_, _, _, _, _, _, _, rfl⟩ <;> simp
  · have q1 : h1.get? b = some o := (hs.2.1 b z2).trans q
    have z3 : b ≠ h1.objs.size := Nat.ne_of_lt (Heap.lt_size q1)
    exact (o4 b z3).trans ((o3 b z1 z3).trans q1)
  · obtain ⟨sl, q1⟩ := hs.2.2 b o q
    have z3 : b ≠ h1.objs.size := Nat.ne_of_lt (Heap.lt_size q1)
    exact ⟨sl, (o4 b z3).trans ((o3 b z1 z3).trans q1)⟩
end
end XC
namespace XC
open PySem PySem.Spec PyProof.Rows L2 My
section
variable {M : Model} {A : Around} {E : Value → Shared → Prop} {s : Shared}
theorem note_fly {base : Heap} {env : Env} {outer : List Env} {L a C dx : Addr} {f : Str} {u : Value} {tb : Option Addr} {Q : Unit → Shared → Prop}
    (hfr : A.frames = some (env :: outer)) (hl : s.heap.FunFrames base (env :: outer)) (hf : env.frame = some L) (F : Fly s.heap a C dx f u tb) (nd : dx ∉ frs (env :: outer))
    (h : ∀ h' T, s.heap.objs.size ≤ T → Fly h' a C dx f u (some T) → (∀ b o, b ≠ a → tb ≠ some b → b ∉ frs (env :: outer) → s.heap.get? b = some o → h'.get? b = some o) →
      (∀ b o, b ≠ a → tb ≠ some b → s.heap.get? b = some o → ∃ sl, h'.get? b = some { o with slots := sl }) → Q () { s with heap := h' }) :
    wpAny M A (noteFrame (.ref a) env) (fun _ s' => wpAny M A (setFlight (.ref a) none) Q E s') E s := by
  obtain ⟨⟨vs, sl, ea, e1⟩, hdic, hne, hhd⟩ := F
  have hsz : 1 < vs.size := (Array.getElem?_eq_some_iff.mp e1).1
  have dlt : dx < s.heap.objs.size := by
    obtain ⟨o, _, _, q, _⟩ := hdic
    exact Heap.lt_size q
  unfold noteFrame
  simp only [hf]
  cases tb with
  | none =>
    refine wpAny_bind (wpAny_field ea rfl e1 ?_)
    rw [if_neg (by decide)]
    refine entry_new hfr hl hf ea rfl hsz fun h' T hT q1 q2 q3 q4 => h h' T hT ⟨⟨_, sl, q1, by simp [hsz]⟩, ?_, hne, fun T' z => ?_⟩ (fun b o z1 _ z2 z3 => q3 b o z1 z2 z3) fun b o z1 _ z2 => q4 b o z1 z2
    · obtain ⟨o, es, ep, r1, r2⟩ := hdic
      exact ⟨o, es, ep, q3 dx o hne nd r1, r2⟩
    · cases z
      refine ⟨fun z => ?_, fun z => ?_, q2⟩
      · rw [z] at hT
        exact absurd (Heap.lt_size ea) (Nat.not_lt.mpr hT)
      · rw [z] at hT
        exact absurd dlt (Nat.not_lt.mpr hT)
  | some T =>
    obtain ⟨Ta, Td, oT, ts, t1, t2, t3⟩ := hhd T rfl
    refine wpAny_bind (wpAny_field ea rfl e1 ?_)
    rw [if_pos (show ((Option.elim (some T) Value.none Value.ref) != Value.none) = true by simp)]
    refine wpAny_bind (wpAny_field t1 t2 t3 ?_)
    rw [if_neg (show ¬ ((Value.none == rawInt L) = true) by simp [rawInt])]
    refine wpAny_bind (wpAny_setField t1 t2 (Array.getElem?_eq_some_iff.mp t3).1 ?_)
    obtain ⟨h2, e2⟩ : ∃ h2, h2 = s.heap.update T (Obj.mapFields (·.setIfInBounds 3 Value.none)) := ⟨_, rfl⟩
    rw [← e2]
    have o2 : ∀ b, b ≠ T → h2.get? b = s.heap.get? b := fun b z => by rw [e2]; exact Heap.get?_update_other _ _ (Ne.symm z)
    have sz2 : h2.objs.size = s.heap.objs.size := by rw [e2]; exact Heap.size_update ..
    have nT : T ∉ frs (env :: outer) := fun z => by
      obtain ⟨_, o, ho, q⟩ := hl.mem z
      rw [t1] at ho
      cases ho
      exact q ts t2
    have hl2 : h2.FunFrames base (env :: outer) := hl.of_keeps fun b o hb q => ⟨o, (o2 b fun z => by rw [z, t1] at hb; cases hb; exact q ts t2).trans hb, rfl⟩
    refine entry_new (s := { s with heap := h2 }) hfr hl2 hf ((o2 a (Ne.symm Ta)).trans ea) rfl hsz fun h' T' hT q1 q2 q3 q4 => h h' T' (by rw [← sz2]; exact hT) ⟨⟨_, sl, q1, by simp [hsz]⟩, ?_, hne, fun T2 z => ?_⟩
      (fun b o z1 z0 z2 z3 => q3 b o z1 z2 ((o2 b fun z => z0 (by rw [z])).trans z3)) fun b o z1 z0 z2 => q4 b o z1 ((o2 b fun z => z0 (by rw [z])).trans z2)
    · obtain ⟨o, es, ep, r1, r2⟩ := hdic
      exact ⟨o, es, ep, q3 dx o hne nd ((o2 dx (Ne.symm Td)).trans r1), r2⟩
    · cases z
      have hT : s.heap.objs.size ≤ T' := by rw [← sz2]; exact hT
      refine ⟨fun z => ?_, fun z => ?_, q2⟩
      · rw [z] at hT
        exact absurd (Heap.lt_size ea) (Nat.not_lt.mpr hT)
      · rw [z] at hT
        exact absurd dlt (Nat.not_lt.mpr hT)
end
end XC
namespace XC
open PySem PySem.Spec PyProof.Rows L2 My
structure Loose (X : Cx) (pins : List (Addr × Obj)) (H : Hp) (b : Addr) : Prop where
  new : X.s₀.heap.objs.size ≤ b
  loc : b ≠ X.env.locals
  cel : ∀ x c, X.env.cells.lookup x = some c → c ≠ b
  pin : ∀ p ∈ X.pn ++ pins, p.1 ≠ b
  out : H b = none
section
variable {X : Cx} {pins : List (Addr × Obj)} {σ : L2.St} {H H' : Hp} {s : Shared}
theorem Loose.of (I : Inv X pins σ H s) {b : Addr} (hb : s.heap.objs.size ≤ b) (hH : H' b = none) : Loose X pins H' b := by
  refine ⟨Nat.le_trans I.sz hb, fun z => ?_, fun x c e z => ?_, fun p hp z => ?_, hH⟩
  · rw [z] at hb; exact absurd I.lt (Nat.not_lt.mpr hb)
  · obtain ⟨v, o, ho, _⟩ := I.cell x c e
    rw [z] at ho
    exact absurd (Heap.lt_size ho) (Nat.not_lt.mpr hb)
  · have := (I.pin p hp).1
    rw [z] at this
    exact absurd (Heap.lt_size this) (Nat.not_lt.mpr hb)
theorem Loose.nofs (I : Inv X pins σ H s) {b : Addr} (L : Loose X pins H' b) : b ∉ X.env.locals :: X.fs := fun z => by
  rcases List.mem_cons.mp z with e | e
  · exact L.loc e
  · obtain ⟨_, o, ho, _⟩ := I.ok.funs.mem e
    exact absurd (Heap.lt_size ho) (Nat.not_lt.mpr L.new)
theorem inv_note {M : Model} {A : Around} {E : Value → Shared → Prop} {a C dx : Addr} {f : Str} {u : Value} {tb : Option Addr} {Q : Unit → Shared → Prop} (hA : A.frames = X.A.frames) (I : Inv X pins σ H s) (hst : X.stack = X.env :: X.outer) (hfr : X.env.frame = some X.env.locals)
    (F : Fly s.heap a C dx f u tb) (La : Loose X pins H a) (Ld : Loose X pins H dx) (Lt : ∀ T, tb = some T → Loose X pins H T)
    (h : ∀ s' T, Inv X pins σ H s' → Fly s'.heap a C dx f u (some T) → s'.os = s.os → s'.gens = s.gens → Loose X pins H T → Q () s') :
    wpAny M A (noteFrame (.ref a) X.env) (fun _ s' => wpAny M A (setFlight (.ref a) none) Q E s') E s := by
  have fl := I.stack
  rw [hst] at fl
  have fe : frs (X.env :: X.outer) = X.env.locals :: X.fs := by unfold frs; rw [List.filterMap_cons, hfr]; rfl
  refine note_fly (hA.trans (I.ok.frames.trans (by rw [hst]))) fl hfr F (by rw [fe]; exact Ld.nofs I) fun h' T hT F' k1 k2 => ?_
  have LT : Loose X pins H T := Loose.of I hT (I.hok.fresh hT)
  refine h _ T ?_ F' rfl rfl LT
  rw [fe] at k1
  have ex : ∀ b, H b ≠ none → b ≠ a ∧ tb ≠ some b ∧ b ∉ X.env.locals :: X.fs := fun b hb => by
    refine ⟨fun z => hb (by rw [z]; exact La.out), fun z => hb (Lt b z).out, fun z => hb ?_⟩
    exact I.stkFree b (by rw [hst, fe]; exact z)
  obtain ⟨m, ⟨o, es, ep, ho, r⟩, _⟩ := id I.loc
  obtain ⟨sl, hL⟩ := k2 _ o (Ne.symm La.loc) (fun z => (Lt _ z).loc rfl) ho
  refine I.step (g' := s.gens) (d' := s.drawn) (t' := s.toks) (ch := a :: tb.toList) (fun b hb => ?_) (fun b o z1 z2 z3 q _ => k1 b o (fun z => z3 (by rw [z]; exact List.mem_cons_self)) (fun z => z3 (List.mem_cons_of_mem _ (by rw [z]; exact List.mem_singleton.mpr rfl))) (fun z => (List.mem_cons.mp z).elim z1 z2) q)
    (fun b o z1 z2 z3 q _ => k2 b o (fun z => z3 (by rw [z]; exact List.mem_cons_self)) (fun z => z3 (List.mem_cons_of_mem _ (by rw [z]; exact List.mem_singleton.mpr rfl))) q) (fun _ _ _ _ z => z)
    (fun b o z3 q => let ⟨_, w⟩ := k2 b o (fun z => z3 (by rw [z]; exact List.mem_cons_self)) (fun z => z3 (List.mem_cons_of_mem _ (by rw [z]; exact List.mem_singleton.mpr rfl))) q; ⟨_, w⟩) (fun _ _ e => e) (fun _ _ _ e => e) (fun _ _ _ e => e) (fun m' hm => ?_) (fun b w e => ?_) I.bare
  · rcases List.mem_cons.mp hb with e | e
    · rw [e]; exact ⟨.inr La.new, La.loc, La.cel, La.pin⟩
    · cases tb with
      | none => cases e
      | some T0 =>
        have e : b = T0 := by simpa using e
        have := Lt T0 rfl
        rw [e]; exact ⟨.inr this.new, this.loc, this.cel, this.pin⟩
  · obtain ⟨o', es', ep', ho', r'⟩ := hm
    rw [ho] at ho'; cases ho'
    exact ⟨_, es', ep', hL, r'⟩
  · refine (I.hok b w e).stay (fun c v hc q => ?_) (fun _ q => q) fun _ _ q => q
    obtain ⟨z1, z2, z3⟩ := ex c (by
      rcases hc with z | z
      · rw [z, e]; simp
      · rw [z]; simp)
    exact k1 c v z1 z2 z3 q
end
end XC
namespace XC
open PySem PySem.Spec PyProof.Rows L2 My
section
variable {prog : Program} {w : World} {A : Around} {E : Value → Shared → Prop} {h : Heap} {g : Array GenState} {d : Drawn} {t : Nat} {os : OsState}
variable {C N I : Addr} {bmB : List Value} {mN mI : Str → Option Value} {B newId initId : String}
theorem Two.call {rest : List Value} {fI : Addr} {oI : Obj} {Q : Value → Shared → Prop} (T : Two h C N I bmB mN mI B newId) (F : ExcBaseFacts B newId initId bmB) (hi : mI "__init__" = none) (hN : mN "__init__" = some (.ref fI))
    (hf : h.get? fI = some oI) (hfc : oI.cls = .type "function") (hrest : rest.length ≤ sizeLine)
    (hq : ∀ h' e, h.objs.size ≤ e → Heap.MadeExcOf h h' e (.ref C) rest → wpAny (model prog w) (A.under (.builtin "type.__call__" ⟨.ref C :: rest, []⟩)) (call (.ref fI) (.ref e :: rest)) (fun r s' => r = .none ∧ Q (.ref e) s') E ⟨h', g, d, t, os⟩) :
    wpAny (model prog w) A (call (.ref C) rest) Q E ⟨h, g, d, t, os⟩ := by
  have T0 := T
  obtain ⟨⟨nm, q, bs, sn, sub, ab, col, dd, k0, k1, k2, k3, k5, hC⟩, hn, ⟨jnm, jq, NI, jbs, jsn, jsub, jab, jcol, jdd, j0, j1, j2, j3, j5, nid, hI, hm⟩, hb⟩ := T
  have g1 := tc_lookup
  have g2 := tc_bind (.ref C)
  have ty : (⟨h, g, d, t, os⟩ : Shared).TypeIs (.ref C) "type" := ⟨_, hC, rfl⟩
  refine wpAny_call (codeAny_of_tree ?_)
  show wpAny _ _ (callAny (.ref C) _) _ _ _
  repeat (any_goals (first
    | assumption
    | with_reducible refine wpAny_loadPart_at hC ?_
    | wp_step))
  refine ⟨rfl, ?_⟩
  refine codeAny_call_builtin_at (Code.quiet_builtin _ (by decide +kernel)) entry_typeCall (wpAny_check_type_call_sub hC (T0.make F hi hN hf hfc hrest fun h' e hz hm => ?_))
  exact hq h' e hz hm
theorem raise_made {M : Model} {A : Around} {s : Shared} {env : Env} {x : Sem Value} {Q : Flow → Shared → Prop} (hh : A.handled = none) (hbase : bmB.contains (.type "BaseException") = true)
    (h : wpAny M A x (fun v s₁ => ∃ e oe, v = .ref e ∧ Two s₁.heap C N I bmB mN mI B newId ∧ s₁.heap.get? e = some oe ∧ oe.cls = .ref C ∧ (∃ vs, oe.data = .fields vs ∧ vs[1]? = some .none) ∧ E (.ref e) s₁) E s) :
    wpAny M A (raiseStmt env (some x) none) Q E s := by
  have cB : (Value.ref C :: .ref I :: bmB).contains (.type "BaseException") = true := by
    rw [List.contains_cons, List.contains_cons, hbase, Bool.or_true, Bool.or_true]
  unfold raiseStmt
  refine wpAny_bind (wpAny_mono h (fun v s₁ q => ?_) fun _ _ z => z)
  obtain ⟨e, oe, rfl, T, he, hc, ⟨vs, hd, h1⟩, hE⟩ := q
  obtain ⟨⟨nm, q, bs, sn, sub, ab, col, dd, k0, k1, k2, k3, k5, hC⟩, hn, ⟨jnm, jq, NI, jbs, jsn, jsub, jab, jcol, jdd, j0, j1, j2, j3, j5, nid, hI, hm⟩, hb⟩ := T
  obtain ⟨hp, g, d, tk, os⟩ := s₁
  repeat (first
    | (with_reducible refine wpAny_loadPart_at he ?_; rw [hc])
    | with_reducible refine wpAny_loadPart_at hC ?_
    | (with_reducible refine wpAny_isSubtype_exc hC ?_; rw [cB])
    | (with_reducible refine wpAny_field he hd h1 ?_)
    | wp_step)
  exact wpAny_raiseNew_none hh hE
end
end XC
namespace XC
open PySem PySem.Spec PyProof.Rows L2 My
abbrev bmV : List Value := [.type "ValueError", .type "Exception", .type "BaseException", .type "object"]
structure Init (K : PySem.W.Frag) (f : Str) (fI : Addr) : Prop where
  ex : ∃ (name qual : Str) (params : Arguments) (scope : Scope) (dV kV doc pm cdv ct : Value) (an od : Option Addr) (osl : Array (Option Value)) (p1 p2 p3 p4 : Pos),
    K.lookup fI = some ⟨.type "function", od, .func (PySem.W.fnOf name qual params [.Assign [.Attribute (.Name "self" p1) f p2] (.Name f p3) p4] scope dV kV doc pm an cdv ct), osl⟩ ∧ PySem.W.codeIn K cdv qual = true ∧
    FnScope ["self", f] ["self", f] scope ∧ scope.names.lookup ("self" : Str) = some NameKind.local ∧ scope.names.lookup f = some NameKind.local ∧
    Binds K (PySem.W.fnOf name qual params [.Assign [.Attribute (.Name "self" p1) f p2] (.Name f p3) p4] scope dV kV doc pm an cdv ct) ["self", f] []
  ne : ("self" : Str) ≠ f
  nd : (f == ("__debug__" : Str)) = false
  nc : (f == ("__classdict__" : Str)) = false
structure Exc (K : PySem.W.Frag) (mg : Str → Option Value) (cn f : Str) (C I : Addr) : Prop where
  mgC : mg cn = some (.ref C)
  kp : PySem.W.keepIn K (.ref C) = true
  hB : typeLookup (.type "ValueError") f = pure none
  ex : ∃ (N fI : Addr) (mN mI : Str → Option Value), (∀ h, K.In h → Two h C N I bmV mN mI "ValueError" "ValueError.__new__") ∧ mN "__init__" = some (.ref fI) ∧ mI "__init__" = none ∧ mN "__setattr__" = none ∧ mI "__setattr__" = none ∧ mN f = none ∧ mI f = none ∧ Init K f fI
section
variable {X : Cx} {pins : List (Addr × Obj)} {σ : L2.St} {H : Hp} {s : Shared} {cn f : Str} {C I : Addr} {arg : Expr} {ta : TE} {p pos : Pos} {k : Nat}
theorem make_exc {R : V → Hp → Prop} (Ex : Exc X.K X.mg cn f C I) (hr : Room (k + 2) X.A) (hg : Gl X cn) (hdb : (cn == ("__debug__" : Str)) = false) (ha : PE X arg ta) (J : Inv X pins σ H s) (h : ta σ H R)
    (he : starEach [arg] X.env = (false, eval arg X.env) :: starEach [] X.env := by rfl) (hpl : (backTo pos (starEach [] X.env)).any (·.1) = false := by rfl) :
    wpAny (model X.prog X.w) X.A (eval (.Call (.Name cn p) [arg] [] pos) X.env) (fun r s' => ∃ (v : V) (H1 : Hp) (a dx : Addr) (u : Value), r = .ref a ∧ R v H1 ∧ RelV v u ∧ Inv X pins σ H1 s' ∧ Fly s'.heap a C dx f u none ∧ Loose X pins H1 a ∧ Loose X pins H1 dx) X.xe s := by
  obtain ⟨mgC, kp, hB, N, fI, mN, mI, TK, i1, i2, s1, s2, n1, n2, ⟨⟨name, qual, params, scope, dV, kV, doc, pm, cdv, ct, an, od, osl, p1, p2, p3, p4, lk, hcd, S, l1, l2, hb⟩, ne, nd, nc⟩⟩ := Ex
  refine wpAny_Call_Name_kw (ld_glob J hg mgC ?_ hdb)
  have h' : tCons ta tNil σ H fun vs H1 => match vs with
      | [v] => R v H1
      | _ => False := h
  refine PySem.W.callWith_K (h₀ := X.base) J.ok.mod.kin kp (thn (pa_cons ha pa_nil he pos pins s σ H _ J h') fun us z ⟨vs, H1, J1, r, q⟩ => ⟨J1.kIn, ?_⟩) he hpl
  obtain ⟨v, u, rfl, rfl, rv⟩ : ∃ v u, vs = [v] ∧ us = [u] ∧ RelV v u := by
    cases r with
    | nil => exact q.elim
    | cons a b => cases b with
      | nil => exact ⟨_, _, rfl, rfl, a⟩
      | cons _ _ => exact q.elim
  obtain ⟨hp, g, d, tk, os⟩ := z
  refine (TK _ J1.kIn).call PySem.F.excBase_ValueError i2 i1 (J1.kIn _ _ lk) rfl (show 1 ≤ sizeLine by decide) fun h' e hz hm => ?_
  have J2 : Inv X pins σ H1 ⟨h', g, d, tk, os⟩ := J1.kept (t' := tk) hm.keeps
  obtain ⟨t, ht, _, _⟩ := hm.there
  refine wpAny_call (init_run (x := e) lk hcd S l1 l2 ne nd nc hb (hr.make C [u] []) (J2.env0.make C [u] []) (TK _ J2.kIn) PySem.F.store_ValueError s1 s2 n1 n2 hB ht rfl (fun c z => by cases z) rfl rv fun h3 tk3 dx z1 z2 z3 z4 z5 => ?_)
  have k3 : ∀ b ob, hp.get? b = some ob → h3.get? b = some ob := fun b ob w => z5 b ob (fun y => by
    rw [y] at w
    exact absurd (Heap.lt_size w) (Nat.not_lt.mpr hz)) (hm.keeps _ _ w)
  have J3 : Inv X pins σ H1 ⟨h3, g, d, tk3, os⟩ := J1.kept (t' := tk3) k3
  have szz : hp.objs.size ≤ dx := by
    have e1 : e < h'.objs.size := Heap.lt_size ht
    exact Nat.le_trans hz (Nat.le_trans (Nat.le_of_lt e1) z2)
  exact ⟨rfl, v, H1, e, dx, u, rfl, q, rv, J3, ⟨⟨_, _, z1, rfl⟩, z4, z3, fun T y => by cases y⟩, Loose.of J1 hz (J1.hok.fresh hz), Loose.of J1 szz (J1.hok.fresh szz)⟩
end
end XC
namespace XC
open PySem PySem.Spec PyProof.Rows L2 My
def CXE (P : Program) (w : World) (fld : Addr → Str) : CXT := fun outer H s E e s' => ∃ (a C dx T : Addr) (u : Value) (H' : Hp), e = .ref a ∧ s'.os = s.os ∧ AllBare s'.gens ∧ Un (frs outer) [] H H' s.heap s'.heap ∧ HOk P w H' s'.heap ∧ Fly s'.heap a C dx (fld C) u (some T) ∧
  s.heap.objs.size ≤ a ∧ s.heap.objs.size ≤ dx ∧ s.heap.objs.size ≤ T ∧ H' a = none ∧ H' dx = none ∧ H' T = none ∧ E u (some C) H'
theorem CXE.no {P : Program} {w : World} {fld : Addr → Str} {outer : List Env} {H : Hp} {s s' : Shared} {e : Value} (h : CXE P w fld outer H s E0 e s') : False := by
  obtain ⟨_, _, _, _, _, _, _, _, _, _, _, _, _, _, _, _, _, _, z⟩ := h
  exact z
section
variable {P : Program} {w : World} {K : PySem.W.Frag} {mg : Str → Option Value} {base : Heap} {N : List Str} {qual : Str} {scope : Scope} {fa : Addr} {cdv : Value} {A : Around} {outer : List Env} {s₀ : Shared} {H₀ : Hp} {E : XK} {fld : Addr → Str}
variable {pins : List (Addr × Obj)} {σ : L2.St} {H : Hp} {s : Shared}
theorem xe_of {a C dx : Addr} {u : Value} {tb : Option Addr} (I : Inv (cxOf (CXE P w fld) P w K mg base N qual scope fa cdv A outer s₀ H₀ E) pins σ H s) (F : Fly s.heap a C dx (fld C) u tb)
    (La : Loose (cxOf (CXE P w fld) P w K mg base N qual scope fa cdv A outer s₀ H₀ E) pins H a) (Ld : Loose (cxOf (CXE P w fld) P w K mg base N qual scope fa cdv A outer s₀ H₀ E) pins H dx)
    (Lt : ∀ T, tb = some T → Loose (cxOf (CXE P w fld) P w K mg base N qual scope fa cdv A outer s₀ H₀ E) pins H T) (q : E u (some C) H) : (cxOf (CXE P w fld) P w K mg base N qual scope fa cdv A outer s₀ H₀ E).xe (.ref a) s := by
  show wpAny _ _ (leaving _ (.ref a)) _ _ s
  unfold leaving
  refine wpAny_bind (inv_note rfl I rfl rfl F La Ld Lt fun s' T I' F' o1 o2 LT => ?_)
  exact ⟨a, C, dx, T, u, H, rfl, I'.os, I'.bare, I'.base, I'.hok, F', La.new, Ld.new, LT.new, La.out, Ld.out, LT.out, q⟩
end
section
variable {X : Cx} {pins : List (Addr × Obj)} {σ : L2.St} {H : Hp} {s : Shared} {cn f : Str} {C I : Addr} {arg : Expr} {ta : TE} {p pos rpos : Pos} {k : Nat}
theorem raise_at {Q : Flow → Shared → Prop} {R : V → Hp → Prop} (Ex : Exc X.K X.mg cn f C I) (hr : Room (k + 2) X.A) (hg : Gl X cn) (hdb : (cn == ("__debug__" : Str)) = false) (ha : PE X arg ta) (J : Inv X pins σ H s) (h : ta σ H R)
    (hx : ∀ (v : V) (H1 : Hp) (a dx : Addr) (u : Value) (s' : Shared), R v H1 → RelV v u → Inv X pins σ H1 s' → Fly s'.heap a C dx f u none → Loose X pins H1 a → Loose X pins H1 dx → X.xe (.ref a) s')
    (he : starEach [arg] X.env = (false, eval arg X.env) :: starEach [] X.env := by rfl) (hpl : (backTo pos (starEach [] X.env)).any (·.1) = false := by rfl) :
    wpAny (model X.prog X.w) X.A (exec (.Raise (some (.Call (.Name cn p) [arg] [] pos)) none rpos) X.env) Q X.xe s := by
  have Ex0 := Ex
  obtain ⟨mgC, kp, hB, N, fI, mN, mI, TK, i1, i2, s1, s2, n1, n2, _⟩ := Ex
  rw [arm_exec_Raise]
  simp only [evalOpt, Option.map]
  refine wpAny_bind (wpAny_standAt (raise_made (C := C) (N := N) (I := I) (bmB := bmV) (mN := mN) (mI := mI) (B := "ValueError") (newId := "ValueError.__new__") hr.hd (by decide) ?_))
  refine wpAny_bind (wpAny_mono (make_exc Ex0 hr hg hdb ha J h he hpl) (fun r s' q => ?_) fun _ _ z => z)
  obtain ⟨v, H1, a, dx, u, rfl, q, rv, J', F, La, Ld⟩ := q
  refine wpAny_bind (wpAny_standAt (wpAny_pure ?_))
  obtain ⟨vs, sl, e1, e2⟩ := F.obj
  exact ⟨a, _, rfl, TK _ J'.kIn, e1, rfl, ⟨vs, rfl, e2⟩, hx v H1 a dx u s' q rv J' F La Ld⟩
end
end XC
namespace XC
open PySem PySem.Spec PyProof.Rows L2 My
section
variable {M : Model} {A : Around} {E : Value → Shared → Prop} {h : Heap} {g : Array GenState} {d : Drawn} {t : Nat} {os : OsState}
variable {C N I a : Addr} {bmB : List Value} {mN mI : Str → Option Value} {B newId : String} {oe : Obj}
theorem Two.match_up {Q : Bool → Shared → Prop} (T : Two h C N I bmB mN mI B newId) (he : h.get? a = some oe) (hc : oe.cls = .ref C) (hbase : bmB.contains (.type "BaseException") = true) (hq : Q true ⟨h, g, d, t, os⟩) :
    wpAny M A (excMatches (.ref a) (.ref I)) Q E ⟨h, g, d, t, os⟩ := by
  obtain ⟨⟨nm, q, bs, sn, sub, ab, col, dd, k0, k1, k2, k3, k5, hC⟩, hn, ⟨jnm, jq, NI, jbs, jsn, jsub, jab, jcol, jdd, j0, j1, j2, j3, j5, nid, hI, hm⟩, hb⟩ := T
  have c1 : (Value.ref I :: bmB).contains (.type "BaseException") = true := by rw [List.contains_cons, hbase, Bool.or_true]
  have c2 : (Value.ref C :: .ref I :: bmB).contains (.ref I) = true := by simp
  have f := tc_notTuple
  unfold excMatches
  repeat (first
    | (with_reducible refine wpAny_loadPart_at he ?_; rw [hc])
    | with_reducible refine wpAny_loadPart_at hI ?_
    | with_reducible refine wpAny_loadPart_at hC ?_
    | (with_reducible refine wpAny_isSubtype_exc hI ?_; rw [c1])
    | (with_reducible refine wpAny_isSubtype_exc hC ?_; rw [c2])
    | wp_step)
  exact hq
theorem Two.match_self {Q : Bool → Shared → Prop} (T : Two h C N I bmB mN mI B newId) (he : h.get? a = some oe) (hc : oe.cls = .ref C) (hbase : bmB.contains (.type "BaseException") = true) (hq : Q true ⟨h, g, d, t, os⟩) :
    wpAny M A (excMatches (.ref a) (.ref C)) Q E ⟨h, g, d, t, os⟩ := by
  obtain ⟨⟨nm, q, bs, sn, sub, ab, col, dd, k0, k1, k2, k3, k5, hC⟩, hn, _, hb⟩ := T
  exact wpAny_excMatches_sub_self hC he hc (by rw [List.contains_cons, hbase, Bool.or_true]) hq
end
end XC
namespace XC
open PySem PySem.Spec PyProof.Rows L2 My
section
variable {prog : Program} {w : World} {A : Around} {E : Value → Shared → Prop} {h : Heap} {g : Array GenState} {d : Drawn} {t : Nat} {os : OsState}
variable {C N I a D : Addr} {bmB : List Value} {mN mI : Str → Option Value} {B newId : String} {oe oD : Obj}
theorem Two.isi_blt {T0 : String} {Q : Value → Shared → Prop} (T : Two h C N I bmB mN mI B newId) (he : h.get? a = some oe) (hc : oe.cls = .ref C) (hty : typeOf (.type T0) = pure (.type "type")) (hb : (Value.ref C :: .ref I :: bmB).contains (.type T0) = true) (hq : Q (.bool true) ⟨h, g, d, t, os⟩) :
    wpAny (model prog w) A (PySem.call (.builtin "isinstance") [.ref a, .type T0]) Q E ⟨h, g, d, t, os⟩ := by
  obtain ⟨⟨nm, q, bs, sn, sub, ab, col, dd, k0, k1, k2, k3, k5, hC⟩, _⟩ := T
  refine call_isinstance_of ?_ (by intro e; cases e)
  unfold Builtin.«isinstance.nested»
  repeat (first
    | (with_reducible refine wpAny_loadPart_at he ?_; rw [hc])
    | (with_reducible refine wpAny_isSubtype_exc hC ?_; rw [hb])
    | wp_step)
  exact hq
end
end XC
namespace XC
open PySem PySem.Spec PyProof.Rows L2 My
def suiteCx (X : Cx) (a : Addr) (oa : Obj) (dx : Addr) (od : Obj) : Cx := { X with A := X.A.mark (some (.ref a)), calm := false, pn := X.pn ++ [(a, oa), (dx, od)], xe := fun _ _ => False }
section
variable {X : Cx} {pins : List (Addr × Obj)} {σ : L2.St} {H : Hp} {s : Shared} {a C dx : Addr} {f : Str} {u : Value} {tb : Option Addr}
theorem inv_suite (I : Inv X pins σ H s) (F : Fly s.heap a C dx f u tb) (La : Loose X pins H a) (Ld : Loose X pins H dx) : ∃ oa od, s.heap.get? a = some oa ∧ s.heap.get? dx = some od ∧ Inv (suiteCx X a oa dx od) pins σ H s := by
  obtain ⟨vs, sl, e1, _⟩ := F.obj
  obtain ⟨od, es, ep, e2, e3, _⟩ := F.dic
  refine ⟨_, od, e1, e2, ⟨⟨I.ok.mod, I.ok.kind, I.ok.glob, I.ok.blt, I.ok.above, I.ok.inj, I.ok.has, I.ok.cab, fun z => (by cases z), I.ok.frames, I.ok.stk, I.ok.exf, I.ok.bs, I.ok.bsz, I.ok.noex, I.ok.exfs, I.ok.funs, I.ok.frf⟩, I.os, I.bare, I.base, I.loc, I.cell, I.free, I.freeC, fun p hp => ?_, I.hok, I.len⟩⟩
  have hp : p ∈ (X.pn ++ [(a, (⟨.ref C, some dx, .fields vs, sl⟩ : Obj)), (dx, od)]) ++ pins := hp
  rcases List.mem_append.mp hp with hp | hp
  · rcases List.mem_append.mp hp with hp | hp
    · exact I.pin p (List.mem_append_left _ hp)
    · rcases List.mem_cons.mp hp with rfl | hp
      · exact ⟨e1, La.out, La.loc, fun z => La.nofs I (List.mem_cons_of_mem _ z), fun v z => by cases z⟩
      · rw [List.mem_singleton.mp hp]
        exact ⟨e2, Ld.out, Ld.loc, fun z => Ld.nofs I (List.mem_cons_of_mem _ z), fun v z => by rw [e3] at z; cases z⟩
  · exact I.pin p (List.mem_append_right _ hp)
theorem inv_back {σ' : L2.St} {H' : Hp} {s' : Shared} {oa od : Obj} (ok : X.Ok) (I : Inv (suiteCx X a oa dx od) pins σ' H' s') : Inv X pins σ' H' s' := by
  refine ⟨ok, I.os, I.bare, I.base, I.loc, I.cell, I.free, I.freeC, fun p hp => ?_, I.hok, I.len⟩
  rcases List.mem_append.mp hp with hp | hp
  · exact I.pin p (List.mem_append_left _ (List.mem_append_left _ hp))
  · exact I.pin p (List.mem_append_right _ hp)
end
end XC
namespace XC
open PySem PySem.Spec PyProof.Rows L2 My
section
variable {X : Cx} {pins : List (Addr × Obj)} {σ : L2.St} {H : Hp} {s : Shared} {a C dx T : Addr} {f : Str} {u : Value}
theorem inv_flight {M : Model} {A : Around} {E : Value → Shared → Prop} {Q : Unit → Shared → Prop} (I : Inv X pins σ H s) (F : Fly s.heap a C dx f u (some T)) (hn : H T = none) (hL : T ≠ X.env.locals) (h1 : X.s₀.heap.objs.size ≤ T) (h2 : ∀ x c, X.env.cells.lookup x = some c → c ≠ T) (h3 : ∀ p ∈ X.pn ++ pins, p.1 ≠ T)
    (h : ∀ s', Inv X pins σ H s' → Fly s'.heap a C dx f u (some T) → Q () s') : wpAny M A (setFlight (.ref a) none) Q E s := by
  obtain ⟨⟨vs, sl, ea, e1⟩, hdic, hne, hhd⟩ := F
  obtain ⟨Ta, Td, oT, ts, t1, t2, t3⟩ := hhd T rfl
  unfold setFlight
  refine wpAny_bind (wpAny_field ea rfl e1 ?_)
  rw [if_pos (show ((Option.elim (some T) Value.none Value.ref) != Value.none) = true by simp)]
  refine wpAny_setField t1 t2 (Array.getElem?_eq_some_iff.mp t3).1 ?_
  obtain ⟨h', e2⟩ : ∃ h', h' = s.heap.update T (Obj.mapFields (·.setIfInBounds 3 ((none : Option Addr).elim Value.none fun f => rawInt f))) := ⟨_, rfl⟩
  rw [← e2]
  have o2 : ∀ b, b ≠ T → h'.get? b = s.heap.get? b := fun b z => by rw [e2]; exact Heap.get?_update_other _ _ (Ne.symm z)
  have d4 := Obj.data_mapFields t2 (·.setIfInBounds 3 ((none : Option Addr).elim Value.none fun f => rawInt f))
  have tT : h'.get? T = some (oT.mapFields (·.setIfInBounds 3 ((none : Option Addr).elim Value.none fun f => rawInt f))) := by
    rw [e2]; exact Heap.get?_update_self _ t1 (Obj.isFreed_of_fields d4)
  have I' : Inv X pins σ H { s with heap := h', toks := s.toks } := Inv.turned (t' := s.toks) I (fun b o z q => (o2 b z).trans q) hn hL (.inr h1) h2 h3
  refine h _ I' ⟨⟨vs, sl, (o2 a (Ne.symm Ta)).trans ea, e1⟩, ?_, hne, fun T' z => ?_⟩
  · obtain ⟨o, es, ep, r1, r2⟩ := hdic
    exact ⟨o, es, ep, (o2 dx (Ne.symm Td)).trans r1, r2⟩
  · cases z
    refine ⟨Ta, Td, _, _, tT, d4, ?_⟩
    have := (Array.getElem?_eq_some_iff.mp t3).1
    simp [this]
end
end XC
namespace XC
open PySem PySem.Spec PyProof.Rows L2 My
section
variable {X : Cx} {pins : List (Addr × Obj)} {σ : L2.St} {H : Hp} {s : Shared} {a C I0 dx T D : Addr} {cn f ic n : Str} {u : Value} {i : Nat} {b0 : Stmt} {suite : List Stmt} {np hpos : Pos}
theorem name_goes {M : Model} {A : Around} {E : Value → Shared → Prop} {Q : Unit → Shared → Prop} (I : Inv X pins σ H s) (hl : X.env.scope.names.lookup n = some .local)
    (h : ∀ s', Inv X pins (List.replicate σ.length none) H s' → Q () s') : wpAny M A (do bindName X.env n .none; unbindBehindTheSuite X.env n hpos) Q E s := by
  obtain ⟨m, hn, _⟩ := id I.loc
  have cls : (X.env.scope.kind == .class || (X.env.scope.kind == .module && X.env.locals != X.env.globals)) = false := by rw [I.ok.kind]; rfl
  refine wpAny_nameGoes hl hn cls fun h' m' hn' hs => h _ ?_
  have neL : ∀ b o, X.s₀.heap.get? b = some o → b ≠ X.env.locals := fun b o e z => by
    rw [z] at e
    exact absurd (Heap.lt_size e) (Nat.not_lt.mpr I.ok.above)
  refine ⟨I.ok, I.os, I.bare, ⟨fun b o e z1 z2 z3 => (hs.2 b (neL b o e)).trans (I.base.keep b o e z1 z2 z3), fun b o e z1 z2 z3 => ?_, I.base.free, fun b o e z1 => ?_, I.base.tups, I.base.frzs, I.base.tbls⟩, ⟨m', hn', fun j y v e1 e2 _ => ?_⟩, fun y c e => ?_, I.free, I.freeC, fun p hp => ?_, fun b ob e => ?_, by rw [List.length_replicate]; exact I.len⟩
  · obtain ⟨sl, w⟩ := I.base.slot b o e z1 z2 z3
    exact ⟨sl, (hs.2 b (neL b o e)).trans w⟩
  · obtain ⟨o', w⟩ := I.base.there b o e z1
    exact ⟨o', (hs.2 b (neL b o e)).trans w⟩
  · rw [List.getElem?_replicate] at e2
    split at e2 <;> cases e2
  · obtain ⟨w, z⟩ := I.cell y c e
    exact ⟨w, z.sameBut hs (I.cne y c e)⟩
  · obtain ⟨e, z1, z2, z3, z4⟩ := I.pin p hp
    exact ⟨(hs.2 p.1 z2).trans e, z1, z2, z3, z4⟩
  · refine (I.hok b ob e).stay (fun c w hc q => (hs.2 c fun z => ?_).trans q) (fun _ q => q) fun _ _ q => q
    rcases hc with y | y
    · rw [← y, z, I.free] at e; cases e
    · rw [z, I.free] at y; cases y
end
end XC
namespace XC
open PySem PySem.Spec PyProof.Rows L2 My
def XP (fld : Addr → Str) (X : Cx) (pins : List (Addr × Obj)) (σ : L2.St) (EX : XK) (e : Value) (s' : Shared) : Prop := ∃ (a C dx T : Addr) (u : Value) (H' : Hp), e = .ref a ∧ Inv X pins σ H' s' ∧ Fly s'.heap a C dx (fld C) u (some T) ∧ Loose X pins H' a ∧ Loose X pins H' dx ∧ Loose X pins H' T ∧ EX u (some C) H'
section
variable {X : Cx} {pins : List (Addr × Obj)} {σ : L2.St} {H : Hp} {s : Shared} {fld : Addr → Str} {k : Nat} {f : Addr} {fd : FuncData} {ps : List Str} {sp : Sp} {dvs : List V} {ds : List Value} {EX : XK}
theorem run_fnE {Q : VK} {us : List Value} {vs : List V} (F : FnOk X.prog X.w X.K X.mg X.base (CXE X.prog X.w fld) k f fd ps sp) (hr : Room k X.A) (hb : Binds X.K fd ps ds) (hd : Vals dvs ds) (J : Inv X pins σ H s) (r : Vals vs us) (h : sp (vs ++ dvs) H Q EX) :
    wpAny (model X.prog X.w) X.A (PySem.call (.ref f) us) (EP X pins σ Q) (XP fld X pins σ EX) s := by
  have rr2 := r.append hd
  have hl : (us ++ ds).length = ps.length := by
    rw [← rr2.length]
    exact F.len _ _ _ _ h
  refine wpAny_call (codeAny_mono (F.run X.A X.stack s H ⟨us, []⟩ (us ++ ds) (vs ++ dvs) Q EX hr J.env0 (hb s us J.kIn hl) rr2 h) fun rr s' q => ?_)
  cases rr with
  | error e =>
    obtain ⟨a, C, dx, T, u, H', rfl, os, bare, un, hok, Fl, ha, hdx, hT, na, nd, nT, q⟩ := q
    exact ⟨a, C, dx, T, u, H', rfl, Inv.call' (ch := []) J os un hok bare (fun b z => absurd z (by simp)), Fl, Loose.of J ha na, Loose.of J hdx nd, Loose.of J hT nT, q⟩
  | ok fl =>
    cases fl with
    | ret u => exact J.after q
    | next => exact q.elim
    | brk => exact q.elim
    | cont => exact q.elim
def PSE (fld : Addr → Str) (X : Cx) (st : Stmt) (t : Ends → XK → L2.St → Hp → Prop) : Prop :=
  ∀ (pins : List (Addr × Obj)) (s : Shared) (σ : L2.St) (H : Hp) (D : Ends) (EX : XK), Inv X pins σ H s → t D EX σ H → wpAny (model X.prog X.w) X.A (exec st X.env) (SP X pins D) (XP fld X pins σ EX) s
section
variable {x : Str} {p pos pos2 : Pos} {e : Expr} {es : List Expr} {ta : TA}
end
end
end XC
namespace XC
open PySem PySem.Spec PyProof.Rows L2 My D3
def EndX (K : PySem.W.Frag) (mg : Str → Option Value) (fl : List Fl) (G : Gh) (Dn : Ends) (E : XK) : Or → Prop
  | .o x => EndD K fl G Dn x
  | .ex c d => ∀ (C : Addr) (v : V) (u : Value) (H' : Hp), mg c = some (.ref C) → Same G.H0 H' → RA K ok1 true H' v d → RelV v u → E u (some C) H'
def tDX (K : PySem.W.Frag) (mg : Str → Option Value) (fl : List Fl) (E : XK) (f : FX) : TS := fun Dn σ H => ∃ G ow δ o, Rel K fl G ow σ H δ ∧ f δ = some o ∧ EndX K mg fl G Dn E o
abbrev DX1 (X : Cx) (E : XK) (fl : List Fl) (s : Stmt) (f : FX) : Prop := PS X s (tDX X.K X.mg fl E f)
abbrev DXs (X : Cx) (E : XK) (fl : List Fl) (s : List Stmt) (f : FX) : Prop := PSs X s (tDX X.K X.mg fl E f)
section
variable {X : Cx} {E : XK} {fl : List Fl} {c : Expr} {st : Stmt} {sts body orelse : List Stmt} {fs : FS} {f g : FX} {ft : FT} {pos : Pos}
theorem PS.nox {t : TS} (h : PS X.nox st t) : PS X st t := fun pins s σ H D I hw => by
  refine wpAny_mono (h pins s σ H D (I.wish _) hw) (fun fl s' q => ?_) fun _ _ z => z.elim
  cases fl with
  | next => obtain ⟨σ', H', J, q⟩ := q; exact ⟨σ', H', J.wish _, q⟩
  | ret u => obtain ⟨v, σ', H', J, r, q⟩ := q; exact ⟨v, σ', H', J.wish _, r, q⟩
  | brk => obtain ⟨σ', H', J, q⟩ := q; exact ⟨σ', H', J.wish _, q⟩
  | cont => obtain ⟨σ', H', J, q⟩ := q; exact ⟨σ', H', J.wish _, q⟩
theorem dx_of (h : DS1 X.nox fl st fs) : DX1 X E fl st (xOf fs) := PS.imp (PS.nox h) fun Dn σ H h => by
  obtain ⟨G, ow, δ, o, R, hf, q⟩ := h
  obtain ⟨o1, e1, e2⟩ := bind1 hf
  cases e2
  exact ⟨G, ow, δ, o1, R, e1, q⟩
theorem dxs_of (h : DSs X.nox fl sts fs) : DXs X E fl sts (xOf fs) := PSs.imp (PSs.nox h) fun Dn σ H h => by
  obtain ⟨G, ow, δ, o, R, hf, q⟩ := h
  obtain ⟨o1, e1, e2⟩ := bind1 hf
  cases e2
  exact ⟨G, ow, δ, o1, R, e1, q⟩
theorem dxs_cons (h1 : DX1 X E fl st f) (h2 : DXs X E fl sts g) : DXs X E fl (st :: sts) (xSeq f g) := PSs.imp (pss_cons h1 h2) fun Dn σ H h => by
  obtain ⟨G, ow, δ, o, R, hf, q⟩ := h
  obtain ⟨o1, e1, e2⟩ := bind1 hf
  refine ⟨G, ow, δ, o1, R, e1, ?_⟩
  cases o1 with
  | ex c d => cases e2; exact q
  | o o1 =>
    cases o1 with
    | nx δ' => exact fun ow' σ' H' R' => ⟨G, ow', δ', o, R', e2, q⟩
    | rt d => cases e2; exact EndD.nx_imp (fl := fl) (o := .rt d) q (fun _ z => by cases z)
    | bk d => cases e2; exact EndD.nx_imp (fl := fl) (o := .bk d) q (fun _ z => by cases z)
    | ct d => cases e2; exact EndD.nx_imp (fl := fl) (o := .ct d) q (fun _ z => by cases z)
    | ex c f v => cases e2; exact q
theorem dxs_one (h1 : DX1 X E fl st f) : DXs X E fl [st] f := PSs.imp (pss_one h1) fun _ _ _ h => h
theorem dx_if (hc : DT X.nox fl c ft) (h1 : DXs X E fl body f) (h2 : DXs X E fl orelse g) : DX1 X E fl (.If c body orelse pos) (xIf ft f g) := PS.imp (ps_if (PT.nox hc) h1 h2) fun Dn σ H h => by
  obtain ⟨G, ow, δ, o, R, hf, q⟩ := h
  obtain ⟨t, e1, e2⟩ := bind1 hf
  refine ⟨G, ow, δ, t, R, e1, fun H' s => ?_⟩
  cases t with
  | true => exact iteT ⟨G, ow, δ, o, R.grow s, e2, q⟩
  | false => exact iteF ⟨G, ow, δ, o, R.grow s, e2, q⟩
end
structure ExcF (K : PySem.W.Frag) (mg : Str → Option Value) (fld : Addr → Str) (cn f : Str) : Prop where
  ex : ∃ C I, Exc K mg cn f C I ∧ fld C = f
section
variable {P : Program} {w : World} {K : PySem.W.Frag} {mg : Str → Option Value} {base : Heap} {N : List Str} {qual : Str} {scope : Scope} {fa : Addr} {cdv : Value} {A : Around} {outer : List Env} {s₀ : Shared} {H₀ : Hp} {E : XK} {fld : Addr → Str}
variable {fl : List Fl} {cn f : Str} {arg : Expr} {fe : FE} {p pos rpos : Pos} {k : Nat}
theorem dx_raise (Ex : ExcF K mg fld cn f) (hr : Room (k + 2) (A.deeper (envOfC qual scope s₀.heap.objs.size fa cdv)))
    (ha : DE (cxOf (CXE P w fld) P w K mg base N qual scope fa cdv A outer s₀ H₀ E).nox fl .P arg fe) (hg : Gl (cxOf (CXE P w fld) P w K mg base N qual scope fa cdv A outer s₀ H₀ E) cn := by rfl) (hdb : (cn == ("__debug__" : Str)) = false := by decide)
    (he : starEach [arg] (cxOf (CXE P w fld) P w K mg base N qual scope fa cdv A outer s₀ H₀ E).env = (false, eval arg (cxOf (CXE P w fld) P w K mg base N qual scope fa cdv A outer s₀ H₀ E).env) :: starEach [] (cxOf (CXE P w fld) P w K mg base N qual scope fa cdv A outer s₀ H₀ E).env := by exact star_of rfl)
    (hpl : (backTo pos (starEach [] (cxOf (CXE P w fld) P w K mg base N qual scope fa cdv A outer s₀ H₀ E).env)).any (·.1) = false := by exact pl_of rfl) :
    DX1 (cxOf (CXE P w fld) P w K mg base N qual scope fa cdv A outer s₀ H₀ E) E fl (.Raise (some (.Call (.Name cn p) [arg] [] pos)) none rpos) (xRaise cn fe) := by
  intro pins s σ H Dn J h
  obtain ⟨C, I0, Ex, hC⟩ := Ex.ex
  obtain ⟨G, ow, δ, o, R, hf, q⟩ := h
  obtain ⟨d, e1, e2⟩ := bind1 hf
  cases e2
  refine raise_at (R := fun v H1 => Same H H1 ∧ RA K ok1 true H1 v d) Ex hr hg hdb (PE.nox ha) J ⟨G, ow, δ, d, R, e1, fun v H' s r => ⟨s, r⟩⟩ (fun v H1 a dx u s' r rv J' Fl La Ld => ?_) he hpl
  rw [← hC] at Fl
  exact xe_of J' Fl La Ld (fun T z => by cases z) (q C v u H1 Ex.mgC (R.same0.trans r.1) r.2 rv)
end
def spX (K : PySem.W.Frag) (mg : Str → Option Value) (F : List D → Option Or) : Sp := fun vs H Q E => ∃ ds o, (Tb H ∧ RAs K ok1 true H vs ds) ∧ F ds = some o ∧ match o with
  | .o (.rt d) => ∀ v H', Same H H' → RA K (okN H) false H' v d → Q v H'
  | .o (.ex _ _ d) => ∀ v H', Same H H' → RA K ok1 true H' v d → Q v H'
  | .ex c d => ∀ (C : Addr) (v : V) (u : Value) (H' : Hp), mg c = some (.ref C) → Same H H' → RA K ok1 true H' v d → RelV v u → E u (some C) H'
  | _ => False
structure HasX (P : Program) (w : World) (K : PySem.W.Frag) (mg : Str → Option Value) (base : Heap) (fld : Addr → Str) (n : Nat) (x : Str) (ps : List Str) (sp : Sp) (dvs : List V) : Prop where
  ex : ∃ (f : Addr) (fd : FuncData) (ds : List Value), FnOk P w K mg base (CXE P w fld) n f fd ps sp ∧ Binds K fd ps ds ∧ Vals dvs ds ∧ PySem.W.keepIn K (.ref f) = true ∧ mg x = some (.ref f)
section
variable {P : Program} {w : World} {K : PySem.W.Frag} {mg : Str → Option Value} {base : Heap} {fld : Addr → Str} {x : Str} {ps N ks : List Str} {st : Stmt} {k n : Nat} {f : FX} {fl : List Fl} {dvs : List V} {sp : Sp}
theorem HasX.mono (h : HasX P w K mg base fld k x ps sp dvs) (l : k ≤ n) : HasX P w K mg base fld n x ps sp dvs := by
  obtain ⟨f, fd, ds, F, b, v, kp, m⟩ := h.ex
  exact ⟨f, fd, ds, F.mono l, b, v, kp, m⟩
theorem funX_ok {fa : Addr} {fd : FuncData} (Fn : FunD K x st fa fd) (S : FnScope N ps (defScope st)) (hp : ∀ i, i < ps.length → fl[i]? = some .A) (hN : ps.length ≤ N.length)
    (hbody : ∀ (fa : Addr) (cdv : Value) (A : Around) (outer : List Env) (s : Shared) (H : Hp) (E : XK), Room k (A.deeper (envOfC x (defScope st) s.heap.objs.size fa cdv)) → DXs (cxOf (CXE P w fld) P w K mg base N x (defScope st) fa cdv A outer s H E) E fl (defBody st) f) :
    FnOk P w K mg base (CXE P w fld) (k + 1) fa fd ps (spX K mg (fnX ps.length (N.length - ps.length) f)) := by
  obtain ⟨oc, od, dV, kV, doc, pm, an, cdv, ct, osl, rfl, lk, hcd⟩ := Fn.ex
  have hlen : ∀ vs H Q E, spX K mg (fnX ps.length (N.length - ps.length) f) vs H Q E → vs.length = ps.length := fun vs H Q E h => by
    obtain ⟨ds, o, r, hf, _⟩ := h
    unfold fnX at hf
    by_cases z : ds.length = ps.length
    · rw [r.2.length]; exact z
    · rw [if_neg z] at hf; cases hf
  refine fn_of lk hcd S hlen fun A outer s H vs Q E hr h => ?_
  obtain ⟨ds, o, r, hf, q⟩ := h
  refine ⟨_, hbody fa cdv A outer s H E hr, ?_⟩
  unfold fnX at hf
  by_cases z : ds.length = ps.length
  · rw [if_pos z] at hf
    split at hf
    · next d' e =>
      cases hf
      exact ⟨_, _, _, _, rel_start ps.length hp z hN r, e, fun v H' s r => q v H' s r⟩
    · next δ' e =>
      cases hf
      exact ⟨_, _, _, _, rel_start ps.length hp z hN r, e, fun ow' σ' H' R' => q .non H' R'.same0 .non⟩
    · next c f d e =>
      cases hf
      exact ⟨_, _, _, _, rel_start ps.length hp z hN r, e, fun v H' s r => q v H' s r⟩
    · next c d e =>
      cases hf
      exact ⟨_, _, _, _, rel_start ps.length hp z hN r, e, fun C v u H' m s r rv => q C v u H' m s r rv⟩
    · cases hf
  · rw [if_neg z] at hf; cases hf
theorem dgX_ok (Dd : Dg K mg x st ps) (S : FnScope N ps (defScope st)) (hp : ∀ i, i < ps.length → fl[i]? = some .A) (hN : ps.length ≤ N.length)
    (hbody : ∀ (fa : Addr) (cdv : Value) (A : Around) (outer : List Env) (s : Shared) (H : Hp) (E : XK), Room k (A.deeper (envOfC x (defScope st) s.heap.objs.size fa cdv)) → DXs (cxOf (CXE P w fld) P w K mg base N x (defScope st) fa cdv A outer s H E) E fl (defBody st) f) :
    HasX P w K mg base fld (k + 1) x ps (spX K mg (fnX ps.length (N.length - ps.length) f)) [] := by
  obtain ⟨f, fd, Fn, b, m⟩ := Dd.ex
  exact ⟨f, fd, [], funX_ok Fn S hp hN hbody, b, .nil, Fn.kp, m⟩
end
end XC
namespace XC
open PySem PySem.Spec PyProof.Rows L2 My D3
section
variable {X : Cx} {a C I0 dx D : Addr} {cn f ic n : Str} {oa od : Obj} {i : Nat} {cond a1 b1 : Expr} {rest : List Expr} {p p1 p2 pos np hpos rpos : Pos}
def tE (i : Nat) (a : Addr) : TE := fun σ H Q => σ[i]? = some (some (.ref a)) ∧ Q (.bl true) H
abbrev IsE (S : Cx) (i : Nat) (a : Addr) (cond : Expr) : Prop := PE S cond (tE i a)
theorem call_isb {T0 : String} (Ex : Exc X.K X.mg cn f C I0) (hty : typeOf (.type T0) = pure (.type "type")) (hb : bmV.contains (.type T0) = true) (hoa : oa.cls = .ref C) : CallR (suiteCx X a oa dx od) (.builtin "isinstance") (fun xs H Q => xs = [.ref a, .ty T0] ∧ Q (.bl true) H) := by
  intro pins s σ H xs us Q I r h
  obtain ⟨rfl, q⟩ := h
  obtain ⟨u1, u2, rfl, r1, r2⟩ : ∃ u1 u2, us = [u1, u2] ∧ RelV (.ref a) u1 ∧ RelV (.ty T0) u2 := by
    cases r with
    | cons r1 r => cases r with
      | cons r2 r => cases r; exact ⟨_, _, rfl, r1, r2⟩
  cases r1; cases r2
  obtain ⟨mgC, kp, hB, N, fI, mN, mI, TK, _⟩ := Ex
  have T := TK _ I.kIn
  have ha := (I.pin (a, oa) (List.mem_append_left _ (List.mem_append_right _ List.mem_cons_self))).1
  obtain ⟨hp, g, d, tk, os⟩ := s
  have hq : EP (suiteCx X a oa dx od) pins σ Q (.bool true) ⟨hp, g, d, tk, os⟩ := ⟨.bl true, H, I, rfl, q⟩
  refine T.isi_blt ha hoa hty ?_ hq
  rw [List.contains_cons, List.contains_cons, hb]
  simp
theorem ise_blt {T0 : String} (Ex : Exc X.K X.mg cn f C I0) (hty : typeOf (.type T0) = pure (.type "type")) (hb : bmV.contains (.type T0) = true) (hoa : oa.cls = .ref C) (hic : X.mg ic = none) (hbo : bootBuiltins ic = some (.type T0)) (hgi : Gl X "isinstance") (hmi : X.mg "isinstance" = none) (hg : Gl X ic) (hi : X.N[i]? = some n) (hv : Vis X.env.scope n)
    (hnn : ic ≠ "__name__" := by decide) (hdb : (ic == ("__debug__" : Str)) = false := by decide) (hdn : (n == ("__debug__" : Str)) = false := by decide) (hcn : (n == ("__classdict__" : Str)) = false := by decide) :
    IsE (suiteCx X a oa dx od) i a (.Call (.Name "isinstance" p) [.Name n p1, .Name ic p2] [] pos) :=
  PE.imp (pe_callB (X := suiteCx X a oa dx od) (call_isb Ex hty hb hoa) hgi hmi boot_isinstance (pa_cons (pe_var (X := suiteCx X a oa dx od) hi hv hdn hcn) (pa_cons (pe_bltn (X := suiteCx X a oa dx od) (v := .ty T0) hg hic hbo rfl hnn hdb) pa_nil (by exact star_of rfl)) (by exact star_of rfl)) (by decide) (by decide) (by exact star_of rfl) (by exact pl_of rfl)) fun σ H Q h => by
    exact ⟨_, h.1, rfl, h.2⟩
end
end XC
namespace XC
open PySem PySem.Spec PyProof.Rows L2 My D3
section
variable {X : Cx} {fl : List Fl} {fld : Addr → Str} {n i : Nat} {x ic en : Str} {ps cs : List Str} {F : List D → Option Or} {dvs : List V} {dd : List D} {e cond : Expr} {es : List Expr} {fa : FA} {p pos pos2 np rpos hpos tpos : Pos}
end
end XC
namespace XC
open PySem PySem.Spec PyProof.Rows L2 My D3
def strK (es : Array DictEntry) : Bool := es.toList.all fun e => match e.key with | .str _ _ => true | _ => false
theorem strK_of {es : Array DictEntry} (h : strK es = true) : StrKeys es := fun e he => by
  have := List.all_eq_true.mp h e (Array.mem_toList_iff.mpr he)
  cases q : e.key with
  | str n t => exact ⟨n, t, rfl⟩
  | _ => rw [q] at this; cases this
theorem ns_at {K : PySem.W.Frag} {N : Addr} {c : Value} {d : Option Addr} {es : Array DictEntry} {n : Nat} {sl : Array (Option Value)} (l : K.lookup N = some ⟨c, d, .dict es n, sl⟩) (ok : strK es = true) (h : Heap) (X : K.In h) : h.Ns N (nsFind es) :=
  ⟨_, es, n, X _ _ l, rfl, strK_of ok, fun _ => rfl⟩
theorem ns_find {K : PySem.W.Frag} {N : Addr} {c : Value} {d : Option Addr} {es : Array DictEntry} {n : Nat} {sl : Array (Option Value)} {x : Str} {r : Option Value} (l : K.lookup N = some ⟨c, d, .dict es n, sl⟩) (e : PySem.W.nsIn K N x = some r) : nsFind es x = r := by
  unfold PySem.W.nsIn at e
  rw [l] at e
  dsimp only at e
  unfold nsFind findBy
  rw [← Array.find?_toList]
  split at e
  · next en he =>
    cases e
    rw [he]; rfl
  · next he =>
    rw [he]
    split at e
    · cases e
    · cases e; rfl
theorem exc_mk {K : PySem.W.Frag} {h : Heap} {mg : Str → Option Value} {cn f : Str} {C I N NI fI : Addr} (X : K.In h) (G : h.Ns mainGlobals mg)
    {nm q : Str} {bs : List Value} {sn : List Str} {sub : List Value} {ab : Bool} {col : Option Bool} {dd : Option Addr} {k0 k1 k2 k3 k5 : Option Value}
    {nm' q' : Str} {bs' : List Value} {sn' : List Str} {sub' : List Value} {ab' : Bool} {col' : Option Bool} {dd' : Option Addr} {j0 j1 j2 j3 j5 : Option Value} {nid : String}
    {c c' : Value} {d d' : Option Addr} {es es' : Array DictEntry} {n n' : Nat} {sl sl' : Array (Option Value)}
    {name qual : Str} {params : Arguments} {scope : Scope} {dV kV doc pm cdv ct : Value} {an od : Option Addr} {osl : Array (Option Value)} {p1 p2 p3 p4 : Pos}
    (a : PySem.W.nsIn K mainGlobals cn = some (some (.ref C))) (kp : PySem.W.keepIn K (.ref C) = true)
    (lC : K.lookup C = some (excClassObj nm q C N bs (.ref I :: bmV) true sn sub ab col dd k0 k1 k2 k3 k5 "ValueError.__new__"))
    (lI : K.lookup I = some (excClassObj nm' q' I NI bs' bmV true sn' sub' ab' col' dd' j0 j1 j2 j3 j5 nid))
    (lN : K.lookup N = some ⟨c, d, .dict es n, sl⟩) (oN : strK es = true) (lNI : K.lookup NI = some ⟨c', d', .dict es' n', sl'⟩) (oNI : strK es' = true)
    (i1 : PySem.W.nsIn K N "__init__" = some (some (.ref fI))) (i2 : PySem.W.nsIn K NI "__init__" = some none) (s1 : PySem.W.nsIn K N "__setattr__" = some none) (s2 : PySem.W.nsIn K NI "__setattr__" = some none)
    (n1 : PySem.W.nsIn K N f = some none) (n2 : PySem.W.nsIn K NI f = some none) (hB : typeLookup (.type "ValueError") f = pure none)
    (lk : K.lookup fI = some ⟨.type "function", od, .func (PySem.W.fnOf name qual params [.Assign [.Attribute (.Name "self" p1) f p2] (.Name f p3) p4] scope dV kV doc pm an cdv ct), osl⟩) (hcd : PySem.W.codeIn K cdv qual = true)
    (S : FnScope ["self", f] ["self", f] scope) (l1 : scope.names.lookup ("self" : Str) = some NameKind.local) (l2 : scope.names.lookup f = some NameKind.local)
    (hb : ∀ u v, bindArgs (PySem.W.fnOf name qual params [.Assign [.Attribute (.Name "self" p1) f p2] (.Name f p3) p4] scope dV kV doc pm an cdv ct) ⟨[u, v], []⟩ = pure [(("self" : Str), u), (f, v)])
    (ne : ("self" : Str) ≠ f) (nd : (f == ("__debug__" : Str)) = false) (nc : (f == ("__classdict__" : Str)) = false) : Exc K mg cn f C I :=
  ⟨PySem.W.mg_of X G a, kp, hB, N, fI, nsFind es, nsFind es', fun h X => ⟨⟨_, _, _, _, _, _, _, _, _, _, _, _, _, X _ _ lC⟩, ns_at lN oN h X, ⟨_, _, _, _, _, _, _, _, _, _, _, _, _, _, _, X _ _ lI, ns_at lNI oNI h X⟩, by rfl⟩, ns_find lN i1, ns_find lNI i2, ns_find lN s1, ns_find lNI s2, ns_find lN n1, ns_find lNI n2,
    ⟨⟨name, qual, params, scope, dV, kV, doc, pm, cdv, ct, an, od, osl, p1, p2, p3, p4, lk, hcd, S, l1, l2, .all fun us hl => match us, hl with | [u, v], _ => hb u v⟩, ne, nd, nc⟩⟩
end XC
namespace XC
open PySem PySem.Spec PyProof.Rows L2 My D3
structure ExcG (K : PySem.W.Frag) (mg : Str → Option Value) (fld : Addr → Str) (cn f ic : Str) : Prop where
  ex : ∃ C I, Exc K mg cn f C I ∧ fld C = f ∧ mg ic = some (.ref I)
theorem ExcG.fly {K : PySem.W.Frag} {mg : Str → Option Value} {fld : Addr → Str} {cn f ic : Str} (h : ExcG K mg fld cn f ic) : ExcF K mg fld cn f := by
  obtain ⟨C, I, E, hf, _⟩ := h.ex
  exact ⟨C, I, E, hf⟩
section
variable {X : Cx} {fld : Addr → Str} {c f ic : Str} {i : Nat} {cond : Expr}
end
end XC
namespace XC
open PySem PySem.Spec PyProof.Rows L2 My
structure FlyN (h : Heap) (a C dx : Addr) (f : Str) (u : Value) (T L : Addr) : Prop where
  obj : ∃ vs sl, h.get? a = some ⟨.ref C, some dx, .fields vs, sl⟩ ∧ vs[1]? = some (.ref T)
  dic : h.Ns1 dx (fun y => if y = f then some u else none)
  ne : dx ≠ a
  hd : T ≠ a ∧ T ≠ dx ∧ ∃ oT ts, h.get? T = some oT ∧ oT.data = .fields ts ∧ ts[3]? = some (rawInt L)
section
variable {M : Model} {A : Around} {E : Value → Shared → Prop} {s : Shared}
end
end XC
namespace XC
open PySem PySem.Spec PyProof.Rows L2 My
section
variable {X : Cx} {pins : List (Addr × Obj)} {σ : L2.St} {H H' : Hp} {s : Shared}
theorem flight_again {M : Model} {A : Around} {E : Value → Shared → Prop} {Q : Unit → Shared → Prop} {a C dx T L : Addr} {f : Str} {u : Value} (fo : Option Addr) (I : Inv X pins σ H s) (F : FlyN s.heap a C dx f u T L) (LT : Loose X pins H T)
    (h : ∀ s', Inv X pins σ H s' → (∃ vs sl, s'.heap.get? a = some ⟨.ref C, some dx, .fields vs, sl⟩ ∧ vs[1]? = some (.ref T)) → s'.heap.Ns1 dx (fun y => if y = f then some u else none) → dx ≠ a →
      (T ≠ a ∧ T ≠ dx ∧ ∃ oT ts, s'.heap.get? T = some oT ∧ oT.data = .fields ts ∧ ts[3]? = some (fo.elim Value.none fun f => rawInt f)) → Q () s') : wpAny M A (setFlight (.ref a) fo) Q E s := by
  obtain ⟨⟨vs, sl, ea, e1⟩, hdic, hne, Ta, Td, oT, ts, t1, t2, t3⟩ := F
  unfold setFlight
  refine wpAny_bind (wpAny_field ea rfl e1 ?_)
  rw [if_pos (show ((Value.ref T) != Value.none) = true by simp)]
  refine wpAny_setField t1 t2 (Array.getElem?_eq_some_iff.mp t3).1 ?_
  obtain ⟨h', e2⟩ : ∃ h', h' = s.heap.update T (Obj.mapFields (·.setIfInBounds 3 (fo.elim Value.none fun f => rawInt f))) := ⟨_, rfl⟩
  rw [← e2]
  have o2 : ∀ b, b ≠ T → h'.get? b = s.heap.get? b := fun b z => by rw [e2]; exact Heap.get?_update_other _ _ (Ne.symm z)
  have d4 := Obj.data_mapFields t2 (·.setIfInBounds 3 (fo.elim Value.none fun f => rawInt f))
  have tT : h'.get? T = some (oT.mapFields (·.setIfInBounds 3 (fo.elim Value.none fun f => rawInt f))) := by
    rw [e2]; exact Heap.get?_update_self _ t1 (Obj.isFreed_of_fields d4)
  have I' : Inv X pins σ H { s with heap := h', toks := s.toks } := Inv.turned (t' := s.toks) I (fun b o z q => (o2 b z).trans q) LT.out LT.loc (.inr LT.new) LT.cel LT.pin
  refine h _ I' ⟨vs, sl, (o2 a (Ne.symm Ta)).trans ea, e1⟩ ?_ hne ⟨Ta, Td, _, _, tT, d4, ?_⟩
  · obtain ⟨o, es, ep, r1, r2⟩ := hdic
    exact ⟨o, es, ep, (o2 dx (Ne.symm Td)).trans r1, r2⟩
  · have := (Array.getElem?_eq_some_iff.mp t3).1
    simp [this]
theorem note_again {M : Model} {A : Around} {E : Value → Shared → Prop} {Q : Unit → Shared → Prop} {a C dx T : Addr} {f : Str} {u : Value} (hfr : X.env.frame = some X.env.locals) (F : FlyN s.heap a C dx f u T X.env.locals) (h : Q () s) : wpAny M A (noteFrame (.ref a) X.env) Q E s := by
  obtain ⟨⟨vs, sl, ea, e1⟩, hdic, hne, Ta, Td, oT, ts, t1, t2, t3⟩ := F
  unfold noteFrame
  simp only [hfr]
  refine wpAny_bind (wpAny_field ea rfl e1 ?_)
  rw [if_pos (show ((Value.ref T) != Value.none) = true by simp)]
  refine wpAny_bind (wpAny_field t1 t2 t3 ?_)
  rw [if_pos (show (rawInt X.env.locals == rawInt X.env.locals) = true by simp)]
  exact wpAny_pure h
def XPX (X : Cx) (fld : Addr → Str) (E : XK) : Value → Shared → Prop := fun e s => ∃ pins σ H a C dx u, e = .ref a ∧ Inv X pins σ H s ∧ Loose X pins H a ∧ Loose X pins H dx ∧ E u (some C) H ∧
  ((∃ tb, Fly s.heap a C dx (fld C) u tb ∧ ∀ T, tb = some T → Loose X pins H T) ∨ ∃ T, FlyN s.heap a C dx (fld C) u T X.env.locals ∧ Loose X pins H T)
end
section
variable {P : Program} {w : World} {K : PySem.W.Frag} {mg : Str → Option Value} {base : Heap} {N : List Str} {qual : Str} {scope : Scope} {fa : Addr} {cdv : Value} {A : Around} {outer : List Env} {s₀ : Shared} {H₀ : Hp} {E : XK} {fld : Addr → Str}
theorem xe_ofX {e : Value} {s : Shared} (h : XPX (cxOf (CXE P w fld) P w K mg base N qual scope fa cdv A outer s₀ H₀ E) fld E e s) : (cxOf (CXE P w fld) P w K mg base N qual scope fa cdv A outer s₀ H₀ E).xe e s := by
  obtain ⟨pins, σ, H, a, C, dx, u, rfl, I, La, Ld, q, F⟩ := h
  rcases F with ⟨tb, F, Lt⟩ | ⟨T, F, LT⟩
  · exact xe_of I F La Ld Lt q
  · show wpAny _ _ (leaving _ (.ref a)) _ _ s
    unfold leaving
    refine wpAny_bind (note_again (X := cxOf (CXE P w fld) P w K mg base N qual scope fa cdv A outer s₀ H₀ E) rfl F ?_)
    refine flight_again none I F LT fun s' I' o1 o2 o3 o4 => ?_
    exact ⟨a, C, dx, T, u, H, rfl, I'.os, I'.bare, I'.base, I'.hok, ⟨o1, o2, o3, fun T' z => by cases z; exact o4⟩, La.new, Ld.new, LT.new, La.out, Ld.out, LT.out, q⟩
end
end XC
namespace XC
open PySem PySem.Spec PyProof.Rows L2 My D3
section
variable {X : Cx} {E : XK} {fl : List Fl} {body : List Stmt} {fx : FX} {pos : Pos}
theorem PI.nox {tg iter : Expr} {t : TI} (h : PI X.nox tg iter t) : PI X tg iter t := fun pins s σ H R I hw =>
  wpAny_mono (h pins s σ H R (I.wish _) hw) (fun v s1 q => wpAny_mono q (fun itv s2 q => by
    obtain ⟨it, fp, tn, J, H', e, I', T, t0, fo, r⟩ := q
    exact ⟨it, fp, tn, J, H', e, I'.wish _, T, t0, fun b hb => fo b hb, r⟩) fun _ _ z => z.elim) fun _ _ z => z.elim
theorem PG.nox {tg : Expr} {t : TG} (h : PG X.nox tg t) : PG X tg t := fun pins s σ H v u Q I r hw =>
  wpAny_mono (h pins s σ H v u Q (I.wish _) r hw) (fun _ s' q => by
    obtain ⟨σ', H', I', q⟩ := q
    exact ⟨σ', H', I'.wish _, q⟩) fun _ _ z => z.elim
end
section
variable {P : Program} {w : World} {K : PySem.W.Frag} {mg : Str → Option Value} {base : Heap} {N : List Str} {qual : Str} {scope : Scope} {fa : Addr} {cdv : Value} {A : Around} {outer : List Env} {s₀ : Shared} {H₀ : Hp} {E : XK} {fld : Addr → Str}
variable {fl : List Fl} {cn f : Str} {arg : Expr} {fe : FE} {p pos rpos : Pos} {k : Nat}
end
section
variable {P : Program} {w : World} {K : PySem.W.Frag} {mg : Str → Option Value} {base : Heap} {fld : Addr → Str} {x : Str} {ps N ks : List Str} {st : Stmt} {k n : Nat} {f : FX} {fl : List Fl} {dvs : List V} {sp : Sp}
end
end XC
namespace XC
open PySem PySem.Spec PyProof.Rows L2 My D3
section
variable {P : Program} {w : World} {K : PySem.W.Frag} {mg : Str → Option Value} {base : Heap} {N : List Str} {qual : Str} {scope : Scope} {fa : Addr} {cdv : Value} {A : Around} {outer : List Env} {s₀ : Shared} {H₀ : Hp} {E : XK} {fld : Addr → Str}
variable {fl : List Fl} {n : Nat} {x : Str} {ps : List Str} {F : List D → Option Or} {dvs : List V} {dd : List D} {e : Expr} {es : List Expr} {fs : FA} {p pos pos2 : Pos}
end
end XC
namespace XC
open PySem PySem.Spec PyProof.Rows L2 My D3
section
variable {X : Cx} {pins : List (Addr × Obj)} {σ : L2.St} {H : Hp} {s : Shared} {fld : Addr → Str} {k : Nat} {f : Addr} {fd : FuncData} {ps : List Str} {sp : Sp} {dvs : List V} {ds : List Value} {EX : XK}
variable {x y : Str} {p np pos pos2 : Pos} {e : Expr} {es : List Expr} {ta : TA} {i : Nat}
theorem pse_asg (F : FnOk X.prog X.w X.K X.mg X.base (CXE X.prog X.w fld) k f fd ps sp) (hr : Room k X.A) (hg : Gl X x) (hm : X.mg x = some (.ref f)) (hk : PySem.W.keepIn X.K (.ref f) = true) (hb : Binds X.K fd ps ds) (hd : Vals dvs ds) (ha : PA X.nox (e :: es) ta)
    (hN : X.N.Nodup) (hi : X.N[i]? = some y) (hx : Loc X.env.scope y)
    (hdb : (x == ("__debug__" : Str)) = false := by decide) (he : starEach (e :: es) X.env = (false, eval e X.env) :: starEach es X.env := by rfl) (hpl : (backTo pos (starEach es X.env)).any (·.1) = false := by rfl) (hs : swapsWith (.Call (.Name x p) (e :: es) [] pos) (some (.Name y np)) pos2.line X.env = pure false := by rfl)
    (hf : X.fn y = true ∨ X.env.scope.names.lookup y = some .local := by first | exact .inl rfl | exact .inr rfl) :
    PSE fld X (.Assign [.Name y np] (.Call (.Name x p) (e :: es) [] pos) pos2) (fun D EX σ H => ta σ H fun vs H1 => sp (vs ++ dvs) H1 (fun v H2 => D.nx (σ.set i (some v)) H2) EX) := by
  intro pins s σ H D EX J h
  refine wpAny_Assign_Name ?_ hs
  refine wpAny_Call_Name_kw (ld_glob J hg hm ?_ hdb)
  refine PySem.W.callWith_K (h₀ := X.base) J.ok.mod.kin hk (wpAny_mono (ha pos pins s σ H _ (J.wish _) h) (fun us s1 q => ?_) fun _ _ z => z.elim) he hpl
  obtain ⟨vs, H1, J1, r, q⟩ := q
  have J1 : Inv X pins σ H1 s1 := J1.wish _
  refine ⟨J1.kIn, wpAny_mono (run_fnE F hr hb hd J1 r q) (fun u s2 w => ?_) fun _ _ z => z⟩
  obtain ⟨v, H2, J2, rv, q2⟩ := w
  exact store_ok J2 hN hi hx rv (fun s3 I3 => ⟨_, H2, I3, q2⟩) hf
end
end XC
namespace XC
open PySem PySem.Spec PyProof.Rows L2 My D3
section
variable {X : Cx} {fl : List Fl} {fld : Addr → Str} {n i j : Nat} {x y ic en : Str} {ps cs : List Str} {F : List D → Option Or} {dvs : List V} {dd : List D} {e : Expr} {es : List Expr} {fa : FA} {p yp pos pos2 np hpos tpos : Pos} {b0 : Stmt} {suite : List Stmt} {fS : Str → D → DS → Option D}
end
end XC
namespace XC
open PySem PySem.Spec PyProof.Rows L2 My D3
structure RoomQ (k : Nat) (A : Around) : Prop where
  dp : A.depth + 3 * k + 5 < recursionLimit
  un : A.units + 16 * k + 200 < cLine
theorem RoomQ.mono {j k : Nat} {A : Around} (r : RoomQ k A) (h : j ≤ k) : RoomQ j A := ⟨by have := r.dp; omega, by have := r.un; omega⟩
theorem RoomQ.deeper {k : Nat} {A : Around} (r : RoomQ (k + 1) A) (env : Env) : RoomQ k (A.deeper env) :=
  ⟨by have := r.dp; show A.depth + 1 + 3 * k + 5 < _; omega, by have := r.un; show A.units + 3 + 16 * k + 200 < _; omega⟩
theorem RoomQ.depth {k : Nat} {A : Around} (r : RoomQ k A) : A.depth < recursionLimit := by have := r.dp; omega
theorem RoomQ.units {k : Nat} {A : Around} (r : RoomQ k A) : A.units + 64 < cLine := by have := r.un; omega
structure FnOkP (P : Program) (w : World) (K : PySem.W.Frag) (mg : Str → Option Value) (base : Heap) (Pre : Around → List Env → Shared → Hp → Prop) (k : Nat) (f : Addr) (fd : FuncData) (ps : List Str) (sp : Sp) : Prop where
  len : ∀ vs H Q E, sp vs H Q E → vs.length = ps.length
  run : ∀ (A : Around) (outer : List Env) (s : Shared) (H : Hp) (args : Args) (us : List Value) (vs : List V) (Q : VK) (E : XK), RoomQ k A → Env0 P w K mg base A outer s H → BindsTo s fd args (ps.zip us) → Vals vs us → Pre A outer s H → sp vs H Q E →
    codeAny (model P w) A (.call (.ref f) args) (CR CX0 outer P w H s Q E) s
abbrev FnOkQ (P : Program) (w : World) (K : PySem.W.Frag) (mg : Str → Option Value) (base : Heap) (k : Nat) (f : Addr) (fd : FuncData) (ps : List Str) (sp : Sp) : Prop := FnOkP P w K mg base (fun _ _ _ _ => True) k f fd ps sp
section
variable {X : Cx} {pins : List (Addr × Obj)} {σ : L2.St} {H : Hp} {s : Shared} {k : Nat} {f : Addr} {fd : FuncData} {ps : List Str} {sp : Sp}
end
end XC
namespace XC
open PySem PySem.Spec PyProof.Rows L2 My D3
structure HasQ (P : Program) (w : World) (K : PySem.W.Frag) (mg : Str → Option Value) (base : Heap) (n : Nat) (x : Str) (ps : List Str) (sp : Sp) : Prop where
  ex : ∃ (f : Addr) (fd : FuncData), FnOkQ P w K mg base n f fd ps sp ∧ Binds K fd ps [] ∧ PySem.W.keepIn K (.ref f) = true ∧ mg x = some (.ref f)
section
variable {P : Program} {w : World} {K : PySem.W.Frag} {mg : Str → Option Value} {base : Heap} {x : Str} {ps N : List Str} {st : Stmt} {k n : Nat} {fs : FS} {fl : List Fl}
end
section
variable {X : Cx} {fl : List Fl} {e : Expr} {es : List Expr} {t : TA} {fa : FA} {pos p : Pos} {x : Str} {n : Nat} {ps : List Str} {sp : Sp} {F : List D → Option D}
end
end XC
namespace XC
open PySem PySem.Spec PyProof.Rows L2 My D3
structure ExA (K : PySem.W.Frag) (C : Addr) : Prop where
  ga : PySem.W.findIn K (.ref C) "__getattribute__" = some (some (.builtin "BaseException.__getattribute__"))
  gh : PySem.W.findIn K (.ref C) "__getattr__" = some none
  hb : PySem.W.mroIn K C (.type "BaseException") = some true
section
variable {prog : Program} {w : World} {A : Around} {E : Value → Shared → Prop} {s : Shared} {K : PySem.W.Frag} {x C : Addr} {ox : Obj} {od : Option Obj} {name : Str} {v : Value}
theorem exa_check {M : Model} {nameV : Value} {Q : Unit → Shared → Prop} (N : ExA K C) (X : K.In s.heap) (I : PySem.W.InstAt s.heap x ox C od) (hq : Q () s) : wpAny M A (checkBuiltinCall "BaseException.__getattribute__" ⟨[.ref x, nameV], []⟩) Q E s := by
  have hk : builtinKind "BaseException.__getattribute__" = some .slot := by decide +kernel
  have hsplit : splitId "BaseException.__getattribute__" = some ("BaseException", "__getattribute__") := by decide +kernel
  have ha := PySem.F.args_bexc_ga (.ref x) nameV
  obtain ⟨hh, g, d, t, os⟩ := s
  have L0 := I.type (M := M)
  have L1 := PySem.W.looks_mroIn (M := M) X N.hb
  simp only [checkBuiltinCall, hk, hsplit]
  refine wpAny_bind ?_
  unfold isInstance
  repeat (first | (with_reducible refine L0.at ?_) | (with_reducible refine L1.at ?_) | wp_step)
  exact hq
theorem exa_val {tk : Tok} {Q : Fin → Shared → Prop} (X : K.In s.heap) (I : PySem.W.InstAt s.heap x ox C od) (hf : PySem.W.findObj K C od name = some (.value v)) (hq : Q (.done (.ret v)) s) :
    wpAny (model prog w) A (Builtin.«object.__getattribute__» ⟨[.ref x, .str name tk], []⟩) Q E s := by
  obtain ⟨hh, g, d, t, os⟩ := s
  have L0 := I.type (M := model prog w)
  have L1 := PySem.W.looks_find (M := model prog w) X I hf
  unfold Builtin.«object.__getattribute__»
  refine wpAny_bind ?_
  refine wpAny_pure ?_
  refine wpAny_bind (wpAny_pure (wpAny_bind (L0.at (wpAny_bind (L1.at ?_)))))
  exact wpAny_pure hq
theorem exa_cls {tk : Tok} {Q : Fin → Shared → Prop} (X : K.In s.heap) (I : PySem.W.InstAt s.heap x ox C od) (hm : PySem.W.mroIn K C (.type "object") = some true)
    (hf : PySem.W.findObj K C od name = some (.bind (.builtin "getset_descriptor.__get__") (.builtin "object.__class__"))) (hq : Q (.done (.ret (.ref C))) s) :
    wpAny (model prog w) A (Builtin.«object.__getattribute__» ⟨[.ref x, .str name tk], []⟩) Q E s := by
  obtain ⟨hh, g, d, t, os⟩ := s
  have L0 := I.type (M := model prog w)
  have L1 := PySem.W.looks_find (M := model prog w) X I hf
  unfold Builtin.«object.__getattribute__»
  refine wpAny_bind ?_
  refine wpAny_pure ?_
  refine wpAny_bind (wpAny_pure (wpAny_bind (L0.at (wpAny_bind (L1.at ?_)))))
  show wpAny _ _ (holding [.builtin "object.__class__"] (PySem.call (.builtin "getset_descriptor.__get__") [.builtin "object.__class__", .ref x, .ref C]) >>= ret) _ _ _
  refine wpAny_bind (wpAny_holding (wpAny_call (PySem.W.class_get (s := ⟨hh, g, d, t, os⟩) (ox := ox) (od := od) X I hm ?_)))
  exact wpAny_pure hq
theorem exa_by {nameV : Value} {fill expr : Bool} {Q : Value → Shared → Prop} (N : ExA K C) (X : K.In s.heap) (I : PySem.W.InstAt s.heap x ox C od) (hh : PySem.W.handedIn v = true)
    (he : ∀ {A : Around} {E : Value → Shared → Prop} {Q : Fin → Shared → Prop}, Q (.done (.ret v)) s → wpAny (model prog w) A (Builtin.«object.__getattribute__» ⟨[.ref x, nameV], []⟩) Q E s) (hq : Q v s) :
    wpAny (model prog w) A (getAttrBy (.ref x) nameV fill expr) Q E s := by
  obtain ⟨h0, g, d, t, os⟩ := s
  have L0 := I.type (M := model prog w)
  have L1 := PySem.W.looks_findIn (M := model prog w) X N.ga
  have L2 := PySem.W.looks_findIn (M := model prog w) X N.gh
  have f3 := PySem.F.attr_ValueError.ga.bind (.ref x)
  have hx0 : (expr && onTheHeap (Value.builtin "BaseException.__getattribute__")) = false := by cases expr <;> rfl
  have hx2 : (Value.builtin "BaseException.__getattribute__" == Value.builtin "object.__getattribute__") = false := by decide +kernel
  have hx1 : (onTheHeap (Value.ref C) && Value.builtin "BaseException.__getattribute__" == Value.builtin "object.__getattribute__") = false := by rw [hx2]; rfl
  repeat (any_goals (first | assumption | (with_reducible refine L0.at ?_) | (with_reducible refine L1.at ?_) | (with_reducible refine L2.at ?_) | wp_step))
  refine codeAny_call_builtin PySem.F.attr_ValueError.ga.plain PySem.F.entry_bexc_ga (exa_check (s := ⟨h0, g, d, t, os⟩) N X I (he ?_))
  repeat (any_goals (first | assumption | (with_reducible exact PySem.W.handed_on hh hq) | wp_step))
theorem exa_attr {expr : Bool} {Q : Value → Shared → Prop} (N : ExA K C) (X : K.In s.heap) (I : PySem.W.InstAt s.heap x ox C od) (hf : PySem.W.findObj K C od name = some (.value v)) (hh : PySem.W.handedIn v = true) (hq : Q v { s with toks := s.toks + 1 }) :
    wpAny (model prog w) A (getAttr (.ref x) name expr) Q E s := by
  obtain ⟨h0, g, d, t, os⟩ := s
  unfold getAttr
  refine wpAny_bind (wpAny_mkText ?_)
  exact exa_by (s := ⟨h0, g, d, t + 1, os⟩) N X I hh (fun z => exa_val (s := ⟨h0, g, d, t + 1, os⟩) X I hf z) hq
theorem exa_class {Q : Option Value → Shared → Prop} (N : ExA K C) (X : K.In s.heap) (I : PySem.W.InstAt s.heap x ox C od) (hm : PySem.W.mroIn K C (.type "object") = some true)
    (hf : PySem.W.findObj K C od "__class__" = some (.bind (.builtin "getset_descriptor.__get__") (.builtin "object.__class__"))) (hq : Q (some (.ref C)) { s with toks := s.toks + 1 }) :
    wpAny (model prog w) A (getAttr? (.ref x) "__class__") Q E s := by
  obtain ⟨h0, g, d, t, os⟩ := s
  unfold getAttr? getAttrBy?
  refine wpAny_bind (wpAny_mkText (wpAny_bind (wpAny_attempt ?_)))
  refine exa_by (s := ⟨h0, g, d, t + 1, os⟩) N X I rfl (fun z => exa_cls (s := ⟨h0, g, d, t + 1, os⟩) X I hm hf z) ?_
  exact wpAny_pure hq
theorem kitx_exc {x D : Addr} {ox od : Obj} (N : ExA K D) (hdct : PySem.W.hasDictIn K D = true) (ha : PySem.W.findIn K (.ref D) "__class__" = some (some (.builtin "object.__class__")))
    (hn : PySem.W.specialIn K (.builtin "object.__class__") "__get__" = some (some (.builtin "getset_descriptor.__get__"))) (htk : PySem.W.takesIn K (.builtin "object.__class__") = some true) (hm : PySem.W.mroIn K D (.type "object") = some true) :
    PySem.W.KitX K (.ref x) (.ref D) (fun h => PySem.W.InstAt h x ox D (some od)) where
  ty := fun _ _ _ I => I.type
  it := fun _ _ X _ => by
    obtain ⟨cdD, hcD, _⟩ := PySem.W.any_some hdct
    unfold PySem.W.clsIn at hcD
    split at hcD
    · rename_i c' d' cd' sl' ho
      intro A' Q' E' s' k q
      unfold isType loadHead
      exact wpAny_bind (wpAny_loadPart (k _ _ (X _ _ ho)) (wpAny_pure q))
    · cases hcD
  ne := fun h tp dd its n sl X htp => by
    obtain ⟨cdD, hcD, _⟩ := PySem.W.any_some hdct
    refine Bool.eq_false_iff.mpr fun q => ?_
    have e : D = tp := Value.ref.inj (beq_iff_eq.mp q)
    subst e
    unfold PySem.W.clsIn at hcD
    split at hcD
    · rename_i c' d' cd' sl' ho
      have z := (X _ _ ho).symm.trans htp
      cases z
    · cases hcD
  ca := fun X I k => exa_class N X I hm (PySem.W.findObj_data (by obtain ⟨cd, hc, _⟩ := PySem.W.any_some hdct; rw [hc]; rfl) ha hn htk) k
end
end XC
namespace XC
open PySem PySem.Spec PyProof.Rows L2 My D3
structure AttE (K : PySem.W.Frag) (C : Addr) (f : Str) : Prop where
  ea : ExA K C
  hd : PySem.W.hasDictIn K C = true
  no : PySem.W.findIn K (.ref C) f = some none
section
variable {X : Cx} {a C D dx : Addr} {oa od : Obj} {u : Value} {v : V} {f n : Str} {i : Nat} {p1 pos : Pos}
theorem att_e (N : AttE X.K C f) (hoa : oa.cls = .ref C) (hod : oa.dict = some dx) (hnc : PySem.W.notCls oa = true) (hdx : ∀ h : Heap, h.get? dx = some od → h.Ns1 dx (fun z => if z = f then some u else none)) (rv : RelV v u)
    (hi : X.N[i]? = some n) (hv : Vis X.env.scope n) (hdn : (n == ("__debug__" : Str)) = false := by decide) (hcn : (n == ("__classdict__" : Str)) = false := by decide) (hb : attributeBase (.Name n p1) f X.env (eval (.Name n p1) X.env) = eval (.Name n p1) X.env := by rfl) :
    PE (suiteCx X a oa dx od) (.Attribute (.Name n p1) f pos) (fun σ H Q => σ[i]? = some (some (.ref a)) ∧ Q v H) := by
  intro pins s σ H Q I h
  refine attr_of hb (thn ((pe_var (X := suiteCx X a oa dx od) hi hv hdn hcn) pins s σ H (fun x H1 => x = .ref a ∧ Q v H1) I ⟨_, h.1, rfl, h.2⟩) fun w s1 ⟨x, H1, I1, rx, ex, q⟩ => ?_)
  subst ex
  cases rx
  have ha := (I1.pin (a, oa) (List.mem_append_left _ (List.mem_append_right _ List.mem_cons_self))).1
  have hd := (I1.pin (dx, od) (List.mem_append_left _ (List.mem_append_right _ (List.mem_cons_of_mem _ List.mem_cons_self)))).1
  obtain ⟨od', e1, e2⟩ := lookIn_ns (hdx _ hd)
  rw [hd] at e1
  cases e1
  refine exa_attr (ox := oa) (od := some od) N.ea I1.kIn ⟨ha, hoa, hnc, ?_⟩ (PySem.W.findObj_own N.hd N.no rfl (by rw [e2, if_pos rfl])) (handed_of rv) ⟨v, H1, I1.tok _, rv, q⟩
  rw [hod]
  exact hd
end
end XC
namespace XC
open PySem PySem.Spec PyProof.Rows L2 My D3
structure KitE (K : PySem.W.Frag) (C : Addr) : Prop where
  ea : ExA K C
  hd : PySem.W.hasDictIn K C = true
  fd : PySem.W.findIn K (.ref C) "__class__" = some (some (.builtin "object.__class__"))
  sp : PySem.W.specialIn K (.builtin "object.__class__") "__get__" = some (some (.builtin "getset_descriptor.__get__"))
  tk : PySem.W.takesIn K (.builtin "object.__class__") = some true
  mr : PySem.W.mroIn K C (.type "object") = some true
theorem vals_refs : ∀ {Ds : List Addr} {us : List Value}, Vals (Ds.map V.ref) us → us = Ds.map Value.ref
  | [], _, h => by cases h; rfl
  | D :: Ds, _, h => by
    cases h with
    | cons h1 h2 =>
      cases h1
      rw [vals_refs h2]
      rfl
section
variable {X : Cx} {a C D dx : Addr} {oa od : Obj} {b : Bool}
theorem inst_e {pins : List (Addr × Obj)} {σ : L2.St} {H : Hp} {s : Shared} (I : Inv (suiteCx X a oa dx od) pins σ H s) (hoa : oa.cls = .ref C) (hod : oa.dict = some dx) (hnc : PySem.W.notCls oa = true) : PySem.W.InstAt s.heap a oa C (some od) := by
  have ha := (I.pin (a, oa) (List.mem_append_left _ (List.mem_append_right _ List.mem_cons_self))).1
  have hd := (I.pin (dx, od) (List.mem_append_left _ (List.mem_append_right _ (List.mem_cons_of_mem _ List.mem_cons_self)))).1
  refine ⟨ha, hoa, hnc, ?_⟩
  rw [hod]
  exact hd
theorem call_isT (N : KitE X.K C) (hoa : oa.cls = .ref C) (hod : oa.dict = some dx) (hnc : PySem.W.notCls oa = true) : CallR (suiteCx X a oa dx od) (.builtin "isinstance") (fun xs H Q => ∃ (tp : Addr) (Ds : List Addr), xs = [.ref a, .ref tp] ∧ H tp = some (.tup (Ds.map V.ref)) ∧ PySem.W.kitAny X.K (.ref C) (Ds.map Value.ref) = some b ∧ Q (.bl b) H) := by
  intro pins s σ H xs us Q I r h
  obtain ⟨tp, Ds, rfl, ht, e, q⟩ := h
  obtain ⟨u1, u2, rfl, r1, r2⟩ : ∃ u1 u2, us = [u1, u2] ∧ RelV (.ref a) u1 ∧ RelV (.ref tp) u2 := by
    cases r with
    | cons r1 r => cases r with
      | cons r2 r => cases r; exact ⟨_, _, rfl, r1, r2⟩
  cases r1; cases r2
  obtain ⟨_, its, rv, o, ho, hc, hd⟩ := (show ObjOk (suiteCx X a oa dx od).prog (suiteCx X a oa dx od).w H s.heap tp (.tup (Ds.map V.ref)) from I.hok tp _ ht)
  obtain rfl := vals_refs rv
  obtain ⟨oc, odi, oda, osl⟩ := o
  dsimp only at hc hd
  subst hc
  obtain ⟨nn, rfl⟩ := hd
  exact PySem.W.kia_tup (kitx_exc (ox := oa) (od := od) N.ea N.hd N.fd N.sp N.tk N.mr) I.kIn (inst_e I hoa hod hnc) ho e (fun z => nomatch z) fun tk => ⟨.bl b, H, I.tok _, rfl, q⟩
theorem call_is1 (N : KitE X.K C) (hoa : oa.cls = .ref C) (hod : oa.dict = some dx) (hnc : PySem.W.notCls oa = true) : CallR (suiteCx X a oa dx od) (.builtin "isinstance") (fun xs H Q => ∃ (D : Addr), xs = [.ref a, .ref D] ∧ PySem.W.kitOne X.K (.ref C) (.ref D) = some b ∧ Q (.bl b) H) := by
  intro pins s σ H xs us Q I r h
  obtain ⟨D, rfl, e, q⟩ := h
  obtain ⟨u1, u2, rfl, r1, r2⟩ : ∃ u1 u2, us = [u1, u2] ∧ RelV (.ref a) u1 ∧ RelV (.ref D) u2 := by
    cases r with
    | cons r1 r => cases r with
      | cons r2 r => cases r; exact ⟨_, _, rfl, r1, r2⟩
  cases r1; cases r2
  exact PySem.W.kia_one (kitx_exc (ox := oa) (od := od) N.ea N.hd N.fd N.sp N.tk N.mr) I.kIn (inst_e I hoa hod hnc) e (fun z => nomatch z) fun tk => ⟨.bl b, H, I.tok _, rfl, q⟩
end
end XC
namespace XC
open PySem PySem.Spec PyProof.Rows L2 My D3
theorem set_non {δ : DS} {i j : Nat} {x : U} (h : (δ.set i none)[j]? = some (some x)) : j ≠ i ∧ δ[j]? = some (some x) := by
  by_cases e : j = i
  · subst e
    by_cases l : j < δ.length
    · rw [List.getElem?_set_self l] at h; cases h
    · rw [List.getElem?_eq_none (by rw [List.length_set]; omega)] at h; cases h
  · rw [List.getElem?_set_ne (Ne.symm e)] at h
    exact ⟨e, h⟩
theorem Rel.forget {K : PySem.W.Frag} {fl : List Fl} {G : Gh} {ow : Ow} {σ : L2.St} {H : Hp} {δ : DS} {i : Nat} {x : Option V} (R : Rel K fl G ow σ H δ) (hfl : fl[i]? = some .A) : Rel K fl G ow (σ.set i x) H (δ.set i none) := by
  have no : ∀ a, ow i ≠ some a := fun a z => by
    obtain ⟨_, hz, _⟩ := R.own i a z
    rw [hfl] at hz
    rcases hz with ⟨z, _⟩ | ⟨z, _⟩ <;> cases z
  refine ⟨R.s0, R.s1, by rw [List.length_set, List.length_set]; exact R.len, fun j a h => ?_, R.inj, R.pin, fun j d' h1 hn h2 => ?_, fun j d' h1 hn h2 h3 => ?_, R.nt, R.nd, R.ns, R.np, fun j d' hn h1 => ?_⟩
  · have hj : j ≠ i := fun z => no a (z ▸ h)
    obtain ⟨h0, hf, xs, ds, h1, h2, h3, h4⟩ := R.own j a h
    exact ⟨h0, hf, xs, ds, by rw [List.getElem?_set_ne (Ne.symm hj)]; exact h1, h2, h3, by rw [List.getElem?_set_ne (Ne.symm hj)]; exact h4⟩
  · obtain ⟨hj, e⟩ := set_non h1
    obtain ⟨v', h3, h4⟩ := R.dat j d' e hn h2
    exact ⟨v', by rw [List.getElem?_set_ne (Ne.symm hj)]; exact h3, h4⟩
  · obtain ⟨hj, e⟩ := set_non h1
    exact R.oo j d' e hn h2 h3
  · obtain ⟨hj, e⟩ := set_non h1
    obtain ⟨v', h3, h4⟩ := R.nr j d' hn e
    exact ⟨v', by rw [List.getElem?_set_ne (Ne.symm hj)]; exact h3, h4⟩
def tEt (i : Nat) (a : Addr) (b : Bool) : TE := fun σ H Q => σ[i]? = some (some (.ref a)) ∧ ∀ H', Same H H' → Q (.bl b) H'
section
variable {X S : Cx} {a C I0 D dx : Addr} {oa od : Obj} {u : Value} {v : V} {f n cn : Str} {i j : Nat} {p p1 p2 pos : Pos} {cond a1 b1 : Expr} {rest es : List Expr} {b : Bool} {k : Nat}
theorem et_ise (h : IsE S i a cond) : PE S cond (tEt i a true) := PE.imp h fun σ H Q z => ⟨z.1, z.2 H (Same.refl H)⟩
theorem et_tup {Ds : List Addr} {x1} (N : KitE X.K C) (hk : PySem.W.kitAny X.K (.ref C) (Ds.map Value.ref) = some b) (hoa : oa.cls = .ref C) (hod : oa.dict = some dx) (hnc : PySem.W.notCls oa = true) (hes : PA (suiteCx X a oa dx od) es (fun _ H Q => Q (Ds.map V.ref) H)) (hl : Ds.length ≤ sizeLine)
    (hgi : Gl X "isinstance") (hmi : X.mg "isinstance" = none) (hi : X.N[i]? = some n) (hv : Vis X.env.scope n) (hdn : (n == ("__debug__" : Str)) = false := by decide) (hcn : (n == ("__classdict__" : Str)) = false := by decide) :
    PE (suiteCx X a oa dx od) (.Call (.Name "isinstance" p) [.Name n p1, .Tuple es x1 p2] [] pos) (tEt i a b) :=
  PE.imp (pe_callB (X := suiteCx X a oa dx od) (call_isT (b := b) N hoa hod hnc) hgi hmi boot_isinstance (pa_cons (pe_var (X := suiteCx X a oa dx od) hi hv hdn hcn) (pa_cons (pe_tup hes) pa_nil (by exact star_of rfl)) (by exact star_of rfl)) (by decide) (by decide) (by exact star_of rfl) (by exact pl_of rfl)) fun σ H Q h => by
    refine ⟨_, h.1, ?_⟩
    show _ ∧ _
    refine ⟨by rw [List.length_map]; exact hl, fun q hq => ?_⟩
    exact ⟨q, Ds, rfl, upd_same, hk, h.2 _ (same_new hq _)⟩
end
end XC
namespace XC
open PySem PySem.Spec PyProof.Rows L2 My D3
structure SuiG (K : PySem.W.Frag) (mg : Str → Option Value) (fld : Addr → Str) (cn f ic n1 n2 n3 : Str) : Prop where
  ex : ∃ C I D1 D2 D3, Exc K mg cn f C I ∧ fld C = f ∧ mg ic = some (.ref I) ∧ KitE K C ∧ AttE K C f ∧ mg n1 = some (.ref D1) ∧ mg n2 = some (.ref D2) ∧ mg n3 = some (.ref D3) ∧ PySem.W.kitAny K (.ref C) [.ref D1, .ref D2, .ref D3] = some false
theorem SuiG.up {K : PySem.W.Frag} {mg : Str → Option Value} {fld : Addr → Str} {cn f ic n1 n2 n3 : Str} (h : SuiG K mg fld cn f ic n1 n2 n3) : ExcG K mg fld cn f ic := by
  obtain ⟨C, I, _, _, _, E, hf, m, _⟩ := h.ex
  exact ⟨C, I, E, hf, m⟩
theorem Room.q {k : Nat} {A : Around} {o : Option Value} (r : Room k A) : RoomQ k (A.mark o) := ⟨r.dp, r.un⟩
section
variable {X : Cx} {fl : List Fl} {fld : Addr → Str} {c f ic n1 n2 n3 n y g s0 s1 : Str} {gp : List Str} {i j k : Nat} {W : List D → Option D} {rowE : Expr} {fr : FE}
variable {yp ap spos a1 a2 a3 a4 a5 a6 a7 a8 a9 b1 b2 b3 b4 b5 b6 b7 q0 q1 q2 q3 q4 q5 q6 q7 q8 q9 q10 q11 q12 q13 q14 rpos : Pos} {x1 j0 j1 : Nat}
end
end XC
namespace XC
open PySem PySem.Spec PyProof.Rows L2 My D3
def tXE (K : PySem.W.Frag) (mg : Str → Option Value) (fl : List Fl) (f : FX) : Ends → XK → L2.St → Hp → Prop := fun Dn EX σ H => ∃ G ow δ o, Rel K fl G ow σ H δ ∧ f δ = some o ∧ match o with
  | .o (.nx δ') => ∀ ow' σ' H', Rel K fl G ow' σ' H' δ' → Dn.nx σ' H'
  | .ex c d => ∀ (C : Addr) (v : V) (u : Value) (H' : Hp), mg c = some (.ref C) → Same H H' → RA K ok1 true H' v d → RelV v u → EX u (some C) H'
  | _ => False
abbrev DXE (X : Cx) (fld : Addr → Str) (fl : List Fl) (st : Stmt) (f : FX) : Prop := PSE fld X st (tXE X.K X.mg fl f)
section
variable {X : Cx} {fl : List Fl} {fld : Addr → Str} {n i j : Nat} {x y ic en : Str} {ps cs : List Str} {F : List D → Option Or} {dvs : List V} {dd : List D} {e c : Expr} {es : List Expr} {fa : FA} {ft : FT} {f f1 f2 : FX} {p yp pos pos2 np hpos tpos : Pos} {b0 st s1 s2 : Stmt} {suite : List Stmt} {fS : Str → D → DS → Option D}
theorem dxe_asg (h : HasX X.prog X.w X.K X.mg X.base fld n x ps (spX X.K X.mg F) dvs) (hdd : ∀ H, RAs X.K ok1 true H dvs dd) (hr : Room n X.A) (ha : DB X fl .P (e :: es) fa)
    (hfl : fl[j]? = some .O) (hj : X.N[j]? = some y) (hy : X.env.scope.names.lookup y = some .local ∨ X.env.scope.names.lookup y = some .cell) (hN : X.N.Nodup) (hx : X = X.nox := by rfl) (hg : Gl X x := by rfl) (hdb : (x == ("__debug__" : Str)) = false := by decide)
    (he : starEach (e :: es) X.env = (false, eval e X.env) :: starEach es X.env := by exact star_of rfl) (hpl : (backTo pos (starEach es X.env)).any (·.1) = false := by exact pl_of rfl) (hsw : swapsWith (.Call (.Name x p) (e :: es) [] pos) (some (.Name y yp)) pos2.line X.env = pure false := by rfl)
    (hyf : X.fn y = true ∨ X.env.scope.names.lookup y = some .local := by first | exact .inl rfl | exact .inr rfl) :
    DXE X fld fl (.Assign [.Name y yp] (.Call (.Name x p) (e :: es) [] pos) pos2) (xAsg j F dd fa) := by
  intro pins s σ H Dn EX J h0
  obtain ⟨G, ow, δ, o, R, hf, q⟩ := h0
  obtain ⟨ds, e1, e2⟩ := bind1 hf
  obtain ⟨f, fd, dv, Fo, b, vv, kp, m⟩ := h.ex
  have ha' : DB X.nox fl .P (e :: es) fa := by rw [← hx]; exact ha
  refine pse_asg (X := X) (dvs := dvs) (i := j) Fo hr hg m kp b vv ha' hN hj hy hdb he hpl hsw hyf pins s σ H Dn EX J ⟨G, ow, δ, ds, R, e1, fun vs H1 sm r => ?_⟩
  split at e2
  · next d eF =>
    by_cases hc : fl1 d = true ∧ j < δ.length
    case neg => rw [if_neg hc] at e2; cases e2
    rw [if_pos hc] at e2
    cases e2
    refine ⟨ds ++ dd, _, ⟨R.tb.same sm, r.append (hdd H1)⟩, eF, fun v H' sm' rv => ?_⟩
    have rv' : Rs X.K G.H0 ow H H' .C v d := RA.imp (fun _ z => sm.free z) (fun z => z) rv
    obtain ⟨ow', R'⟩ := R.setO (sm.trans sm') hfl (slot_lt R hc.2) (Rs.FC_F R (Rs.C_fl1 hc.1 rv'))
    exact q ow' _ H' R'
  · next c d eF =>
    cases e2
    exact ⟨ds ++ dd, _, ⟨R.tb.same sm, r.append (hdd H1)⟩, eF, fun C' v u H' mc sm' r' rv => q C' v u H' mc (sm.trans sm') r' rv⟩
  · cases e2
theorem dxe_if (hc : DT X fl c ft) (h1 : DXE X fld fl s1 f1) (h2 : DXE X fld fl s2 f2) (hx : X = X.nox := by rfl) : DXE X fld fl (.If c [s1] [s2] pos) (xIf ft f1 f2) := by
  intro pins s σ H Dn EX J h0
  obtain ⟨G, ow, δ, o, R, hf, q⟩ := h0
  obtain ⟨t, e1, e2⟩ := bind1 hf
  have hc' : DT X.nox fl c ft := by rw [← hx]; exact hc
  have one : ∀ (s0 : Stmt) (f0 : FX), DXE X fld fl s0 f0 → f0 δ = some o → ∀ (H1 : Hp) (s' : Shared), Same H H1 → Inv X pins σ H1 s' → wpAny (model X.prog X.w) X.A (execs [s0] X.env) (SP X pins Dn) (XP fld X pins σ EX) s' := fun s0 f0 hs e0 H1 s' sm J1 => by
    refine wpAny_execs_cons (wpAny_mono (hs pins s' σ H1 { nx := Dn.nx, rt := fun _ _ => False, bk := fun _ _ => False, ct := fun _ _ => False } EX J1 ⟨G, ow, δ, o, R.grow sm, e0, ?_⟩) (fun fl' s1 z => ?_) fun e s1 z => z)
    · cases o with
      | ex cc d => exact fun C' v u H' mc sm' r' rv => q C' v u H' mc (sm.trans sm') r' rv
      | o o1 => cases o1 with
        | nx δ' => exact q
        | rt d => exact q
        | bk d => exact q
        | ct d => exact q
        | ex _ _ _ => exact q
    · cases fl' with
      | next => exact wpAny_execs_nil z
      | ret v => obtain ⟨_, _, _, _, _, z⟩ := z; exact z.elim
      | brk => obtain ⟨_, _, _, z⟩ := z; exact z.elim
      | cont => obtain ⟨_, _, _, z⟩ := z; exact z.elim
  refine wpAny_If (wpAny_mono (hc' pins s σ H (fun b H1 => b = t ∧ Same H H1) (J.wish _) ⟨G, ow, δ, t, R, e1, fun H' s => ⟨rfl, s⟩⟩) (fun b s1 z => ?_) fun _ _ z => z.elim)
  obtain ⟨H1, J1, rfl, sm⟩ := z
  have J1 : Inv X pins σ H1 s1 := J1.wish _
  cases b with
  | true => rw [if_pos rfl] at e2; exact one _ _ h1 e2 H1 s1 sm J1
  | false => rw [if_neg (by decide)] at e2; exact one _ _ h2 e2 H1 s1 sm J1
end
section
variable {P : Program} {w : World} {K : PySem.W.Frag} {mg : Str → Option Value} {base : Heap} {fld : Addr → Str} {x : Str} {ps N ks : List Str} {st : Stmt} {k n : Nat} {f : FX} {fl : List Fl} {dvs : List V}
end
end XC
namespace XC
open PySem PySem.Spec PyProof.Rows L2 My D3
structure SuiH (K : PySem.W.Frag) (mg : Str → Option Value) (fld : Addr → Str) (cn f ic n1 n2 : Str) : Prop where
  ex : ∃ C I D1 D2, Exc K mg cn f C I ∧ fld C = f ∧ mg ic = some (.ref I) ∧ KitE K C ∧ AttE K C f ∧ mg n1 = some (.ref D1) ∧ mg n2 = some (.ref D2) ∧ PySem.W.kitAny K (.ref C) [.ref D1, .ref D2] = some false ∧ PySem.W.kitOne K (.ref C) (.ref I) = some true
theorem SuiH.up {K : PySem.W.Frag} {mg : Str → Option Value} {fld : Addr → Str} {cn f ic n1 n2 : Str} (h : SuiH K mg fld cn f ic n1 n2) : ExcG K mg fld cn f ic := by
  obtain ⟨C, I, _, _, E, hf, m, _⟩ := h.ex
  exact ⟨C, I, E, hf, m⟩
structure SuiA (K : PySem.W.Frag) (mg : Str → Option Value) (fld : Addr → Str) (cn f ic : Str) : Prop where
  ex : ∃ C I, Exc K mg cn f C I ∧ fld C = f ∧ mg ic = some (.ref I) ∧ AttE K C f
theorem SuiA.up {K : PySem.W.Frag} {mg : Str → Option Value} {fld : Addr → Str} {cn f ic : Str} (h : SuiA K mg fld cn f ic) : ExcG K mg fld cn f ic := by
  obtain ⟨C, I, E, hf, m, _⟩ := h.ex
  exact ⟨C, I, E, hf, m⟩
section
variable {X : Cx} {a C D dx : Addr} {oa od : Obj} {ic n : Str} {i : Nat} {p p1 p2 pos : Pos} {b : Bool}
theorem et_own (N : KitE X.K C) (hk : PySem.W.kitOne X.K (.ref C) (.ref D) = some b) (hoa : oa.cls = .ref C) (hod : oa.dict = some dx) (hnc : PySem.W.notCls oa = true) (hic : X.mg ic = some (.ref D)) (hgi : Gl X "isinstance") (hmi : X.mg "isinstance" = none) (hg : Gl X ic) (hi : X.N[i]? = some n) (hv : Vis X.env.scope n)
    (hdb : (ic == ("__debug__" : Str)) = false := by decide) (hdn : (n == ("__debug__" : Str)) = false := by decide) (hcn : (n == ("__classdict__" : Str)) = false := by decide) :
    PE (suiteCx X a oa dx od) (.Call (.Name "isinstance" p) [.Name n p1, .Name ic p2] [] pos) (tEt i a b) :=
  PE.imp (pe_callB (X := suiteCx X a oa dx od) (call_is1 (b := b) N hoa hod hnc) hgi hmi boot_isinstance (pa_cons (pe_var (X := suiteCx X a oa dx od) hi hv hdn hcn) (pa_cons (pe_glob (X := suiteCx X a oa dx od) (v := .ref D) hg hic rfl hdb) pa_nil (by exact star_of rfl)) (by exact star_of rfl)) (by decide) (by decide) (by exact star_of rfl) (by exact pl_of rfl)) fun σ H Q h => by
    exact ⟨_, h.1, D, rfl, hk, h.2 H (Same.refl H)⟩
end
section
variable {X : Cx} {fl : List Fl} {fld : Addr → Str} {c f ic n1 n2 n g s0 s1 : Str} {gp : List Str} {i k : Nat} {W : List D → Option D}
variable {ap spos a1 a2 a3 a4 a5 b1 b2 b3 b4 b6 b7 q0 q1 q2 q3 q4 q5 q6 q7 q8 q9 q10 q11 rpos rp2 : Pos} {x1 x2 x3 j0 j1 j2 : Nat}
end
end XC
namespace XC
open PySem PySem.Spec PyProof.Rows L2 My D3
section
variable {P : Program} {w : World} {K : PySem.W.Frag} {mg : Str → Option Value} {base : Heap} {N : List Str} {qual : Str} {scope : Scope} {fa : Addr} {cdv : Value} {A : Around} {outer : List Env} {s₀ : Shared} {H₀ : Hp} {E : XK} {fld : Addr → Str}
variable {fl : List Fl} {n : Nat} {x : Str} {ps : List Str} {F : List D → Option Or} {dvs : List V} {dd : List D} {e : Expr} {es : List Expr} {fs : FA} {p pos pos2 : Pos}
end
end XC
namespace D3
open PySem
def sTryU (i : Nat) (f : FX) (cs : List Str) (fS : Str → D → FS) : FS := fun δ => (f δ).bind fun o => match o with
  | .o (.nx δ') => some (.nx δ')
  | .ex c d => if c ∈ cs ∧ flat d = true then (fS c d (δ.set i none)).bind fun o => match o with
    | .rt r => some (.rt r)
    | .nx δ' => some (.nx (δ'.set i none))
    | _ => none
    else none
  | _ => none
end D3
namespace XC
open PySem PySem.Spec PyProof.Rows L2 My D3
structure At (K : PySem.W.Frag) (i : Nat) (a : Addr) (v : V) (d : D) (σ : L2.St) (H : Hp) : Prop where
  sl : σ[i]? = some (some (.ref a))
  ra : RA K ok0 false H v d
  fl : flat d = true
section
variable {K : PySem.W.Frag} {fl : List Fl} {i : Nat} {a : Addr} {v : V} {d : D} {σ : L2.St} {H H' : Hp}
theorem At.grow (h : At K i a v d σ H) (s : Same H H') : At K i a v d σ H' := ⟨h.sl, h.ra.same s, h.fl⟩
theorem At.set {j : Nat} {x : Option V} (h : At K i a v d σ H) (n : i ≠ j) : At K i a v d (σ.set j x) H := ⟨by rw [List.getElem?_set_ne (Ne.symm n)]; exact h.sl, h.ra, h.fl⟩
end
def tU (K : PySem.W.Frag) (fl : List Fl) (i : Nat) (a : Addr) (v : V) (d : D) (k : Kd) (f : FE) : TE := fun σ H Q => ∃ G ow δ x, Rel K fl G ow σ H δ ∧ At K i a v d σ H ∧ f δ = some x ∧ ∀ y H', Same H H' → Rs K G.H0 ow H H' k y x → Q y H'
def tUB (K : PySem.W.Frag) (fl : List Fl) (i : Nat) (a : Addr) (v : V) (d : D) (k : Kd) (f : FA) : TA := fun σ H Q => ∃ G ow δ ds, Rel K fl G ow σ H δ ∧ At K i a v d σ H ∧ f δ = some ds ∧ ∀ vs H', Same H H' → RAs K (okOf G.H0 ow H k) (plOf k) H' vs ds → Q vs H'
def EndU (K : PySem.W.Frag) (fl : List Fl) (i : Nat) (a : Addr) (v : V) (d : D) (G : Gh) (Dn : Ends) : Oc → Prop
  | .nx δ' => ∀ ow' σ' H', Rel K fl G ow' σ' H' δ' → At K i a v d σ' H' → Dn.nx σ' H'
  | .rt r => ∀ y H', Same G.H0 H' → RA K (okN G.H0) false H' y r → Dn.rt y H'
  | _ => False
def tUS (K : PySem.W.Frag) (fl : List Fl) (i : Nat) (a : Addr) (v : V) (d : D) (f : FS) : TS := fun Dn σ H => ∃ G ow δ o, Rel K fl G ow σ H δ ∧ At K i a v d σ H ∧ f δ = some o ∧ EndU K fl i a v d G Dn o
structure Sc where
  i : Nat
  a : Addr
  v : V
  d : D
abbrev UE (X : Cx) (fl : List Fl) (z : Sc) (k : Kd) (e : Expr) (f : FE) : Prop := PE X e (tU X.K fl z.i z.a z.v z.d k f)
abbrev UB (X : Cx) (fl : List Fl) (z : Sc) (k : Kd) (es : List Expr) (f : FA) : Prop := PA X es (tUB X.K fl z.i z.a z.v z.d k f)
abbrev US (X : Cx) (fl : List Fl) (z : Sc) (s : Stmt) (f : FS) : Prop := PS X s (tUS X.K fl z.i z.a z.v z.d f)
abbrev USs (X : Cx) (fl : List Fl) (z : Sc) (s : List Stmt) (f : FS) : Prop := PSs X s (tUS X.K fl z.i z.a z.v z.d f)
section
variable {X : Cx} {fl : List Fl} {z : Sc} {e a b c : Expr} {es rest : List Expr} {st : Stmt} {sts body orelse : List Stmt} {k : Kd} {f fa fb : FE} {fs gs : FS} {ft gt : FT} {fr : FA} {pos : Pos}
theorem ue_of (h : DE X fl k e f) : UE X fl z k e f := PE.imp h fun σ H Q h => by
  obtain ⟨G, ow, δ, x, R, _, hf, q⟩ := h
  exact ⟨G, ow, δ, x, R, hf, q⟩
theorem ue_cast {k' : Kd} (h : UE X fl z k e f) (hc : ∀ (Hb H : Hp) (G : Gh) (ow : Ow) (σ : L2.St) (δ : DS) (v : V) (d : D), Rel X.K fl G ow σ Hb δ → Rs X.K G.H0 ow Hb H k v d → Rs X.K G.H0 ow Hb H k' v d) : UE X fl z k' e f := PE.imp h fun σ H Q h => by
  obtain ⟨G, ow, δ, x, R, A, hf, q⟩ := h
  exact ⟨G, ow, δ, x, R, A, hf, fun v H' s r => q v H' s (hc _ _ G ow σ δ v x R r)⟩
theorem u_FC_C (h : UE X fl z .FC e f) : UE X fl z .C e f := ue_cast h fun _ _ _ _ _ _ _ _ R r => r.FC_C
theorem u_C_A (h : UE X fl z .C e f) : UE X fl z .A e f := ue_cast h fun _ _ _ _ _ _ _ _ R r => r.C_A R
theorem u_C_R (h : UE X fl z .C e f) : UE X fl z .R e f := ue_cast h fun _ _ _ _ _ _ _ _ R r => r.C_R R
theorem u_FC_A (h : UE X fl z .FC e f) : UE X fl z .A e f := u_C_A (u_FC_C h)
theorem u_FC_R (h : UE X fl z .FC e f) : UE X fl z .R e f := u_C_R (u_FC_C h)
theorem ue_et {bb : Bool} (h : PE X e (tEt z.i z.a bb)) : UE X fl z .FC e (dC (.bool bb)) := PE.imp h fun σ H Q h => by
  obtain ⟨G, ow, δ, x, R, A, hf, q⟩ := h
  cases hf
  exact ⟨A.sl, fun H' s => q _ H' s (.inl ⟨rfl, .bl _⟩)⟩
theorem ub_nil : UB X fl z k [] dNil := PA.imp pa_nil fun σ H Q h => by
  obtain ⟨G, ow, δ, ds, R, _, hf, q⟩ := h
  cases hf
  exact q [] H (Same.refl H) .nil
theorem ub_cons (hk : isR k = true) (h : UE X fl z k e f) (hr : UB X fl z k es fr) (hs : starEach (e :: es) X.env = (false, eval e X.env) :: starEach es X.env := by exact star_of rfl) : UB X fl z k (e :: es) (dCons f fr) := PA.imp (pa_cons h hr hs) fun σ H Q h => by
  obtain ⟨G, ow, δ, ds, R, A, hf, q⟩ := h
  obtain ⟨d, e1, hf⟩ := bind1 hf
  obtain ⟨r, e2, hf⟩ := bind1 hf
  cases hf
  refine ⟨G, ow, δ, d, R, A, e1, fun v H1 s1 r1 => ⟨G, ow, δ, r, R.grow s1, A.grow s1, e2, fun vs H2 s2 r2 => ?_⟩⟩
  exact q _ H2 (s1.trans s2) (.cons ((r1.ra hk).same s2) (r2.imp (okOf_back s1 hk) (fun z => z)))
theorem ue_tup {x1} (hk : isR k = true) (h : UB X fl z k es fr) : UE X fl z k (.Tuple es x1 pos) (dTup fr) := PE.imp (pe_tup h) fun σ H Q h => by
  obtain ⟨G, ow, δ, d, R, A, hf, q⟩ := h
  obtain ⟨l, e1, e2⟩ := bind1 hf
  by_cases z : l.length ≤ sizeLine
  · rw [if_pos z] at e2
    cases e2
    refine ⟨G, ow, δ, l, R, A, e1, fun vs H' s r => ⟨by rw [r.length]; exact z, fun p hp => ?_⟩⟩
    have g := same_new hp (.tup vs)
    exact q _ _ (s.trans g) (Rs.of_ra hk (.tup upd_same (r.same g)))
  · rw [if_neg z] at e2
    cases e2
theorem uss_cons (h1 : US X fl z st fs) (h2 : USs X fl z sts gs) : USs X fl z (st :: sts) (sSeq fs gs) := PSs.imp (pss_cons h1 h2) fun Dn σ H h => by
  obtain ⟨G, ow, δ, o, R, A, hf, q⟩ := h
  obtain ⟨o1, e1, e2⟩ := bind1 hf
  refine ⟨G, ow, δ, o1, R, A, e1, ?_⟩
  cases o1 with
  | nx δ' => exact fun ow' σ' H' R' A' => ⟨G, ow', δ', o, R', A', e2, q⟩
  | rt d => cases e2; exact q
  | bk d => cases e2; exact q.elim
  | ct d => cases e2; exact q.elim
  | ex c f v => cases e2; exact q.elim
theorem uss_one (h1 : US X fl z st fs) : USs X fl z [st] fs := PSs.imp (pss_one h1) fun _ _ _ h => h
theorem us_ret (h : UE X fl z .R e f) : US X fl z (.Return (some e) pos) (sRet f) := PS.imp (ps_ret h) fun Dn σ H h => by
  obtain ⟨G, ow, δ, o, R, A, hf, q⟩ := h
  obtain ⟨d, e1, e2⟩ := bind1 hf
  cases e2
  exact ⟨G, ow, δ, d, R, A, e1, fun v H' s r => q v H' (R.same0.trans s) r⟩
theorem us_setA {j : Nat} {x : Str} {pos' : Pos} (hij : z.i ≠ j) (hfl : fl[j]? = some .A) (hN : X.N.Nodup) (hi : X.N[j]? = some x) (hv : X.env.scope.names.lookup x = some .local ∨ X.env.scope.names.lookup x = some .cell) (h : UE X fl z .A e f)
    (hs : swapsWith e (some (.Name x pos')) pos.line X.env = pure false := by rfl) (hfn : X.fn x = true ∨ X.env.scope.names.lookup x = some .local := by first | exact .inl rfl | exact .inr rfl) :
    US X fl z (.Assign [.Name x pos'] e pos) (sSetl j f) := PS.imp (ps_set (i := j) hN hi hv h hs hfn) fun Dn σ H h => by
  obtain ⟨G, ow, δ, o, R, A, hf, q⟩ := h
  unfold sSetl at hf
  by_cases hl : j < δ.length
  · rw [if_pos hl] at hf
    obtain ⟨d, e1, e2⟩ := bind1 hf
    cases e2
    exact ⟨G, ow, δ, d, R, A, e1, fun v H' s r => q ow _ H' ((R.grow s).setA hfl (slot_lt R hl) r) ((A.grow s).set hij)⟩
  · rw [if_neg hl] at hf
    cases hf
end
end XC
namespace XC
open PySem PySem.Spec PyProof.Rows L2 My D3
section
variable {X : Cx} {pins : List (Addr × Obj)} {σ : L2.St} {H : Hp} {s : Shared} {a C I0 dx T D : Addr} {cn f ic n : Str} {u : Value} {i : Nat} {b0 : Stmt} {suite : List Stmt} {np hpos : Pos}
theorem name_goes2 {M : Model} {A : Around} {E : Value → Shared → Prop} {Q : Unit → Shared → Prop} (I : Inv X pins σ H s) (hi : X.N[i]? = some n) (hN : X.N.Nodup) (hl : X.env.scope.names.lookup n = some .local)
    (h : ∀ s', Inv X pins (σ.set i none) H s' → Q () s') : wpAny M A (do bindName X.env n .none; unbindBehindTheSuite X.env n hpos) Q E s := by
  obtain ⟨m, hn, hm⟩ := id I.loc
  have cls : (X.env.scope.kind == .class || (X.env.scope.kind == .module && X.env.locals != X.env.globals)) = false := by rw [I.ok.kind]; rfl
  refine wpAny_nameGoes_keeps hl hn cls fun h' v0 hn' hs => h _ ?_
  have neL : ∀ b o, X.s₀.heap.get? b = some o → b ≠ X.env.locals := fun b o e z => by
    rw [z] at e
    exact absurd (Heap.lt_size e) (Nat.not_lt.mpr I.ok.above)
  refine ⟨I.ok, I.os, I.bare, ⟨fun b o e z1 z2 z3 => (hs.2 b (neL b o e)).trans (I.base.keep b o e z1 z2 z3), fun b o e z1 z2 z3 => ?_, I.base.free, fun b o e z1 => ?_, I.base.tups, I.base.frzs, I.base.tbls⟩, ⟨_, hn', fun j y v e1 e2 e3 => ?_⟩, fun y c e => ?_, I.free, I.freeC, fun p hp => ?_, fun b ob e => ?_, by rw [List.length_set]; exact I.len⟩
  · obtain ⟨sl, w⟩ := I.base.slot b o e z1 z2 z3
    exact ⟨sl, (hs.2 b (neL b o e)).trans w⟩
  · obtain ⟨o', w⟩ := I.base.there b o e z1
    exact ⟨o', (hs.2 b (neL b o e)).trans w⟩
  · have hj : j ≠ i := fun z => by
      subst z
      by_cases l : j < σ.length
      · rw [List.getElem?_set_self l] at e2; cases e2
      · rw [List.getElem?_eq_none (by rw [List.length_set]; omega)] at e2; cases e2
    rw [List.getElem?_set_ne (Ne.symm hj)] at e2
    obtain ⟨u', r', q⟩ := hm j y v e1 e2 e3
    refine ⟨u', r', ?_⟩
    rcases q with ⟨k, e⟩ | ⟨k, c, e, z⟩
    · refine .inl ⟨k, ?_⟩
      have : y ≠ n := fun e => hj (nodup_ix hN e1 (e ▸ hi))
      simp [this, e]
    · exact .inr ⟨k, c, e, z.sameBut hs (I.cne y c e)⟩
  · obtain ⟨w, z⟩ := I.cell y c e
    exact ⟨w, z.sameBut hs (I.cne y c e)⟩
  · obtain ⟨e, z1, z2, z3, z4⟩ := I.pin p hp
    exact ⟨(hs.2 p.1 z2).trans e, z1, z2, z3, z4⟩
  · refine (I.hok b ob e).stay (fun c w hc q => (hs.2 c fun z => ?_).trans q) (fun _ q => q) fun _ _ q => q
    rcases hc with y | y
    · rw [← y, z, I.free] at e; cases e
    · rw [z, I.free] at y; cases y
theorem landU {Dn : Ends} {ts : TS} (I : Inv X pins σ H s) (F : Fly s.heap a C dx f u (some T)) (La : Loose X pins H a) (Ld : Loose X pins H dx) (LT : Loose X pins H T) (Ex : Exc X.K X.mg cn f C I0) (hD : D = C ∨ D = I0) (hic : X.mg ic = some (.ref D)) (hg : Gl X ic) (hdb : (ic == ("__debug__" : Str)) = false)
    (hi : X.N[i]? = some n) (hN : X.N.Nodup) (hl : X.env.scope.names.lookup n = some .local)
    (hs : ∀ oa od, s.heap.get? a = some oa → s.heap.get? dx = some od → PSs (suiteCx X a oa dx od) (b0 :: suite) ts ∧ ts { nx := fun σ' H' => Dn.nx (σ'.set i none) H', rt := Dn.rt } (σ.set i (some (.ref a))) H) :
    wpAny (model X.prog X.w) X.A (handleBy (.ref a) X.env [.ExceptHandler (some (.Name ic np)) (some n) (b0 :: suite) hpos]) (SP X pins Dn) X.xe s := by
  obtain ⟨oa, od, ea, ed, IS⟩ := inv_suite I F La Ld
  obtain ⟨hps, ht⟩ := hs oa od ea ed
  obtain ⟨mgC, kp, hB, N, fI, mN, mI, TK, _⟩ := Ex
  have TT := TK _ I.kIn
  obtain ⟨vs, sl, e1, _⟩ := F.obj
  refine wpAny_handleBy_cons (codeAny_handlers_test (ld_glob (X := suiteCx X a oa dx od) IS hg hic ?_ hdb)) (by intro q; cases q)
  have go : ∀ {E' : Value → Shared → Prop} {Q' : Bool → Shared → Prop}, Q' true s → wpAny (model X.prog X.w) (X.A.mark (some (.ref a))) (excMatches (.ref a) (.ref D)) Q' E' s := fun {E' Q'} q => by
    obtain ⟨hp, g, d, tk, os⟩ := s
    rcases hD with rfl | rfl
    · exact TT.match_self e1 rfl (by decide) q
    · exact TT.match_up e1 rfl (by decide) q
  refine go ?_
  refine codeAny_handlers_suite_as ?_
  have LT' : ∀ p ∈ (suiteCx X a oa dx od).pn ++ pins, p.1 ≠ T := fun p hp => by
    obtain ⟨Ta, Td, _⟩ := F.hd T rfl
    have hp : p ∈ (X.pn ++ [(a, oa), (dx, od)]) ++ pins := hp
    rcases List.mem_append.mp hp with hp | hp
    · rcases List.mem_append.mp hp with hp | hp
      · exact LT.pin p (List.mem_append_left _ hp)
      · rcases List.mem_cons.mp hp with rfl | hp
        · exact Ne.symm Ta
        · rw [List.mem_singleton.mp hp]; exact Ne.symm Td
    · exact LT.pin p (List.mem_append_right _ hp)
  refine inv_flight IS F LT.out LT.loc LT.new LT.cel LT' fun s1 I1 _ => ?_
  refine store_ok (X := suiteCx X a oa dx od) (i := i) (v := V.ref a) I1 hN hi (.inl hl) rfl (fun s2 I2 => ?_) (.inr hl)
  refine wpAny_mono (hps pins s2 _ H _ I2 ht) (fun fl s3 q => ?_) fun _ _ z => z.elim
  cases fl with
  | ret v =>
    obtain ⟨v', σ', H', I3, rv, q3⟩ := q
    exact name_goes (inv_back I.ok I3) hl fun s4 I4 => ⟨v', _, H', I4, rv, q3⟩
  | next =>
    obtain ⟨σ', H', I3, q3⟩ := q
    exact name_goes2 (inv_back I.ok I3) hi hN hl fun s4 I4 => ⟨_, H', I4, q3⟩
  | brk =>
    obtain ⟨_, _, _, z⟩ := q
    exact z.elim
  | cont =>
    obtain ⟨_, _, _, z⟩ := q
    exact z.elim
end
def SuiteU (X : Cx) (fl : List Fl) (fld : Addr → Str) (ic : Str) (i : Nat) (b0 : Stmt) (suite : List Stmt) (fS : Str → D → FS) (c : Str) : Prop :=
  ∃ C I0 Dc, Exc X.K X.mg c (fld C) C I0 ∧ (Dc = C ∨ Dc = I0) ∧ X.mg ic = some (.ref Dc) ∧ ∀ (a : Addr) (oa : Obj) (dx : Addr) (od : Obj) (u : Value) (v : V) (d : D), oa.cls = .ref C → oa.dict = some dx → PySem.W.notCls oa = true → (∀ h : Heap, h.get? dx = some od → h.Ns1 dx (fun z => if z = fld C then some u else none)) → RelV v u → flat d = true →
    USs (suiteCx X a oa dx od) fl ⟨i, a, v, d⟩ (b0 :: suite) (fS c d)
section
variable {X : Cx} {fl : List Fl} {fld : Addr → Str} {i : Nat} {ic en : Str} {cs : List Str} {f : FX} {np hpos tpos : Pos} {b0 st : Stmt} {suite : List Stmt} {fS : Str → D → FS}
theorem ds_tryU (h : DXE X fld fl st f) (hcs : ∀ c ∈ cs, SuiteU X fl fld ic i b0 suite fS c) (hfi : fl[i]? = some .A)
    (hi : X.N[i]? = some en) (hN : X.N.Nodup) (hl : X.env.scope.names.lookup en = some .local) (hst : X.stack = X.env :: X.outer := by rfl) (hfr : X.env.frame = some X.env.locals := by rfl) (hx : X = X.nox := by rfl)
    (hgi : Gl X ic := by rfl) (hdi : (ic == ("__debug__" : Str)) = false := by decide) :
    DS1 X fl (.Try [st] [.ExceptHandler (some (.Name ic np)) (some en) (b0 :: suite) hpos] [] [] tpos) (sTryU i f cs fS) := by
  intro pins s σ H Dn J h0
  obtain ⟨G, ow, δ, o, R, hf, q⟩ := h0
  obtain ⟨o1, e1, e2⟩ := bind1 hf
  refine wpAny_Try_except ?_
  have one : ∀ (D : Ends) (EX : XK), (tXE X.K X.mg fl f) D EX σ H → (∀ s', SP X pins D .next s' → SP X pins Dn .next s') → (∀ e s', XP fld X pins σ EX e s' → wpAny (model X.prog X.w) X.A (noteFrame e X.env) (fun _ s₂ => wpAny (model X.prog X.w) X.A (setFlight e none) (fun _ s₃ => wpAny (model X.prog X.w) X.A (handleBy e X.env [.ExceptHandler (some (.Name ic np)) (some en) (b0 :: suite) hpos]) (SP X pins Dn) X.xe s₃) X.xe s₂) X.xe s') → (D.rt = fun _ _ => False) → (D.bk = fun _ _ => False) → (D.ct = fun _ _ => False) → wpAny (model X.prog X.w) X.A (execs [st] X.env) (fun f s₁ => match f with | .next => wpAny (model X.prog X.w) X.A (execs [] X.env) (SP X pins Dn) X.xe s₁ | f => SP X pins Dn f s₁)
      (fun e s₁ => wpAny (model X.prog X.w) X.A (noteFrame e X.env) (fun _ s₂ => wpAny (model X.prog X.w) X.A (setFlight e none) (fun _ s₃ => wpAny (model X.prog X.w) X.A (handleBy e X.env [.ExceptHandler (some (.Name ic np)) (some en) (b0 :: suite) hpos]) (SP X pins Dn) X.xe s₃) X.xe s₂) X.xe s₁) s := fun D EX hq hn hxx hD1 hD2 hD3 => by
    refine wpAny_execs_cons (wpAny_mono (h pins s σ H D EX J hq) (fun fl' s1 z => ?_) fun e s1 z => hxx e s1 z)
    cases fl' with
    | next => exact wpAny_execs_nil (wpAny_execs_nil (hn _ z))
    | ret v => obtain ⟨_, _, _, _, _, z⟩ := z; rw [hD1] at z; exact z.elim
    | brk => obtain ⟨_, _, _, z⟩ := z; rw [hD2] at z; exact z.elim
    | cont => obtain ⟨_, _, _, z⟩ := z; rw [hD3] at z; exact z.elim
  split at e2
  · next δ' =>
    cases e2
    refine one { nx := fun σ' H2 => ∃ ow', Rel X.K fl G ow' σ' H2 δ', rt := fun _ _ => False, bk := fun _ _ => False, ct := fun _ _ => False } (fun _ _ _ => False) ⟨G, ow, δ, _, R, e1, fun ow' σ' H' R' => ⟨ow', R'⟩⟩ (fun s' z => ?_) (fun e s' z => ?_) rfl rfl rfl
    · obtain ⟨σ', H', I', ow', R'⟩ := z
      exact ⟨σ', H', I', q ow' _ H' R'⟩
    · obtain ⟨_, _, _, _, _, _, _, _, _, _, _, _, z⟩ := z
      exact z.elim
  · next c d =>
    by_cases hc : c ∈ cs ∧ flat d = true
    case neg => rw [if_neg hc] at e2; cases e2
    rw [if_pos hc] at e2
    obtain ⟨o2, e3, e4⟩ := bind1 e2
    obtain ⟨C, I0, Dc, Ex, hD, hic, hsu⟩ := hcs c hc.1
    refine one { nx := fun σ' H2 => False, rt := fun _ _ => False, bk := fun _ _ => False, ct := fun _ _ => False } (fun u C' H' => C' = some C ∧ Same H H' ∧ ∃ v, RelV v u ∧ RA X.K ok1 true H' v d) ⟨G, ow, δ, _, R, e1, fun C' v u H' mc sm' r' rv => ⟨by rw [Ex.mgC] at mc; cases mc; rfl, sm', v, rv, r'⟩⟩ (fun s' z => ?_) (fun e s' z => ?_) rfl rfl rfl
    · obtain ⟨_, _, _, z⟩ := z; exact z.elim
    · obtain ⟨a, C', dx, T, u, H', rfl, I', Fl, La, Ld, LT, hC, sm, v, rv, rd⟩ := z
      cases hC
      refine inv_note rfl I' hst hfr Fl La Ld (fun T' z => by cases z; exact LT) fun s2 T2 I2 F2 o1 o2 LT2 => ?_
      obtain ⟨vs, sl, w1, _⟩ := F2.obj
      obtain ⟨od, es1, ep1, w2, w3⟩ := F2.dic
      have t1 := hsu a ⟨.ref C, some dx, .fields vs, sl⟩ dx od u v d rfl rfl rfl (fun h' z => ⟨od, es1, ep1, z, w3⟩) rv hc.2
      have li : i < σ.length := by
        rw [I2.len]
        exact (List.getElem?_eq_some_iff.mp hi).1
      refine landU (D := Dc) (i := i) (ts := tUS X.K fl i a v d (fS c d)) I2 F2 La Ld LT2 Ex hD hic hgi hdi hi hN hl fun oa od' ea ed => ?_
      rw [w1] at ea
      rw [w2] at ed
      cases ea
      cases ed
      refine ⟨t1, G, ow, _, _, Rel.forget (R.grow sm) hfi, ⟨List.getElem?_set_self li, RA.flat hc.2 rd, hc.2⟩, e3, ?_⟩
      split at e4
      · cases e4
        exact fun y H2 s2 r2 => q y H2 s2 r2
      · next δ' =>
        cases e4
        exact fun ow' σ' H2 R' _ => q ow' _ H2 (Rel.forget R' hfi)
      · cases e4
  · cases e2
end
structure SuiU (K : PySem.W.Frag) (mg : Str → Option Value) (fld : Addr → Str) (cn f ic : Str) (ts : List (Str × Bool)) : Prop where
  ex : ∃ C I, Exc K mg cn f C I ∧ fld C = f ∧ mg ic = some (.ref I) ∧ KitE K C ∧ AttE K C f ∧ ∀ t ∈ ts, ∃ D, mg t.1 = some (.ref D) ∧ PySem.W.kitOne K (.ref C) (.ref D) = some t.2
def TsK (K : PySem.W.Frag) (mg : Str → Option Value) (C : Addr) (ts : List (Str × Bool)) : Prop := ∀ t ∈ ts, ∃ D, mg t.1 = some (.ref D) ∧ PySem.W.kitOne K (.ref C) (.ref D) = some t.2
theorem tsk_nil {K : PySem.W.Frag} {mg : Str → Option Value} {C : Addr} : TsK K mg C [] := List.forall_mem_nil _
theorem tsk_cons {K : PySem.W.Frag} {mg : Str → Option Value} {C D : Addr} {n : Str} {b : Bool} {ts : List (Str × Bool)} (m : mg n = some (.ref D)) (k : PySem.W.kitOne K (.ref C) (.ref D) = some b) (r : TsK K mg C ts) : TsK K mg C ((n, b) :: ts) := List.forall_mem_cons.mpr ⟨⟨D, m, k⟩, r⟩
theorem suiU_mk {K : PySem.W.Frag} {mg : Str → Option Value} {fld : Addr → Str} {cn f ic : Str} {ts : List (Str × Bool)} {C I : Addr} (E : Exc K mg cn f C I) (hf : fld C = f) (m : mg ic = some (.ref I)) (k : KitE K C) (a : AttE K C f) (t : TsK K mg C ts) : SuiU K mg fld cn f ic ts := ⟨C, I, E, hf, m, k, a, t⟩
theorem SuiU.up {K : PySem.W.Frag} {mg : Str → Option Value} {fld : Addr → Str} {cn f ic : Str} {ts : List (Str × Bool)} (h : SuiU K mg fld cn f ic ts) : ExcG K mg fld cn f ic := by
  obtain ⟨C, I, E, hf, m, _⟩ := h.ex
  exact ⟨C, I, E, hf, m⟩
structure SuK (X : Cx) (f : Str) (ts : List (Str × Bool)) (i : Nat) (n : Str) (a : Addr) (oa : Obj) (dx : Addr) (od : Obj) (v : V) : Prop where
  is : ∀ (t : Str × Bool), t ∈ ts → Gl X t.1 → (t.1 == ("__debug__" : Str)) = false → ∀ p p1 p2 pos, PE (suiteCx X a oa dx od) (.Call (.Name "isinstance" p) [.Name n p1, .Name t.1 p2] [] pos) (tEt i a t.2)
  isv : X.mg "ValueError" = none → Gl X "ValueError" → ∀ p p1 p2 pos, PE (suiteCx X a oa dx od) (.Call (.Name "isinstance" p) [.Name n p1, .Name "ValueError" p2] [] pos) (tEt i a true)
  att : ∀ p1 pos, PE (suiteCx X a oa dx od) (.Attribute (.Name n p1) f pos) (fun σ H Q => σ[i]? = some (some (.ref a)) ∧ Q v H)
section
variable {X : Cx} {fl : List Fl} {fld : Addr → Str} {c f ic n g : Str} {ts : List (Str × Bool)} {i k : Nat} {a dx : Addr} {oa od : Obj} {v : V} {d : D} {b0 : Stmt} {suite : List Stmt} {fS : Str → D → FS} {gp : List Str} {W : List D → Option D}
theorem suiteU_mk {g : D → FS} (up : Bool) (Z : SuiU X.K X.mg fld c f ic ts) (hmi : X.mg "isinstance" = none) (hi : X.N[i]? = some n) (hS : ∀ d, fS c d = g d)
    (hs : ∀ a oa dx od v d C, X.mg c = some (.ref C) → oa.cls = .ref C → oa.dict = some dx → PySem.W.notCls oa = true → SuK X f ts i n a oa dx od v → flat d = true → USs (suiteCx X a oa dx od) fl ⟨i, a, v, d⟩ (b0 :: suite) (g d))
    (hv : Vis X.env.scope n := by first | exact Or.inl rfl | exact Or.inr (Or.inl rfl) | exact Or.inr (Or.inr rfl)) (hgi : Gl X "isinstance" := by rfl)
    (hdn : (n == ("__debug__" : Str)) = false := by decide) (hcn : (n == ("__classdict__" : Str)) = false := by decide)
    (hb : ∀ p1, attributeBase (.Name n p1) f X.env (eval (.Name n p1) X.env) = eval (.Name n p1) X.env := by intro _; rfl) :
    SuiteU X fl fld (if up = true then ic else c) i b0 suite fS c := by
  obtain ⟨C, I0, Ex, hf, mI, Kt, At, hk⟩ := Z.ex
  have main : ∀ (a : Addr) (oa : Obj) (dx : Addr) (od : Obj) (u : Value) (v : V) (d : D), oa.cls = .ref C → oa.dict = some dx → PySem.W.notCls oa = true → (∀ h : Heap, h.get? dx = some od → h.Ns1 dx (fun z => if z = fld C then some u else none)) → RelV v u → flat d = true → USs (suiteCx X a oa dx od) fl ⟨i, a, v, d⟩ (b0 :: suite) (fS c d) := fun a oa dx od u v d hoa hod hnc hdx rv hfd => by
    rw [hS]
    refine hs a oa dx od v d C Ex.mgC hoa hod hnc ⟨fun t ht hg hdb p p1 p2 pos => ?_, fun hmv hgv p p1 p2 pos => ?_, fun p1 pos => ?_⟩ hfd
    · obtain ⟨D, m, ko⟩ := hk t ht
      exact et_own Kt ko hoa hod hnc m hgi hmi hg hi hv hdb hdn hcn
    · exact et_ise (ise_blt (a := a) (oa := oa) (dx := dx) (od := od) (T0 := "ValueError") Ex rfl (by decide) hoa hmv (by decide +kernel) hgi hmi hgv hi hv (by decide) (by decide) hdn hcn)
    · exact att_e At hoa hod hnc (by rw [hf] at hdx; exact hdx) rv hi hv hdn hcn (hb p1)
  cases up with
  | true => exact ⟨C, I0, I0, by rw [hf]; exact Ex, .inr rfl, mI, main⟩
  | false => exact ⟨C, I0, C, by rw [hf]; exact Ex, .inl rfl, Ex.mgC, main⟩
end
end XC
namespace XC
open PySem PySem.Spec PyProof.Rows L2 My D3
structure PreE (a : Addr) (oa : Obj) (dx : Addr) (od : Obj) (A : Around) (outer : List Env) (s : Shared) (H : Hp) : Prop where
  hd : A.handled = some (.ref a)
  ga : s.heap.get? a = some oa
  gd : s.heap.get? dx = some od
  ha : H a = none
  hx : H dx = none
  fa : a ∉ frs outer
  fx : dx ∉ frs outer
  ca : ∀ v, oa.data ≠ .cell v
  cx : ∀ v, od.data ≠ .cell v
section
variable {P : Program} {w : World} {K : PySem.W.Frag} {mg : Str → Option Value} {base : Heap} {N : List Str} {qual : Str} {scope : Scope} {f : Addr} {cd : Value} {A : Around} {outer : List Env} {s : Shared} {H : Hp} {E : XK} {a dx : Addr} {oa od : Obj}
end
def spE (a : Addr) (b : Bool) : Sp := fun vs H Q _ => vs = [.ref a] ∧ Tb H ∧ ∀ H', Same H H' → Q (.bl b) H'
structure HasE (P : Program) (w : World) (K : PySem.W.Frag) (mg : Str → Option Value) (base : Heap) (n : Nat) (x c : Str) (b : Bool) : Prop where
  ex : ∃ (f : Addr) (fd : FuncData) (q : Str) (C : Addr), mg c = some (.ref C) ∧ (∀ a oa dx od, oa.cls = .ref C → oa.dict = some dx → PySem.W.notCls oa = true → FnOkP P w K mg base (PreE a oa dx od) n f fd [q] (spE a b)) ∧ Binds K fd [q] [] ∧ PySem.W.keepIn K (.ref f) = true ∧ mg x = some (.ref f)
theorem FnOkP.mono {P : Program} {w : World} {K : PySem.W.Frag} {mg : Str → Option Value} {base : Heap} {Pre : Around → List Env → Shared → Hp → Prop} {k n : Nat} {f : Addr} {fd : FuncData} {ps : List Str} {sp : Sp} (h : FnOkP P w K mg base Pre k f fd ps sp) (l : k ≤ n) : FnOkP P w K mg base Pre n f fd ps sp :=
  ⟨h.len, fun A outer s H args us vs Q E hr e0 hb r hp hs => h.run A outer s H args us vs Q E (hr.mono l) e0 hb r hp hs⟩
theorem HasE.mono {P : Program} {w : World} {K : PySem.W.Frag} {mg : Str → Option Value} {base : Heap} {k n : Nat} {x c : Str} {b : Bool} (h : HasE P w K mg base k x c b) (l : k ≤ n) : HasE P w K mg base n x c b := by
  obtain ⟨f, fd, q, C, m, F, r⟩ := h.ex
  exact ⟨f, fd, q, C, m, fun a oa dx od h1 h2 h3 => (F a oa dx od h1 h2 h3).mono l, r⟩
section
variable {P : Program} {w : World} {K : PySem.W.Frag} {mg : Str → Option Value} {base : Heap} {x p c : Str} {N : List Str} {st : Stmt} {k n : Nat} {fs : FS} {fl : List Fl} {b : Bool}
end
section
variable {X : Cx} {fl : List Fl} {z : Sc} {e a b : Expr} {rest : List Expr} {f fa fb : FE} {pos : Pos}
theorem ue_one {op : BoolOp} (h : UE X fl z .FC a fa) : UE X fl z .FC (.BoolOp op [a] pos) fa := pe_one h
theorem ue_or (h1 : UE X fl z .FC a fa) (h2 : UE X fl z .FC (.BoolOp .Or (b :: rest) pos) fb) : UE X fl z .FC (.BoolOp .Or (a :: b :: rest) pos) (dOr fa fb) := PE.imp (pe_or h1 h2) fun σ H Q h => by
  obtain ⟨G, ow, δ, d, R, A, hf, q⟩ := h
  obtain ⟨x, e1, e2⟩ := bind1 hf
  refine ⟨G, ow, δ, x, R, A, e1, fun v H1 s1 r1 => ?_⟩
  have r1 : RA X.K ok1 true H1 v x := Rs.B_P (L := []) (Rs.A_B [] (Rs.F_A R (Rs.FC_F R r1)))
  split at e2
  · obtain rfl := RA.blE r1
    cases e2
    exact ⟨true, rfl, iteT (q _ H1 s1 (Rs.of_flat rfl (.bl _)))⟩
  · obtain rfl := RA.blE r1
    exact ⟨false, rfl, iteF ⟨G, ow, δ, d, R.grow s1, A.grow s1, e2, fun u H2 s2 r2 => q u H2 (s1.trans s2) (r2.back s1)⟩⟩
  · cases e2
theorem ue_not (h1 : UE X fl z .FC a fa) : UE X fl z .FC (.UnaryOp .Not a pos) (dNot fa) := PE.imp (pe_not h1) fun σ H Q h => by
  obtain ⟨G, ow, δ, d, R, A, hf, q⟩ := h
  obtain ⟨x, e1, e2⟩ := bind1 hf
  refine ⟨G, ow, δ, x, R, A, e1, fun v H1 s1 r1 => ?_⟩
  have r1 : RA X.K ok1 true H1 v x := Rs.B_P (L := []) (Rs.A_B [] (Rs.F_A R (Rs.FC_F R r1)))
  split at e2
  · obtain rfl := RA.blE r1
    cases e2
    exact ⟨_, rfl, q _ H1 s1 (Rs.of_flat rfl (.bl _))⟩
  · cases e2
theorem At.upd {K : PySem.W.Frag} {i : Nat} {a b : Addr} {v : V} {d : D} {σ : L2.St} {H : Hp} {u o : HO} [cu : Chg u] (h : At K i a v d σ H) (e : H b = some u) : At K i a v d σ (upd H b o) := ⟨h.sl, RA.upd e (fun z => z.elim) h.ra, h.fl⟩
end
def namesOf : List Expr → List Str → Prop
  | [], [] => True
  | .Name n _ :: es, m :: ms => n = m ∧ namesOf es ms
  | _, _ => False
theorem kit_none {K : PySem.W.Frag} {c : Value} : ∀ {Ds : List Addr}, (∀ D ∈ Ds, PySem.W.kitOne K c (.ref D) = some false) → PySem.W.kitAny K c (Ds.map Value.ref) = some false
  | [], _ => rfl
  | D :: Ds, h => by
    rw [List.map_cons, PySem.W.kitAny, h D List.mem_cons_self]
    exact kit_none fun x hx => h x (List.mem_cons_of_mem _ hx)
section
variable {X : Cx} {a C dx : Addr} {oa od : Obj} {i : Nat} {n : Str} {p p1 p2 pos : Pos} {x1 : Nat}
theorem pa_names : ∀ {es : List Expr} {ms : List Str} {ts : List (Str × Bool)}, namesOf es ms → (∀ m ∈ ms, ∃ t ∈ ts, t = (m, false) ∧ Gl X m ∧ (m == ("__debug__" : Str)) = false) → TsK X.K X.mg C ts →
    ∃ Ds : List Addr, Ds.length = ms.length ∧ (∀ D ∈ Ds, PySem.W.kitOne X.K (.ref C) (.ref D) = some false) ∧ PA (suiteCx X a oa dx od) es (fun _ H Q => Q (Ds.map V.ref) H)
  | [], [], _, _, _, _ => ⟨[], rfl, (fun _ h => by cases h), pa_nil⟩
  | .Name n p :: es, m :: ms, ts, ⟨e, h⟩, hm, ht => by
    subst e
    obtain ⟨Ds, l, k, g⟩ := pa_names h (fun m hm' => hm m (List.mem_cons_of_mem _ hm')) ht
    obtain ⟨t, t1, rfl, t2, t3⟩ := hm n List.mem_cons_self
    obtain ⟨D, d1, d2⟩ := ht _ t1
    refine ⟨D :: Ds, by rw [List.length_cons, List.length_cons, l], fun x hx => ?_, PA.imp (pa_cons (pe_glob (X := suiteCx X a oa dx od) (v := .ref D) t2 d1 rfl t3) g (star_of rfl)) fun σ H Q q => q⟩
    rcases List.mem_cons.mp hx with rfl | hx
    · exact d2
    · exact k x hx
end
structure SuT (X : Cx) (ts : List (Str × Bool)) (i : Nat) (n : Str) (a : Addr) (oa : Obj) (dx : Addr) (od : Obj) : Prop where
  is : ∀ (es : List Expr) (ms : List Str) x1, namesOf es ms → (∀ m ∈ ms, ∃ t ∈ ts, t = (m, false) ∧ Gl X m ∧ (m == ("__debug__" : Str)) = false) → ms.length ≤ 1000 → ∀ p p1 p2 pos, PE (suiteCx X a oa dx od) (.Call (.Name "isinstance" p) [.Name n p1, .Tuple es x1 p2] [] pos) (tEt i a false)
  isv : X.mg "ValueError" = none → Gl X "ValueError" → ∀ p p1 p2 pos, PE (suiteCx X a oa dx od) (.Call (.Name "isinstance" p) [.Name n p1, .Name "ValueError" p2] [] pos) (tEt i a true)
section
variable {X : Cx} {fl : List Fl} {fld : Addr → Str} {c f ic n g : Str} {ts : List (Str × Bool)} {i k : Nat} {a dx C : Addr} {oa od : Obj} {v : V} {d : D} {b : Bool}
theorem SuiU.at (Z : SuiU X.K X.mg fld c f ic ts) (hc : X.mg c = some (.ref C)) : (∃ I, Exc X.K X.mg c f C I) ∧ KitE X.K C ∧ TsK X.K X.mg C ts := by
  obtain ⟨C', I0, Ex, hf, mI, Kt, At, hk⟩ := Z.ex
  have := Ex.mgC
  rw [hc] at this
  cases this
  exact ⟨⟨I0, Ex⟩, Kt, hk⟩
theorem suT_mk (Z : SuiU X.K X.mg fld c f ic ts) (hc : X.mg c = some (.ref C)) (hoa : oa.cls = .ref C) (hod : oa.dict = some dx) (hnc : PySem.W.notCls oa = true) (hmi : X.mg "isinstance" = none) (hi : X.N[i]? = some n)
    (hv : Vis X.env.scope n := by first | exact Or.inl rfl | exact Or.inr (Or.inl rfl) | exact Or.inr (Or.inr rfl)) (hgi : Gl X "isinstance" := by rfl)
    (hdn : (n == ("__debug__" : Str)) = false := by decide) (hcn : (n == ("__classdict__" : Str)) = false := by decide) : SuT X ts i n a oa dx od := by
  obtain ⟨⟨I0, Ex⟩, Kt, hk⟩ := Z.at hc
  refine ⟨fun es ms x1 hn hm hl p p1 p2 pos => ?_, fun hmv hgv p p1 p2 pos => ?_⟩
  · obtain ⟨Ds, l, ko, pa⟩ := pa_names (a := a) (oa := oa) (dx := dx) (od := od) hn hm hk
    exact et_tup Kt (kit_none ko) hoa hod hnc pa (by rw [l]; exact Nat.le_trans hl (by decide)) hgi hmi hi hv hdn hcn
  · exact et_ise (ise_blt (a := a) (oa := oa) (dx := dx) (od := od) (T0 := "ValueError") Ex rfl (by decide) hoa hmv (by decide +kernel) hgi hmi hgv hi hv (by decide) (by decide) hdn hcn)
end
section
variable {X : Cx} {fl : List Fl} {c g n : Str} {i k : Nat} {a dx C : Addr} {oa od : Obj} {v : V} {d : D} {b : Bool} {p p1 pos : Pos}
end
end XC
namespace XC
open PySem PySem.Spec PyProof.Rows L2 My D3
theorem PW.nox {X : Cx} {e : Expr} {t : TT} (h : PW X.nox e t) : PW X e t := fun wh pins s σ H Q I hw =>
  wpAny_mono (h wh pins s σ H Q (I.wish _) hw) (fun b s' q => by
    obtain ⟨H', J, q⟩ := q
    exact ⟨H', J.wish _, q⟩) fun _ _ z => z.elim
section
variable {P : Program} {w : World} {K : PySem.W.Frag} {mg : Str → Option Value} {base : Heap} {N : List Str} {qual : Str} {scope : Scope} {fa : Addr} {cdv : Value} {A : Around} {outer : List Env} {s₀ : Shared} {H₀ : Hp} {E : XK} {fld : Addr → Str}
variable {fl : List Fl} {n : Nat} {x : Str} {ps : List Str} {F : List D → Option Or} {e b : Expr} {es rest : List Expr} {fs : FA} {ft : FT} {f g : FX} {body orelse : List Stmt} {p pos pos1 pos2 pos3 : Pos}
end
end XC
namespace D3
open PySem
def xSet (j : Nat) (F : List D → Option Or) (fa : FA) : FX := fun δ => (fa δ).bind fun ds => match F ds with
  | some (.o (.rt d)) => if fl1 d = true ∧ j < δ.length then some (.o (.nx (δ.set j (some (.d d))))) else none
  | some (.ex c d) => some (.ex c d)
  | _ => none
end D3
namespace XC
open PySem PySem.Spec PyProof.Rows L2 My D3
section
variable {P : Program} {w : World} {K : PySem.W.Frag} {mg : Str → Option Value} {base : Heap} {N : List Str} {qual : Str} {scope : Scope} {fa : Addr} {cdv : Value} {A : Around} {outer : List Env} {s₀ : Shared} {H₀ : Hp} {E : XK} {fld : Addr → Str}
variable {fl : List Fl} {n j : Nat} {x y : Str} {ps : List Str} {F : List D → Option Or} {e : Expr} {es : List Expr} {fs : FA} {p yp pos pos2 : Pos}
theorem dx_setE (h : HasX P w K mg base fld n x ps (spX K mg F) []) (hr : Room n (A.deeper (envOfC qual scope s₀.heap.objs.size fa cdv))) (ha : DB (cxOf (CXE P w fld) P w K mg base N qual scope fa cdv A outer s₀ H₀ E).nox fl .P (e :: es) fs)
    (hfl : fl[j]? = some .O) (hN : (cxOf (CXE P w fld) P w K mg base N qual scope fa cdv A outer s₀ H₀ E).N.Nodup) (hj : (cxOf (CXE P w fld) P w K mg base N qual scope fa cdv A outer s₀ H₀ E).N[j]? = some y) (hy : Loc (cxOf (CXE P w fld) P w K mg base N qual scope fa cdv A outer s₀ H₀ E).env.scope y)
    (hg : Gl (cxOf (CXE P w fld) P w K mg base N qual scope fa cdv A outer s₀ H₀ E) x := by rfl) (hdb : (x == ("__debug__" : Str)) = false := by decide)
    (he : starEach (e :: es) (cxOf (CXE P w fld) P w K mg base N qual scope fa cdv A outer s₀ H₀ E).env = (false, eval e (cxOf (CXE P w fld) P w K mg base N qual scope fa cdv A outer s₀ H₀ E).env) :: starEach es (cxOf (CXE P w fld) P w K mg base N qual scope fa cdv A outer s₀ H₀ E).env := by exact star_of rfl) (hpl : (backTo pos (starEach es (cxOf (CXE P w fld) P w K mg base N qual scope fa cdv A outer s₀ H₀ E).env)).any (·.1) = false := by exact pl_of rfl) (hsw : swapsWith (.Call (.Name x p) (e :: es) [] pos) (some (.Name y yp)) pos2.line (cxOf (CXE P w fld) P w K mg base N qual scope fa cdv A outer s₀ H₀ E).env = pure false := by rfl)
    (hyf : (cxOf (CXE P w fld) P w K mg base N qual scope fa cdv A outer s₀ H₀ E).fn y = true ∨ (cxOf (CXE P w fld) P w K mg base N qual scope fa cdv A outer s₀ H₀ E).env.scope.names.lookup y = some .local := by first | exact .inl rfl | exact .inr rfl) :
    DX1 (cxOf (CXE P w fld) P w K mg base N qual scope fa cdv A outer s₀ H₀ E) E fl (.Assign [.Name y yp] (.Call (.Name x p) (e :: es) [] pos) pos2) (xSet j F fs) := by
  intro pins s σ H Dn J h0
  obtain ⟨G, ow, δ, o, R, hf, q⟩ := h0
  obtain ⟨ds, e1, e2⟩ := bind1 hf
  obtain ⟨f, fd, dv, Fo, b, vv, kp, m⟩ := h.ex
  split at e2
  · next d eF =>
    by_cases hc : fl1 d = true ∧ j < δ.length
    case neg => rw [if_neg hc] at e2; cases e2
    rw [if_pos hc] at e2
    cases e2
    refine wpAny_mono (pse_asg (X := (cxOf (CXE P w fld) P w K mg base N qual scope fa cdv A outer s₀ H₀ E)) (dvs := []) (i := j) Fo hr hg m kp b vv ha hN hj hy hdb he hpl hsw hyf pins s σ H { nx := fun σ' H2 => ∃ ow', Rel K fl G ow' σ' H2 (δ.set j (some (.d d))), rt := fun _ _ => False, bk := fun _ _ => False, ct := fun _ _ => False } (fun _ _ _ => False) J ⟨G, ow, δ, ds, R, e1, fun vs H1 sm r => ⟨ds, _, ⟨R.tb.same sm, by rw [List.append_nil]; exact r⟩, eF, fun v H' sm' rv => ?_⟩⟩) (fun fl' s1 z => ?_) fun e s1 z => ?_
    · have rv' : Rs K G.H0 ow H H' .C v d := RA.imp (fun _ z => sm.free z) (fun z => z) rv
      exact R.setO (sm.trans sm') hfl (slot_lt R hc.2) (Rs.FC_F R (Rs.C_fl1 hc.1 rv'))
    · cases fl' with
      | next =>
        obtain ⟨σ', H', I', ow', R'⟩ := z
        exact ⟨_, H', I', q ow' _ H' R'⟩
      | ret v => obtain ⟨_, _, _, _, _, z⟩ := z; exact z.elim
      | brk => obtain ⟨_, _, _, z⟩ := z; exact z.elim
      | cont => obtain ⟨_, _, _, z⟩ := z; exact z.elim
    · obtain ⟨_, _, _, _, _, _, _, _, _, _, _, _, z⟩ := z
      exact z.elim
  · next c d eF =>
    cases e2
    refine wpAny_mono (pse_asg (X := (cxOf (CXE P w fld) P w K mg base N qual scope fa cdv A outer s₀ H₀ E)) (dvs := []) (i := j) Fo hr hg m kp b vv ha hN hj hy hdb he hpl hsw hyf pins s σ H { nx := fun σ' H2 => False, rt := fun _ _ => False, bk := fun _ _ => False, ct := fun _ _ => False } E J ⟨G, ow, δ, ds, R, e1, fun vs H1 sm r => ⟨ds, _, ⟨R.tb.same sm, by rw [List.append_nil]; exact r⟩, eF, fun C' v u H' mc sm' r' rv => q C' v u H' mc (R.same0.trans (sm.trans sm')) r' rv⟩⟩) (fun fl' s1 z => ?_) fun e s1 z => ?_
    · cases fl' with
      | next => obtain ⟨_, _, _, z⟩ := z; exact z.elim
      | ret v => obtain ⟨_, _, _, _, _, z⟩ := z; exact z.elim
      | brk => obtain ⟨_, _, _, z⟩ := z; exact z.elim
      | cont => obtain ⟨_, _, _, z⟩ := z; exact z.elim
    · obtain ⟨a, C', dx, T, u, H', rfl, I', Fl, La, Ld, LT, z⟩ := z
      exact xe_of I' Fl La Ld (fun T' y => by cases y; exact LT) z
  · cases e2
end
end XC
namespace XC
open PySem PySem.Spec PyProof.Rows L2 My
section
variable {M : Model} {A : Around} {E : Value → Shared → Prop} {s : Shared}
theorem entry_N {base : Heap} {env : Env} {outer : List Env} {L a : Addr} {oe : Obj} {vs : Array Value} {head : Value} {hn : Bool} {E2 : Value → Shared → Prop}
    (hfr : A.frames = some (env :: outer)) (hl : s.heap.FunFrames base (env :: outer)) (hf : env.frame = some L) (he : s.heap.get? a = some oe) (hd : oe.data = .fields vs) (hsz : 1 < vs.size)
    (h : ∀ h' T, s.heap.objs.size ≤ T → h'.get? a = some (oe.mapFields (·.setIfInBounds 1 (.ref T))) → (∃ oT ts, h'.get? T = some oT ∧ oT.data = .fields ts ∧ ts[3]? = some (rawInt L)) →
      (∀ b o, b ≠ a → b ∉ frs (env :: outer) → s.heap.get? b = some o → h'.get? b = some o) → (∀ b o, b ≠ a → s.heap.get? b = some o → ∃ sl, h'.get? b = some { o with slots := sl }) → E2 (.ref a) { s with heap := h' }) :
    wpAny M A (do let z ← frameOf env; let pl ← entryPlaceOf L hn; let b ← EntryCells.newEntry head z .none (rawInt L) .none pl; setField (.ref a) 1 b) (fun _ s' => E2 (.ref a) s') E s := by
  have nf : a ∉ (env :: outer).filterMap (·.frame) := fun z => by
    obtain ⟨_, o, ho, q⟩ := hl.mem z
    rw [he] at ho
    cases ho
    exact q vs hd
  refine wpAny_bind (wpAny_frameOf_fun hfr hl hf fun h1 hs => ?_)
  refine wpAny_bind (wpAny_entryPlaceOf fun pl hpl => ?_)
  unfold EntryCells.newEntry newFields
  refine wpAny_bind (wpAny_newObj_type ?_ (hpl.sizeOk5 _ _ _ _ _))
  obtain ⟨ob, eob⟩ : ∃ ob : Obj, ob = { cls := .type "traceback", dict := none, data := .fields ([head, .ref L, .none, rawInt L, .none] ++ (if pl.isEmpty then List.replicate 6 Value.none else pl)).toArray } := ⟨_, rfl⟩
  rw [← eob]
  have od : ob.data = .fields ([head, .ref L, .none, rawInt L, .none] ++ (if pl.isEmpty then List.replicate 6 Value.none else pl)).toArray := by rw [eob]
  have ofr : ob.isFreed = false := by rw [eob]; rfl
  have a1 : h1.get? a = some oe := (hs.2.1 a nf).trans he
  have a2 : (h1.push ob).get? a = some oe := Heap.get?_push_of_some _ a1
  refine wpAny_setField a2 hd hsz ?_
  have sz : h1.objs.size = s.heap.objs.size := hs.1
  have ne : h1.objs.size ≠ a := Nat.ne_of_gt (Heap.lt_size a1)
  have d3 := Obj.data_mapFields hd (·.setIfInBounds 1 (Value.ref h1.objs.size))
  obtain ⟨h3, e3⟩ : ∃ h3, h3 = (h1.push ob).update a (Obj.mapFields (·.setIfInBounds 1 (Value.ref h1.objs.size))) := ⟨_, rfl⟩
  rw [← e3]
  have a3 : h3.get? a = some (oe.mapFields (·.setIfInBounds 1 (.ref h1.objs.size))) := by
    rw [e3]; exact Heap.get?_update_self _ a2 (Obj.isFreed_of_fields d3)
  have t3 : h3.get? h1.objs.size = some ob := by
    rw [e3]; exact (Heap.get?_update_other _ _ ne.symm).trans (Heap.get?_push_size h1 ofr)
  have o3 : ∀ b, b ≠ a → b ≠ h1.objs.size → h3.get? b = h1.get? b := fun b z1 z2 => by
    rw [e3, Heap.get?_update_other _ _ (Ne.symm z1)]
    exact Heap.get?_push_ne _ _ _ z2
  refine h h3 h1.objs.size (Nat.le_of_eq sz.symm) a3 ⟨ob, _, t3, od, ?_⟩ (fun b o z1 z2 q => ?_) fun b o z1 q => ?_
  · rcases hpl with rfl | ⟨_, _, _, _, _, _, _, rfl⟩ <;> simp
  · have q1 : h1.get? b = some o := (hs.2.1 b z2).trans q
    have z3 : b ≠ h1.objs.size := Nat.ne_of_lt (Heap.lt_size q1)
    exact (o3 b z1 z3).trans q1
  · obtain ⟨sl, q1⟩ := hs.2.2 b o q
    have z3 : b ≠ h1.objs.size := Nat.ne_of_lt (Heap.lt_size q1)
    exact ⟨sl, (o3 b z1 z3).trans q1⟩
theorem note_N {base : Heap} {env : Env} {outer : List Env} {L a C dx : Addr} {f : Str} {u : Value} {tb : Option Addr} {E2 : Value → Shared → Prop}
    (hfr : A.frames = some (env :: outer)) (hl : s.heap.FunFrames base (env :: outer)) (hf : env.frame = some L) (F : Fly s.heap a C dx f u tb) (nd : dx ∉ frs (env :: outer))
    (h : ∀ h' T, s.heap.objs.size ≤ T → FlyN h' a C dx f u T L → (∀ b o, b ≠ a → tb ≠ some b → b ∉ frs (env :: outer) → s.heap.get? b = some o → h'.get? b = some o) →
      (∀ b o, b ≠ a → tb ≠ some b → s.heap.get? b = some o → ∃ sl, h'.get? b = some { o with slots := sl }) → E2 (.ref a) { s with heap := h' }) :
    wpAny M A (noteFrame (.ref a) env) (fun _ s' => E2 (.ref a) s') E s := by
  obtain ⟨⟨vs, sl, ea, e1⟩, hdic, hne, hhd⟩ := F
  have hsz : 1 < vs.size := (Array.getElem?_eq_some_iff.mp e1).1
  have dlt : dx < s.heap.objs.size := by
    obtain ⟨o, _, _, q, _⟩ := hdic
    exact Heap.lt_size q
  unfold noteFrame
  simp only [hf]
  cases tb with
  | none =>
    refine wpAny_bind (wpAny_field ea rfl e1 ?_)
    rw [if_neg (by decide)]
    refine entry_N hfr hl hf ea rfl hsz fun h' T hT q1 q2 q3 q4 => h h' T hT ⟨⟨_, sl, q1, by simp [hsz]⟩, ?_, hne, ?_⟩ (fun b o z1 _ z2 z3 => q3 b o z1 z2 z3) fun b o z1 _ z2 => q4 b o z1 z2
    · obtain ⟨o, es, ep, r1, r2⟩ := hdic
      exact ⟨o, es, ep, q3 dx o hne nd r1, r2⟩
    · refine ⟨fun z => ?_, fun z => ?_, q2⟩
      · rw [z] at hT
        exact absurd (Heap.lt_size ea) (Nat.not_lt.mpr hT)
      · rw [z] at hT
        exact absurd dlt (Nat.not_lt.mpr hT)
  | some T =>
    obtain ⟨Ta, Td, oT, ts, t1, t2, t3⟩ := hhd T rfl
    refine wpAny_bind (wpAny_field ea rfl e1 ?_)
    rw [if_pos (show ((Option.elim (some T) Value.none Value.ref) != Value.none) = true by simp)]
    refine wpAny_bind (wpAny_field t1 t2 t3 ?_)
    rw [if_neg (show ¬ ((Value.none == rawInt L) = true) by simp [rawInt])]
    refine wpAny_bind (wpAny_setField t1 t2 (Array.getElem?_eq_some_iff.mp t3).1 ?_)
    obtain ⟨h2, e2⟩ : ∃ h2, h2 = s.heap.update T (Obj.mapFields (·.setIfInBounds 3 Value.none)) := ⟨_, rfl⟩
    rw [← e2]
    have o2 : ∀ b, b ≠ T → h2.get? b = s.heap.get? b := fun b z => by rw [e2]; exact Heap.get?_update_other _ _ (Ne.symm z)
    have sz2 : h2.objs.size = s.heap.objs.size := by rw [e2]; exact Heap.size_update ..
    have nT : T ∉ frs (env :: outer) := fun z => by
      obtain ⟨_, o, ho, q⟩ := hl.mem z
      rw [t1] at ho
      cases ho
      exact q ts t2
    have hl2 : h2.FunFrames base (env :: outer) := hl.of_keeps fun b o hb q => ⟨o, (o2 b fun z => by rw [z, t1] at hb; cases hb; exact q ts t2).trans hb, rfl⟩
    refine entry_N (s := { s with heap := h2 }) hfr hl2 hf ((o2 a (Ne.symm Ta)).trans ea) rfl hsz fun h' T' hT q1 q2 q3 q4 => h h' T' (by rw [← sz2]; exact hT) ⟨⟨_, sl, q1, by simp [hsz]⟩, ?_, hne, ?_⟩
      (fun b o z1 z0 z2 z3 => q3 b o z1 z2 ((o2 b fun z => z0 (by rw [z])).trans z3)) fun b o z1 z0 z2 => q4 b o z1 ((o2 b fun z => z0 (by rw [z])).trans z2)
    · obtain ⟨o, es, ep, r1, r2⟩ := hdic
      exact ⟨o, es, ep, q3 dx o hne nd ((o2 dx (Ne.symm Td)).trans r1), r2⟩
    · have hT : s.heap.objs.size ≤ T' := by rw [← sz2]; exact hT
      refine ⟨fun z => ?_, fun z => ?_, q2⟩
      · rw [z] at hT
        exact absurd (Heap.lt_size ea) (Nat.not_lt.mpr hT)
      · rw [z] at hT
        exact absurd dlt (Nat.not_lt.mpr hT)
end
section
variable {X : Cx} {pins : List (Addr × Obj)} {σ : L2.St} {H H' : Hp} {s : Shared}
theorem inv_noteN {M : Model} {A : Around} {E : Value → Shared → Prop} {a C dx : Addr} {f : Str} {u : Value} {tb : Option Addr} {E2 : Value → Shared → Prop} (hA : A.frames = X.A.frames) (I : Inv X pins σ H s) (hst : X.stack = X.env :: X.outer) (hfr : X.env.frame = some X.env.locals)
    (F : Fly s.heap a C dx f u tb) (La : Loose X pins H a) (Ld : Loose X pins H dx) (Lt : ∀ T, tb = some T → Loose X pins H T)
    (h : ∀ s' T, Inv X pins σ H s' → FlyN s'.heap a C dx f u T X.env.locals → s'.os = s.os → s'.gens = s.gens → Loose X pins H T → (∀ b o, b ≠ a → tb ≠ some b → b ∉ X.env.locals :: X.fs → s.heap.get? b = some o → s'.heap.get? b = some o) → E2 (.ref a) s') :
    wpAny M A (noteFrame (.ref a) X.env) (fun _ s' => E2 (.ref a) s') E s := by
  have fl := I.stack
  rw [hst] at fl
  have fe : frs (X.env :: X.outer) = X.env.locals :: X.fs := by unfold frs; rw [List.filterMap_cons, hfr]; rfl
  refine note_N (hA.trans (I.ok.frames.trans (by rw [hst]))) fl hfr F (by rw [fe]; exact Ld.nofs I) fun h' T hT F' k1 k2 => ?_
  have LT : Loose X pins H T := Loose.of I hT (I.hok.fresh hT)
  rw [fe] at k1
  refine h _ T ?_ F' rfl rfl LT k1
  have ex : ∀ b, H b ≠ none → b ≠ a ∧ tb ≠ some b ∧ b ∉ X.env.locals :: X.fs := fun b hb => by
    refine ⟨fun z => hb (by rw [z]; exact La.out), fun z => hb (Lt b z).out, fun z => hb ?_⟩
    exact I.stkFree b (by rw [hst, fe]; exact z)
  obtain ⟨m, ⟨o, es, ep, ho, r⟩, _⟩ := id I.loc
  obtain ⟨sl, hL⟩ := k2 _ o (Ne.symm La.loc) (fun z => (Lt _ z).loc rfl) ho
  refine I.step (g' := s.gens) (d' := s.drawn) (t' := s.toks) (ch := a :: tb.toList) (fun b hb => ?_) (fun b o z1 z2 z3 q _ => k1 b o (fun z => z3 (by rw [z]; exact List.mem_cons_self)) (fun z => z3 (List.mem_cons_of_mem _ (by rw [z]; exact List.mem_singleton.mpr rfl))) (fun z => (List.mem_cons.mp z).elim z1 z2) q)
    (fun b o z1 z2 z3 q _ => k2 b o (fun z => z3 (by rw [z]; exact List.mem_cons_self)) (fun z => z3 (List.mem_cons_of_mem _ (by rw [z]; exact List.mem_singleton.mpr rfl))) q) (fun _ _ _ _ z => z)
    (fun b o z3 q => let ⟨_, w⟩ := k2 b o (fun z => z3 (by rw [z]; exact List.mem_cons_self)) (fun z => z3 (List.mem_cons_of_mem _ (by rw [z]; exact List.mem_singleton.mpr rfl))) q; ⟨_, w⟩) (fun _ _ e => e) (fun _ _ _ e => e) (fun _ _ _ e => e) (fun m' hm => ?_) (fun b w e => ?_) I.bare
  · rcases List.mem_cons.mp hb with e | e
    · rw [e]; exact ⟨.inr La.new, La.loc, La.cel, La.pin⟩
    · cases tb with
      | none => cases e
      | some T0 =>
        have e : b = T0 := by simpa using e
        have := Lt T0 rfl
        rw [e]; exact ⟨.inr this.new, this.loc, this.cel, this.pin⟩
  · obtain ⟨o', es', ep', ho', r'⟩ := hm
    rw [ho] at ho'; cases ho'
    exact ⟨_, es', ep', hL, r'⟩
  · refine (I.hok b w e).stay (fun c v hc q => ?_) (fun _ q => q) fun _ _ q => q
    obtain ⟨z1, z2, z3⟩ := ex c (by
      rcases hc with z | z
      · rw [z, e]; simp
      · rw [z]; simp)
    exact k1 c v z1 z2 z3 q
end
end XC
namespace XC
open PySem PySem.Spec PyProof.Rows L2 My D3
theorem compLoop_goE {prog : Program} {w : World} {A : Around} {R : Result → Shared → Prop} {elt target iter : Expr} {scope : Scope} {pos : Pos} {it acc : Value} {env : Env} {s : Shared} (I : Nat → Shared → Prop)
    (turn : ∀ n s, I n s → wpAny (model prog w) A (pyNext it) (fun r s₁ => match r with
      | none => R (.ok .next) s₁
      | some v => wpAny (model prog w) A (letOwnedTupleGo target it v) (fun _ s₁' => wpAny (model prog w) A (assign target env v) (fun _ s₂ =>
          wpAny (model prog w) A (eval elt env) (fun x s₄ =>
              wpAny (model prog w) A (call (.builtin "list.append") [acc, x]) (fun _ s₅ => ∃ m, m < n ∧ I m s₅) (fun _ _ => False) s₄) (notedBy (model prog w) A env fun e s' => R (.error e) s') s₂) (fun _ _ => False) s₁') (fun _ _ => False) s₁) (fun _ _ => False) s)
    (n : Nat) (h : I n s) :
    codeAny (model prog w) A (.compLoop (.ListComp elt [⟨target, iter, [], 0⟩] scope pos) 0 it acc env) R s := by
  refine codeAny_loop rfl I (fun n s hI => ?_) n h
  show wpAny _ A ((compTurn (.ListComp elt [⟨target, iter, [], 0⟩] scope pos) 0 it acc env).onRaise (fun x => do noteFrame x env; theTreesLotGoes x)) _ _ s
  refine wpAny_noted ?_
  rw [compTurn_list]
  refine wpAny_bind (wpAny_standAt (wpAny_bind (wpAny_mono (turn n s hI) (fun r s₁ h₁ => ?_) fun _ _ h' => h'.elim)))
  cases r with
  | none => exact wpAny_pure h₁
  | some v =>
    refine wpAny_bind (wpAny_mono h₁ (fun _ s₁' h₁' => ?_) fun _ _ h' => h'.elim)
    refine wpAny_bind (wpAny_mono h₁' (fun _ s₂ h₂ => wpAny_bind (wpAny_tests_nil ?_)) fun _ _ h' => h'.elim)
    exact wpAny_bind (wpAny_bind (wpAny_mono h₂ (fun x s₄ h₄ => wpAny_bind (wpAny_mono h₄ (fun _ s₅ h₅ => wpAny_pure (wpAny_pure ⟨rfl, h₅⟩)) fun _ _ h' => h'.elim)) fun _ _ h' => h'))
abbrev TEE := L2.St → Hp → VK → XK → Prop
def PEE (fld : Addr → Str) (X : Cx) (e : Expr) (t : TEE) : Prop := ∀ (pins : List (Addr × Obj)) (s : Shared) (σ : L2.St) (H : Hp) (Q : VK) (EX : XK), Inv X pins σ H s → t σ H Q EX →
  wpAny (model X.prog X.w) X.A (eval e X.env) (EP X pins σ Q) (XP fld X pins σ EX) s
def XPN (fld : Addr → Str) (X : Cx) (pins : List (Addr × Obj)) (σ : L2.St) (EX : XK) (e : Value) (s' : Shared) : Prop := ∃ (a C dx T : Addr) (u : Value) (H' : Hp), e = .ref a ∧ Inv X pins σ H' s' ∧ FlyN s'.heap a C dx (fld C) u T X.env.locals ∧ Loose X pins H' a ∧ Loose X pins H' dx ∧ Loose X pins H' T ∧ EX u (some C) H'
def tCompE (wi : TI) (g : TG) (te : TEE) (t : Nat) (cap : L2.St → L2.St) : TEE := fun σ H Q EX => wi σ H fun J H1 => ∀ D, H1 D = none → ∃ W : Nat → Nat → List V → Hp → Prop, (∃ m, W 0 m [] (upd H1 D (.lst []))) ∧
  ∀ i m xs H2, W i m xs H2 → H2 D = some (.lst xs) ∧ ((J.stop i H2 ∧ Q (.ref D) H2) ∨ (J.go i H2 ∧ xs.length < sizeLine ∧ ∀ x H3, J.yld i H2 x H3 → g x (cap σ) H3 fun σ4 H4 => σ4.drop t = (cap σ).drop t ∧
    te σ4 H4 (fun v H6 => H6 D = some (.lst xs) ∧ ∃ m', m' < m ∧ W (i + 1) m' (xs ++ [v]) (upd H6 D (.lst (xs ++ [v])))) EX))
section
variable {X : Cx} {elt tg iter : Expr} {scope : Scope} {pos : Pos} {T : List Str} {wi : TI} {g : TG} {te : TEE} {fld : Addr → Str}
theorem pee_comp0 (hx : ∀ e s, X.xe e s → False) (hc : X.calm = true) (hst : X.stack = X.env :: X.outer) (hfr0 : X.env.frame = some X.env.locals) (T : List Str) (hi : PI X tg iter wi)
    (hg : ∀ cl C s3 H3 fp, PG (blk X (T ++ []) scope cl C s3 H3 fp) tg g) (he : ∀ cl C s3 H3 fp, PEE fld (blk X (T ++ []) scope cl C s3 H3 fp) elt te)
    (hrel : relabel scope X.env = scope) (hcl : clGo X.env scope.names [] = []) (hk : scope.kind = .function) (hcell : ∀ y ∈ scope.names, y.2 ≠ .cell) (hnames : ∀ x ∈ scope.names, x.2 = .local → scope.names.lookup x.1 = some .local)
    (hnf : ∀ x ∈ scope.names, x.2 ≠ .free) (hs : ∀ x, foldedSetIterable iter X.env x = pure x := by intro _; rfl) {pins : List (Addr × Obj)} {s : Shared} {σ : L2.St} {H : Hp} {Q : VK} {EX : XK} (I : Inv X pins σ H s) (h : tCompE wi g te T.length (capσ T.length []) σ H Q EX) :
    wpAny (model X.prog X.w) X.A (eval (.ListComp elt [⟨tg, iter, [], 0⟩] scope pos) X.env) (EP X pins σ Q) (XPN fld X pins σ EX) s := by
  rw [eval_ListComp]
  have hB : capB X.N X.env.scope.names scope.names [] [] = true := rfl
  have hfr : ∀ x ∈ scope.names, x.2 = .free → x.1 ∈ ([] : List Str) := fun x hx e => absurd e (hnf x hx)
  refine wpAny_comprehension rfl hs hnf hk hnames ?_
  refine wpAny_mono (hi pins s σ H _ I h) (fun v s1 h1 => wpAny_mono h1 (fun itv s2 h2 => ?_) fun _ _ z => (hx _ _ z).elim) fun _ _ z => (hx _ _ z).elim
  obtain ⟨it, fp, tn, J, H2, e, I2, Tn, st2, f2, R⟩ := h2
  subst e
  refine wpAny_newObj_type (hd := by size_fits) ?_
  have hD : H2 s2.heap.objs.size = none := I2.hok.fresh (Nat.le_refl _)
  have I3 : Inv X pins σ (upd H2 s2.heap.objs.size (.lst [])) { s2 with heap := s2.heap.push { cls := .type "list", dict := none, data := .seq ([] : List Value).toArray } } :=
    I2.laid (t' := s2.toks) (fun b o e => Heap.get?_push_of_some _ e) (Nat.le_refl _) ⟨Nat.zero_le _, [], 0, .nil, Heap.get?_push_size _ rfl⟩
  obtain ⟨W, ⟨m0, w0⟩, turn⟩ := R s2.heap.objs.size hD
  generalize hs3 : ({ s2 with heap := s2.heap.push { cls := .type "list", dict := none, data := .seq ([] : List Value).toArray } } : Shared) = s3 at I3 ⊢
  have st3 : tn 0 s3.heap := by
    rw [← hs3]
    exact Tn.keep 0 s2.heap _ st2 fun b hb o e => Heap.get?_push_of_some _ e
  have f3 : ∀ b ∈ fp, FpOk X pins (upd H2 s2.heap.objs.size (.lst [])) b := fun b hb => by
    obtain ⟨z0, z1⟩ := f2 b hb
    refine ⟨?_, z1⟩
    obtain ⟨o, eo, _⟩ := Tn.obj 0 _ st2 b hb
    rw [upd_ne (Nat.ne_of_lt (Heap.lt_size eo))]
    exact z0
  generalize hH3 : upd H2 s2.heap.objs.size (.lst []) = H3 at I3 f3 w0
  generalize hDn : s2.heap.objs.size = D at turn
  refine wpAny_newFunctionEnv hcell (by intro y hy; simp at hy) (fun h₁ hns₁ hsb₁ => ?_) hk
  have keep : ∀ b o, s3.heap.get? b = some o → h₁.get? b = some o := fun b o e => hsb₁.extBut b o (Nat.ne_of_lt (Heap.lt_size e)) (Heap.get?_push_of_some _ e)
  have I4 := inv_block (T := T) (tk := s3.toks + ([] : List (Str × Value)).length) I3 f3 (fun b hb => let ⟨o, eo, _⟩ := Tn.obj 0 _ st3 b hb; ⟨o, eo⟩) hk hcell hfr hB hns₁ keep
  have st4 : tn 0 h₁ := Tn.keep 0 _ _ st3 fun b hb o e => keep b o e
  have henv : compEnvC scope (clGo X.env scope.names []) s3.heap.objs.size X.env = { newEnv scope s3.heap.objs.size X.env.globals [] X.env.qual none Value.none (some X.env) builtinsNs with scope := scope } := by
    rw [hcl]
    unfold compEnvC
    rw [hrel]
    rfl
  have hfrm : (compEnvC scope (clGo X.env scope.names []) s3.heap.objs.size X.env).frame = X.env.frame := rfl
  rw [← henv]
  refine (fun loop => codeAny_compStart_list loop (Tn.self _ 0 _ _ _ st4 loop)) ?_
  refine compLoop_goE (fun n s' => ∃ i xs H', Inv (blk X (T ++ []) scope (clGo X.env scope.names []) s3.heap.objs.size s3 H3 fp) pins (capσ T.length [] σ) H' s' ∧ tn i s'.heap ∧ (∀ b ∈ fp, H' b = none) ∧ W i n xs H') ?_ m0
    ⟨0, [], H3, I4, st4, fun b hb => (f3 b hb).1, w0⟩
  rintro n s5 ⟨i, xs, H5, I5, st5, fr5, w5⟩
  have stat : ∀ {H' : Hp} {pins' : List (Addr × Obj)} {σ' : L2.St} {s' : Shared}, Inv (blk X (T ++ []) scope (clGo X.env scope.names []) s3.heap.objs.size s3 H3 fp) pins σ' H' s' → (∀ b ∈ fp, H' b = none) → ∀ b ∈ fp, FpOk (blk X (T ++ []) scope (clGo X.env scope.names []) s3.heap.objs.size s3 H3 fp) pins H' b := fun I' hn b hb => by
    obtain ⟨x1, x2⟩ := I'.ok.exf b hb
    refine ⟨hn b hb, x1, I'.ok.exfs b hb, .inl hb, x2, fun q hq => ?_⟩
    exact (f3 b hb).2.2.2.2.2 q hq
  obtain ⟨hD5, r5⟩ := turn i n xs H5 w5
  rcases r5 with ⟨stop, q⟩ | ⟨go, hz, step⟩
  · refine thn (Tn.done (blk X (T ++ []) scope (clGo X.env scope.names []) s3.heap.objs.size s3 H3 fp) rfl rfl rfl hc i pins s5 _ H5 _ I5 (stat (pins' := pins) I5 fr5) st5 stop) fun r s6 ⟨hr, I6⟩ => ?_
    subst hr
    obtain ⟨Ib, fC⟩ := My.inv_back I3 f3 I6
    obtain ⟨m, hn, _⟩ := I6.loc
    refine ⟨m, hn, fun h' sb => ⟨.ref D, H5, ?_, rfl, q⟩⟩
    obtain ⟨z0, z1, z2, z3, z4, z5⟩ := fC
    exact Ib.turned (t' := s6.toks) (fun b o hb e => sb.extBut b o hb e) z0 z1 z3 z4 z5
  · refine thn (Tn.item (blk X (T ++ []) scope (clGo X.env scope.names []) s3.heap.objs.size s3 H3 fp) rfl rfl rfl hc i pins s5 _ H5 _ I5 (stat (pins' := pins) I5 fr5) st5 go) fun r s6 ⟨u, hr, h6⟩ => ?_
    subst hr
    refine thn h6 fun _ s7 ⟨x, H7, I7, rx, y7, st7, fr7⟩ => ?_
    have I7' := I7.pinned (stat (pins' := pins) I7 fr7) (Tn.obj _ _ st7)
    refine thn (hg _ _ _ _ _ _ s7 _ H7 x u _ I7' rx (step x H7 y7)) fun _ s8 ⟨σ8, H8, I8, k8, q8⟩ => ?_
    have again : ∀ {H9 : Hp} {s9 : Shared}, Inv (blk X (T ++ []) scope (clGo X.env scope.names []) s3.heap.objs.size s3 H3 fp) (pins ++ pinsAt fp s7.heap) σ8 H9 s9 →
        Inv (blk X (T ++ []) scope (clGo X.env scope.names []) s3.heap.objs.size s3 H3 fp) pins (capσ T.length [] σ) H9 s9 ∧ tn (i + 1) s9.heap ∧ ∀ b ∈ fp, H9 b = none := fun {H9 s9} I9 => by
      refine ⟨Inv.forget I9.unpinned I4.len fun j v e => ?_, Tn.keep _ _ _ st7 fun b hb o e => (I9.pin (b, o) (List.mem_append_right _ (List.mem_append_right _ (mem_pinsAt hb e)))).1, fun b hb => ?_⟩
      · by_cases hj : j < T.length
        · have e' : (List.replicate T.length none ++ ([] : List Nat).map fun j => (σ[j]?).getD none)[j]? = some (some v) := e
          rw [List.getElem?_append_left (by rw [List.length_replicate]; exact hj), List.getElem?_replicate, if_pos hj] at e'
          exact absurd e' (by simp)
        · have ej : j = T.length + (j - T.length) := by omega
          rw [ej, ← List.getElem?_drop] at e ⊢
          rw [k8]
          exact e
      · obtain ⟨o, e, d⟩ := Tn.obj _ _ st7 b hb
        exact (I9.pin (b, o) (List.mem_append_right _ (List.mem_append_right _ (mem_pinsAt hb e)))).2.1
    refine wpAny_mono (he _ _ _ _ _ _ s8 σ8 H8 _ _ I8 q8) (fun y s10 z => ?_) fun e s10 z => ?_
    · obtain ⟨v, H10, I10, ry, hD10, m', lm, w10⟩ := z
      refine thn (mt_append _ s10 σ8 H10 (.ref D) [v] (.ref D) [y] (fun _ Hn => Hn = upd H10 D (.lst (xs ++ [v]))) I10 rfl (.cons ry .nil) ⟨D, xs, v, rfl, rfl, hD10, hz, rfl⟩) fun _ s11 ⟨_, H11, I11, _, e11⟩ => ?_
      subst e11
      obtain ⟨a1, a2, a3⟩ := again I11
      exact ⟨m', lm, i + 1, _, _, a1, a2, a3, w10⟩
    · obtain ⟨a, C, dx, T0, uu, H10, rfl, I10, Fl, La, Ld, LT, q⟩ := z
      obtain ⟨Ib, fC⟩ := My.inv_back I3 f3 I10
      have la : Loose X pins H10 a := Loose.of I3 La.new La.out
      have ld : Loose X pins H10 dx := Loose.of I3 Ld.new Ld.out
      have lt : Loose X pins H10 T0 := Loose.of I3 LT.new LT.out
      obtain ⟨m, hn, _⟩ := id I10.loc
      show wpAny (model X.prog X.w) X.A (noteFrame (.ref a) X.env) _ _ s10
      refine wpAny_mono (inv_noteN (E := fun _ _ => False) (E2 := fun _ s' => ∃ T1, Inv X pins σ H10 s' ∧ FlyN s'.heap a C dx (fld C) uu T1 X.env.locals ∧ Loose X pins H10 T1 ∧ ∀ b o, b ≠ a → some T0 ≠ some b → b ∉ X.env.locals :: X.fs → s10.heap.get? b = some o → s'.heap.get? b = some o) rfl Ib hst hfr0 Fl la ld (fun T' z => by cases z; exact lt) fun s' T1 I' F' o1 o2 L1 kp => ⟨T1, I', F', L1, kp⟩) (fun _ s' z => ?_) fun _ _ z => z.elim
      obtain ⟨T1, I', F', L1, kp⟩ := z
      have kC : ∀ o, s10.heap.get? s3.heap.objs.size = some o → s'.heap.get? s3.heap.objs.size = some o := fun o e => kp _ o (fun z => La.loc z.symm) (fun z => LT.loc (Option.some.inj z)) (fun z => by
        rcases List.mem_cons.mp z with z | z
        · exact absurd I3.lt (by rw [← z]; exact Nat.lt_irrefl _)
        · exact I3.nofs (Nat.le_refl _) z) e
      have hn' : s'.heap.Ns s3.heap.objs.size m := by
        obtain ⟨o, es, ep, r1, r2⟩ := hn
        exact ⟨o, es, ep, kC o r1, r2⟩
      refine ⟨m, hn', fun h' sb => ?_⟩
      obtain ⟨z0, z1, z2, z3, z4, z5⟩ := id fC
      have I2' : Inv X pins σ H10 { s' with heap := h' } := I'.turned (t' := s'.toks) (fun b o hb e => sb.extBut b o hb e) z0 z1 z3 z4 z5
      have up : ∀ b o, b ≠ s3.heap.objs.size → s'.heap.get? b = some o → h'.get? b = some o := fun b o hb e => sb.extBut b o hb e
      obtain ⟨⟨vs, sl, ea, e1⟩, ⟨o5, es5, ep5, r5, r6⟩, hne, Ta, Td, oT, ts, t1, t2, t3⟩ := id F'
      have nT : T1 ≠ s3.heap.objs.size := fun z => by
        obtain ⟨o, es, ep, r1, r2, _⟩ := hn'
        rw [z] at t1
        rw [r1] at t1
        cases t1
        rw [r2] at t2
        cases t2
      have F2 : FlyN h' a C dx (fld C) uu T1 X.env.locals := ⟨⟨vs, sl, up a _ La.loc ea, e1⟩, ⟨o5, es5, ep5, up dx _ Ld.loc r5, r6⟩, hne, Ta, Td, oT, ts, up T1 _ nT t1, t2, t3⟩
      show wpAny (model X.prog X.w) X.A (PySem.passOn "comprehension.variables-let-go" (.ref a) (compEnvC scope (clGo X.env scope.names []) s3.heap.objs.size X.env)) _ _ _
      unfold PySem.passOn
      refine wpAny_bind (wpAny_field (up a _ La.loc ea) rfl e1 ?_)
      rw [if_neg (show ¬ ((Value.ref T1 == Value.none) = true) by simp), hfrm, hfr0]
      refine wpAny_bind (flight_again (some X.env.locals) I2' F2 L1 fun s'' I'' o1 o2 o3 o4 => wpAny_throw ⟨a, C, dx, T1, uu, H10, rfl, I'', ⟨o1, o2, o3, o4⟩, la, ld, L1, q⟩)
end
end XC
namespace D3
open PySem
def compX (g : FG) (F : List D → Option Or) (fa : FA) (δ : DS) : List D → Option (List D ⊕ (Str × D))
  | [] => some (.inl [])
  | d :: r => (g d δ).bind fun δ1 => (fa δ1).bind fun ds => match F ds with
    | some (.o (.rt v)) => (compX g F fa δ r).bind fun z => match z with
      | .inl l => some (.inl (v :: l))
      | .inr e => some (.inr e)
    | some (.ex c v) => some (.inr (c, v))
    | _ => none
def xRetC (fi : FA) (g : FG) (F : List D → Option Or) (fa : FA) (t : Nat) : FX := fun δ => (fi δ).bind fun l => if l.length ≤ 100000 then (compX g F fa (capD t [] δ) l).bind fun r => match r with
  | .inl ds => some (.o (.rt (.list ds)))
  | .inr (c, d) => some (.ex c d)
  else none
def jX (ds : List D) : List D ⊕ (Str × D) → List D ⊕ (Str × D)
  | .inl l => .inl (ds ++ l)
  | .inr e => .inr e
end D3
namespace XC
open PySem PySem.Spec PyProof.Rows L2 My D3
section
variable {X : Cx} {fl fl' : List Fl} {L TT : List Nat} {fi fa : FA} {g : FG} {F : List D → Option Or}
theorem comp_bridgeE {σ : L2.St} {H : Hp} {Q : VK} {EX : XK} {t : Nat} (hfl : ∀ i, i < t + ([] : List Nat).length → fl'[i]? = some .A) (htg : ∀ j ∈ TT, j < t) {G : Gh} {ow : Ow} {δ : DS} {l : List D} {r : List D ⊕ (Str × D)} (R : Rel X.K fl G ow σ H δ) (e1 : fi δ = some l) (hl : l.length ≤ 100000) (e3 : compX g F fa (capD t [] δ) l = some r)
    (hQ : ∀ ds, r = .inl ds → ∀ v H', Same H H' → Rs X.K G.H0 ow H H' .FC v (.list ds) → Q v H')
    (hE : ∀ c d, r = .inr (c, d) → ∀ (C : Addr) (v : V) (u : Value) (H' : Hp), X.mg c = some (.ref C) → Same H H' → RA X.K ok1 true H' v d → RelV v u → EX u (some C) H') :
    tCompE (tDI X.K fl L fi) (tDG X.K fl' TT g) (fun σ H Q EX => tDB X.K fl' .P fa σ H fun vs H1 => spX X.K X.mg F (vs ++ []) H1 Q EX) t (capσ t []) σ H Q EX := by
  refine ⟨G, ow, δ, l, R, e1, fun J H1 s1 wk Dl hD => ?_⟩
  have R1 := R.grow s1
  let okD : Ok := fun b => okN H b ∧ b ≠ Dl
  refine ⟨fun i m xs H2 => m = l.length - i ∧ H2 Dl = some (.lst xs) ∧ Same H1 H2 ∧ xs.length ≤ i ∧ i ≤ l.length ∧ ∃ ds rest, RAs X.K okD false H2 xs ds ∧ compX g F fa (capD t [] δ) (l.drop i) = some rest ∧ r = jX ds rest,
    ⟨_, rfl, upd_same, same_new hD _, Nat.le_refl _, Nat.zero_le _, [], r, .nil, by simpa using e3, by cases r <;> rfl⟩, ?_⟩
  rintro i m xs H2 ⟨rfl, hDl, s2, hxl, hil, ds, rest, hr, hc, rj⟩
  refine ⟨hDl, ?_⟩
  obtain ⟨w1, w2⟩ := wk H2 (fun b o hb _ _ => s2 b o hb) i
  by_cases hlt : i < l.length
  · have hdrop : l.drop i = l[i] :: l.drop (i + 1) := List.drop_eq_getElem_cons hlt
    rw [hdrop, compX] at hc
    obtain ⟨δ1, e5, hc⟩ := bind1 hc
    obtain ⟨as, e6, hc⟩ := bind1 hc
    obtain ⟨go, yl⟩ := w1 l[i] (List.getElem?_eq_getElem hlt)
    refine .inr ⟨go, Nat.lt_of_le_of_lt (Nat.le_trans hxl (Nat.le_trans hil hl)) (by decide), fun x H3 hy => ?_⟩
    obtain ⟨s3, r3⟩ := yl x H3 hy
    have s13 := s2.trans s3
    have Rb := (cap_rel t [] hfl R1 (Same.refl H1)).grow s13
    refine ⟨_, _, _, _, δ1, Rb, r3.imp (fun _ _ => ⟨fun i z => (by cases z), fun i z => (by cases z)⟩) (fun z => z), e5, fun σ4 R4 keep4 => ⟨?_, ?_⟩⟩
    · apply List.ext_getElem?
      intro n
      rw [List.getElem?_drop, List.getElem?_drop]
      exact keep4 (t + n) fun z => absurd (htg _ z) (by omega)
    · refine ⟨_, _, δ1, as, R4, e6, fun vs H5 s5 r5 => ?_⟩
      have tb5 : Tb H5 := R4.tb.same s5
      have s35 := s3.trans s5
      split at hc
      · next y eF =>
        obtain ⟨z, e8, hc⟩ := bind1 hc
        refine ⟨as, _, ⟨tb5, by rw [List.append_nil]; exact r5⟩, eF, fun v H6 s6 r6 => ?_⟩
        have s36 := s35.trans s6
        refine ⟨s36 _ _ hDl, l.length - (i + 1), by omega, rfl, upd_same, ?_, by rw [List.length_append, List.length_singleton]; omega, hlt, ds ++ [y], z, ?_, e8, ?_⟩
        · intro b o hb
          rw [upd_ne (fun z => by subst z; rw [hD] at hb; cases hb)]
          exact (s2.trans s36) b o hb
        · have nd : ¬ okD Dl := fun z => z.2 rfl
          have s05 : Same H H5 := s1.trans (s2.trans s35)
          have ry : RA X.K okD false H6 v y := RA.imp (fun b z => ⟨s05.free z, fun e => by subst e; rw [okN, s35 _ _ hDl] at z; cases z⟩) (fun z => z) r6
          exact ((hr.same s36).append (.cons ry .nil)).upd (s36 _ _ hDl) nd
        · cases z with
          | inl l' =>
            cases hc
            rw [rj]
            show (Sum.inl (ds ++ y :: l') : List D ⊕ (Str × D)) = .inl (ds ++ [y] ++ l')
            rw [List.append_assoc]
            rfl
          | inr e =>
            cases hc
            rw [rj]
            rfl
      · next c y eF =>
        cases hc
        refine ⟨as, _, ⟨tb5, by rw [List.append_nil]; exact r5⟩, eF, fun C v u H6 mc s6 r6 rv => ?_⟩
        exact hE c y (by rw [rj]; rfl) C v u H6 mc (s1.trans (s2.trans (s35.trans s6))) r6 rv
      · cases hc
  · have ed : l.drop i = [] := List.drop_eq_nil_of_le (by omega)
    rw [ed, compX] at hc
    cases hc
    refine .inl ⟨w2 (by omega), ?_⟩
    refine hQ ds (by rw [rj]; show Sum.inl (ds ++ []) = _; rw [List.append_nil]) (.ref Dl) H2 (s1.trans s2) (.inr ⟨Dl, xs, ds, rfl, rfl, s1.free hD, hDl, hr⟩)
end
end XC
namespace XC
open PySem PySem.Spec PyProof.Rows L2 My D3
section
variable {X : Cx} {fld : Addr → Str} {k : Nat} {f : Addr} {fd : FuncData} {ps : List Str} {sp : Sp} {dvs : List V} {ds : List Value}
variable {x : Str} {p pos : Pos} {e : Expr} {es : List Expr} {ta : TA}
theorem pee_call (hxe : ∀ e s, X.xe e s → False) (F : FnOk X.prog X.w X.K X.mg X.base (CXE X.prog X.w fld) k f fd ps sp) (hr : Room k X.A) (hg : Gl X x) (hm : X.mg x = some (.ref f)) (hk : PySem.W.keepIn X.K (.ref f) = true) (hb : Binds X.K fd ps ds) (hd : Vals dvs ds) (ha : PA X (e :: es) ta)
    (hdb : (x == ("__debug__" : Str)) = false) (he : starEach (e :: es) X.env = (false, eval e X.env) :: starEach es X.env) (hpl : (backTo pos (starEach es X.env)).any (·.1) = false) :
    PEE fld X (.Call (.Name x p) (e :: es) [] pos) (fun σ H Q EX => ta σ H fun vs H1 => sp (vs ++ dvs) H1 Q EX) := by
  intro pins s σ H Q EX J h
  refine wpAny_Call_Name_kw (ld_glob J hg hm ?_ hdb)
  refine PySem.W.callWith_K (h₀ := X.base) J.ok.mod.kin hk (wpAny_mono (ha pos pins s σ H _ J h) (fun us s1 q => ?_) fun _ _ z => (hxe _ _ z).elim) he hpl
  obtain ⟨vs, H1, J1, r, q⟩ := q
  exact ⟨J1.kIn, run_fnE F hr hb hd J1 r q⟩
end
section
variable {P : Program} {w : World} {K : PySem.W.Frag} {mg : Str → Option Value} {base : Heap} {N : List Str} {qual : Str} {scope : Scope} {fa : Addr} {cdv : Value} {A : Around} {outer : List Env} {s₀ : Shared} {H₀ : Hp} {E : XK} {fld : Addr → Str}
variable {fl fl' : List Fl} {n : Nat} {x : Str} {ps : List Str} {F : List D → Option Or} {e tg iter : Expr} {es : List Expr} {fi fs : FA} {g : FG} {L TT : List Nat} {p pos cpos pos2 : Pos} {sc : Scope}
theorem Loose.nox {X : Cx} {pins : List (Addr × Obj)} {H : Hp} {b : Addr} (h : Loose X.nox pins H b) : Loose X pins H b := ⟨h.new, h.loc, h.cel, h.pin, h.out⟩
theorem dx_retC (h : HasX P w K mg base fld n x ps (spX K mg F) []) (hr : Room n (A.deeper (envOfC qual scope s₀.heap.objs.size fa cdv))) (T : List Str)
    (hi : DI (cxOf (CXE P w fld) P w K mg base N qual scope fa cdv A outer s₀ H₀ E).nox fl L tg iter fi)
    (hg : ∀ cl C s3 H3 fp, DG (blk (cxOf (CXE P w fld) P w K mg base N qual scope fa cdv A outer s₀ H₀ E).nox (T ++ []) sc cl C s3 H3 fp) fl' TT tg g)
    (ha : ∀ cl C s3 H3 fp, DB (blk (cxOf (CXE P w fld) P w K mg base N qual scope fa cdv A outer s₀ H₀ E).nox (T ++ []) sc cl C s3 H3 fp) fl' .P (e :: es) fs)
    (hgx : ∀ cl C s3 H3 fp, Gl (blk (cxOf (CXE P w fld) P w K mg base N qual scope fa cdv A outer s₀ H₀ E).nox (T ++ []) sc cl C s3 H3 fp) x := by intros; rfl)
    (he : ∀ cl C, starEach (e :: es) (compEnvC sc cl C (cxOf (CXE P w fld) P w K mg base N qual scope fa cdv A outer s₀ H₀ E).env) = (false, eval e (compEnvC sc cl C (cxOf (CXE P w fld) P w K mg base N qual scope fa cdv A outer s₀ H₀ E).env)) :: starEach es (compEnvC sc cl C (cxOf (CXE P w fld) P w K mg base N qual scope fa cdv A outer s₀ H₀ E).env) := by intros; rfl)
    (hpl : ∀ cl C, (backTo cpos (starEach es (compEnvC sc cl C (cxOf (CXE P w fld) P w K mg base N qual scope fa cdv A outer s₀ H₀ E).env))).any (·.1) = false := by intros; rfl)
    (hfl : ∀ i, i < T.length + ([] : List Nat).length → fl'[i]? = some .A := by decide) (htg : ∀ j ∈ TT, j < T.length := by decide)
    (hrel : relabel sc (cxOf (CXE P w fld) P w K mg base N qual scope fa cdv A outer s₀ H₀ E).env = sc := by rfl) (hcl : clGo (cxOf (CXE P w fld) P w K mg base N qual scope fa cdv A outer s₀ H₀ E).env sc.names [] = [] := by rfl)
    (hk : sc.kind = .function := by rfl) (hcell : ∀ y ∈ sc.names, y.2 ≠ .cell := by decide +kernel) (hnames : ∀ x ∈ sc.names, x.2 = .local → sc.names.lookup x.1 = some .local := by decide +kernel) (hnf : ∀ x ∈ sc.names, x.2 ≠ .free := by decide +kernel)
    (hs : ∀ x, foldedSetIterable iter (cxOf (CXE P w fld) P w K mg base N qual scope fa cdv A outer s₀ H₀ E).env x = pure x := by intro _; rfl) (hdb : (x == ("__debug__" : Str)) = false := by decide) :
    DX1 (cxOf (CXE P w fld) P w K mg base N qual scope fa cdv A outer s₀ H₀ E) E fl (.Return (some (.ListComp (.Call (.Name x p) (e :: es) [] cpos) [⟨tg, iter, [], 0⟩] sc pos)) pos2) (xRetC fi g F fs T.length) := by
  intro pins s σ H Dn J h0
  obtain ⟨G, ow, δ, o, R, hf, q⟩ := h0
  obtain ⟨l, e1, e2⟩ := bind1 hf
  by_cases hl : l.length ≤ 100000
  case neg => rw [if_neg hl] at e2; cases e2
  rw [if_pos hl] at e2
  obtain ⟨r, e3, e4⟩ := bind1 e2
  obtain ⟨f, fd, dv, Fo, b, vv, kp, m⟩ := h.ex
  have el : ∀ cl C s3 H3 fp, PEE fld (blk (cxOf (CXE P w fld) P w K mg base N qual scope fa cdv A outer s₀ H₀ E).nox (T ++ []) sc cl C s3 H3 fp) (.Call (.Name x p) (e :: es) [] cpos) (fun σ H Q EX => tDB K fl' .P fs σ H fun vs H1 => spX K mg F (vs ++ []) H1 Q EX) := fun cl C s3 H3 fp =>
    pee_call (fun _ _ z => z) Fo hr (hgx cl C s3 H3 fp) m kp b vv (ha cl C s3 H3 fp) hdb (he cl C) (hpl cl C)
  have main : ∀ (Q : VK) (EX : XK), tCompE (tDI K fl L fi) (tDG K fl' TT g) (fun σ H Q EX => tDB K fl' .P fs σ H fun vs H1 => spX K mg F (vs ++ []) H1 Q EX) T.length (capσ T.length []) σ H Q EX →
      wpAny (model P w) (cxOf (CXE P w fld) P w K mg base N qual scope fa cdv A outer s₀ H₀ E).A (eval (.ListComp (.Call (.Name x p) (e :: es) [] cpos) [⟨tg, iter, [], 0⟩] sc pos) (cxOf (CXE P w fld) P w K mg base N qual scope fa cdv A outer s₀ H₀ E).env) (EP (cxOf (CXE P w fld) P w K mg base N qual scope fa cdv A outer s₀ H₀ E).nox pins σ Q) (XPN fld (cxOf (CXE P w fld) P w K mg base N qual scope fa cdv A outer s₀ H₀ E).nox pins σ EX) s := fun Q EX hh =>
    pee_comp0 (X := (cxOf (CXE P w fld) P w K mg base N qual scope fa cdv A outer s₀ H₀ E).nox) (fun _ _ z => z) rfl rfl rfl T hi hg el hrel hcl hk hcell hnames hnf hs (J.wish _) hh
  cases r with
  | inl ds =>
    cases e4
    refine wpAny_Return_some (wpAny_mono (main Dn.rt (fun _ _ _ => False) (comp_bridgeE (X := (cxOf (CXE P w fld) P w K mg base N qual scope fa cdv A outer s₀ H₀ E).nox) hfl htg R e1 hl e3 (fun ds' z v H' sm rs => ?_) fun c d z => by cases z)) (fun v s1 z => ?_) fun e s1 z => ?_)
    · cases z
      exact q v H' (R.same0.trans sm) (Rs.C_R R (Rs.FC_C rs))
    · obtain ⟨y, H1, I1, r1, q1⟩ := z
      exact ⟨y, σ, H1, I1.wish _, r1, q1⟩
    · obtain ⟨_, _, _, _, _, _, _, _, _, _, _, _, z⟩ := z
      exact z.elim
  | inr cd =>
    obtain ⟨c, d⟩ := cd
    cases e4
    refine wpAny_Return_some (wpAny_mono (main (fun _ _ => False) E (comp_bridgeE (X := (cxOf (CXE P w fld) P w K mg base N qual scope fa cdv A outer s₀ H₀ E).nox) hfl htg R e1 hl e3 (fun ds' z => by cases z) fun c' d' z C v u H' mc sm ra rv => ?_)) (fun v s1 z => ?_) fun e s1 z => ?_)
    · cases z
      exact q C v u H' mc (R.same0.trans sm) ra rv
    · obtain ⟨y, H1, I1, r1, q1⟩ := z
      exact q1.elim
    · obtain ⟨a, C, dx, T0, u, H', rfl, I', Fl, La, Ld, LT, z⟩ := z
      exact xe_ofX ⟨pins, σ, H', a, C, dx, u, rfl, I'.wish _, La.nox, Ld.nox, z, .inr ⟨T0, Fl, LT.nox⟩⟩
end
end XC
namespace XC
open PySem PySem.Spec PyProof.Rows L2 My D3
section
variable {X : Cx} {fl : List Fl} {z : Sc} {a b : Expr} {rest : List Expr} {fa fb : FE} {pos : Pos}
theorem ue_and (h1 : UE X fl z .FC a fa) (h2 : UE X fl z .FC (.BoolOp .And (b :: rest) pos) fb) : UE X fl z .FC (.BoolOp .And (a :: b :: rest) pos) (dAnd fa fb) := PE.imp (pe_and h1 h2) fun σ H Q h => by
  obtain ⟨G, ow, δ, d, R, A, hf, q⟩ := h
  obtain ⟨x, e1, e2⟩ := bind1 hf
  refine ⟨G, ow, δ, x, R, A, e1, fun v H1 s1 r1 => ?_⟩
  have r1 : RA X.K ok1 true H1 v x := Rs.B_P (L := []) (Rs.A_B [] (Rs.F_A R (Rs.FC_F R r1)))
  split at e2
  · obtain rfl := RA.blE r1
    exact ⟨true, rfl, iteT ⟨G, ow, δ, d, R.grow s1, A.grow s1, e2, fun u H2 s2 r2 => q u H2 (s1.trans s2) (r2.back s1)⟩⟩
  · obtain rfl := RA.blE r1
    cases e2
    exact ⟨false, rfl, iteF (q _ H1 s1 (Rs.of_flat rfl (.bl _)))⟩
  · cases e2
end
end XC
namespace D3
open PySem
end D3
namespace D3
open PySem
end D3
namespace D3
open PySem
end D3
namespace D3
open PySem
end D3
namespace D3
open PySem
def gStr : List D → Option D := fun l => match l with
  | [.int i] => if i.natAbs.log2 < 1920 then some (.str (Str.ofString (toString i))) else none
  | _ => none
end D3
namespace XN
open PySem PySem.Spec PyProof.Rows L2 My D3
section
variable {X : Cx}
theorem call_str1 : CallR X (.type "str") (fun xs H Q => ∃ i : Int, xs = [.int i] ∧ i.natAbs.log2 < 1920 ∧ Q (.str (Str.ofString (toString i))) H) := by
  intro pins s σ H xs us Q I r h
  obtain ⟨i, rfl, hl, q⟩ := h
  obtain ⟨u, rfl, t, rfl⟩ := vals1 r
  exact PySem.P.str_of_int hl ⟨.str _, H, I.tok _, ⟨_, rfl⟩, q⟩
theorem de_strc {fl : List Fl} {e : Expr} {fa : FA} {p pos : Pos} (ha : DB X fl .P [e] fa) (hg : Gl X "str") (hm : X.mg "str" = none)
    (he : starEach [e] X.env = (false, eval e X.env) :: starEach [] X.env := by exact star_of rfl) (hpl : (backTo pos (starEach [] X.env)).any (·.1) = false := by exact pl_of rfl) : DE X fl .FC (.Call (.Name "str" p) [e] [] pos) (dCall gStr fa) :=
  PE.imp (pe_callTy call_str1 hg hm boot_str ha (by decide) (by decide) he hpl) fun σ H Q h => by
  obtain ⟨G, ow, δ, d, R, hf, q⟩ := h
  obtain ⟨ds, e1, e2⟩ := bind1 hf
  refine ⟨G, ow, δ, ds, R, e1, fun vs H' s r' => ?_⟩
  unfold gStr at e2
  split at e2
  · next i =>
    by_cases hl : i.natAbs.log2 < 1920
    · rw [if_pos hl] at e2
      cases e2
      cases r' with
      | cons r1 r2 =>
        cases r2
        obtain rfl := RA.intE r1
        exact ⟨i, rfl, hl, q _ H' s (.inl ⟨rfl, .str _⟩)⟩
    · rw [if_neg hl] at e2; cases e2
  · cases e2
end
end XN
namespace XS
open PySem PySem.W PyProof.Rows
section
variable {α β : Type} {n : Nat} {R : α → Prop} {R' : β → Prop} {lt : Nat → Nat → Bool}
end
def good (n : Nat) (p : Array Nat) : Prop := p.Perm (List.range n).toArray
section
variable {n : Nat} {p : Array Nat}
theorem good.mem (g : good n p) {x : Nat} (h : x ∈ p.toList) : x < n := by
  have : x ∈ (List.range n) := by
    have := (Array.perm_iff_toList_perm.mp g).mem_iff.mp h
    simpa using this
  exact List.mem_range.mp this
theorem good.get (g : good n p) (h0 : 0 < n) (i : Nat) : p.getD i 0 < n := by
  unfold Array.getD
  split
  · exact g.mem (by simp)
  · exact h0
end
open D3
end XS
namespace XS
open PySem PySem.Spec PySem.W PyProof.Rows L2 My D3
theorem obj_there {P : Program} {w : World} {H : Hp} {h : Heap} {a : Addr} {o : HO} (x : ObjOk P w H h a o) : ∃ u, h.get? a = some u := by
  cases o with
  | lst xs => obtain ⟨_, _, _, _, e⟩ := x; exact ⟨_, e⟩
  | tup xs => obtain ⟨_, _, _, u, e, _⟩ := x; exact ⟨_, e⟩
  | dK kvs => obtain ⟨_, _, _, _, u, _, _, e, _⟩ := x; exact ⟨_, e⟩
  | dT kvs => obtain ⟨_, _, _, _, u, _, _, e, _⟩ := x; exact ⟨_, e⟩
  | set S n => obtain ⟨u, _, _, _, e, _⟩ := x; exact ⟨_, e⟩
  | ins C dx fs => obtain ⟨_, _, _, e, _⟩ := x; exact ⟨_, e⟩
  | own y => exact x
  | xd fs => obtain ⟨_, ⟨u, _, _, e, _⟩, _⟩ := x; exact ⟨_, e⟩
  | met f y => exact ⟨_, x⟩
  | rng lo hi => obtain ⟨_, _, _, e⟩ := x; exact ⟨_, e⟩
  | frz u v => exact ⟨_, x.1⟩
  | tbl q p => obtain ⟨_, e, _⟩ := x; exact ⟨_, e⟩
  | ext φ => exact x.2.1
section
variable {X : Cx} {pins : List (Addr × Obj)} {σ : L2.St} {H : Hp} {s : Shared}
theorem ns_one {h : Heap} {L : Addr} {m m' : Str → Option Value} (a : h.Ns L m) (b : h.Ns L m') : m = m' := by
  obtain ⟨o, es, ep, e, d, _, f⟩ := a
  obtain ⟨o', es', ep', e', d', _, f'⟩ := b
  rw [e] at e'; cases e'
  rw [d] at d'; cases d'
  funext x
  rw [← f, ← f']
theorem inv_new {h' : Heap} {m : Str → Option Value} {D : Addr} {o : HO} (I : Inv X pins σ H s) (hm : s.heap.Ns X.env.locals m) (hm' : h'.Ns X.env.locals m) (k : ∀ b u, b ≠ X.env.locals → s.heap.get? b = some u → h'.get? b = some u)
    (hD : s.heap.get? D = none) (new : ObjOk X.prog X.w (upd H D o) h' D o) : Inv X pins σ (upd H D o) { s with heap := h' } := by
  have hn : H D = none := by
    cases e : H D with
    | none => rfl
    | some u =>
      obtain ⟨w, hw⟩ := obj_there (I.hok D u e)
      rw [hD] at hw; cases hw
  have ne : ∀ {b u}, H b = some u → b ≠ D := fun e => ne_of_none e hn
  refine I.step (g' := s.gens) (d' := s.drawn) (t' := s.toks) (ch := []) (fun b hb => by cases hb) (fun b u hL _ _ e _ => k b u hL e) (fun b u hL _ _ e _ => ⟨u.slots, k b u hL e⟩) (fun b u _ e n => ?_) (fun b u _ e => ?_)
    (fun b xs e => by rw [upd_ne (ne e)]; exact e) (fun b u v e => by rw [upd_ne (ne e)]; exact e) (fun b q p e => by rw [upd_ne (ne e)]; exact e) (fun m2 h2 => by rw [← ns_one hm h2]; exact hm') (fun b u e => ?_) I.bare
  · rw [upd_ne (fun z => by rw [z, hD] at e; cases e)]; exact n
  · by_cases z : b = X.env.locals
    · obtain ⟨w, _, _, hw, _⟩ := hm'
      exact ⟨w, by rw [z]; exact hw⟩
    · exact ⟨u, k b u z e⟩
  · by_cases z : b = D
    · subst z
      rw [upd_same] at e
      cases e
      exact new
    · rw [upd_ne z] at e
      refine (I.hok b u e).stay (fun c w hc q => k c w (fun y => ?_) q) (fun c q => by rw [upd_ne (ne q)]; exact q) fun c xs q => by rw [upd_ne (ne q)]; exact q
      rcases hc with rfl | y2
      · rw [y, I.free] at e; cases e
      · rw [y, I.free] at y2; cases y2
end
section
variable {prog : Program} {w : World} {A : Around} {E : Value → Shared → Prop} {s : Shared}
end
end XS
namespace D3
open PySem
def gAddS : D → D → Option D := fun x y => match x, y with
  | .str i, .str j => if i.length + j.length ≤ 1000000 then some (.str (i ++ j)) else none
  | _, _ => none
def gInS : D → D → Option D := fun x y => match x, y with
  | .str i, .str j => some (.bool (!(Builtin.Str.occurrences j i 0 j.length 1).isEmpty))
  | _, _ => none
def gNotinS : D → D → Option D := fun x y => match x, y with
  | .str i, .str j => some (.bool (!(!(Builtin.Str.occurrences j i 0 j.length 1).isEmpty)))
  | _, _ => none
def gIxS : D → D → Option D := fun x y => match x, y with
  | .str z, .int i => if z.length ≤ 1000000 then (L2.atI z.cps.toList i).map fun c => .str ⟨#[c]⟩ else none
  | _, _ => none
def gLenS : List D → Option D
  | [.str z] => if z.length ≤ 1000000 then some (.int z.length) else none
  | _ => none
def gZfill : D → D → Option D := fun x y => match x, y with
  | .str z, .int i => if PadOk i = true then some (.str (Txt.zfill z i)) else none
  | _, _ => none
def strsD : List D → Option (List Str)
  | [] => some []
  | .str x :: r => (strsD r).map (x :: ·)
  | _ => none
def gJoin : D → D → Option D := fun x y => match x, y with
  | .str z, .list l => (strsD l).bind fun ts => if JoinOk z ts = true then some (.str (Txt.join z ts)) else none
  | _, _ => none
theorem strs_map (ts : List Str) : strsD (ts.map PyData.str) = some ts := by
  induction ts with
  | nil => rfl
  | cons t r ih => rw [List.map_cons, strsD, ih]; rfl
end D3
namespace XW
open PySem PySem.Spec PyProof.Rows L2 My D3
section
variable {X : Cx} {fl : List Fl} {a b e : Expr} {fa fb fe f : FE} {pos apos cpos : Pos}
theorem b_addS {K : PySem.W.Frag} : BrO K (fun x y H Q => ∃ i j, x = .str i ∧ y = .str j ∧ i.length + j.length ≤ sizeLine ∧ Q (.str (i ++ j)) H) gAddS := by
  intro H x y dx dy d Q rx ry e q
  unfold gAddS at e
  split at e
  · split at e
    · next hz =>
      cases e
      obtain rfl := RA.strE rx
      obtain rfl := RA.strE ry
      exact ⟨_, _, rfl, rfl, Nat.le_trans hz (by decide), q _ rfl (.str _)⟩
    · cases e
  · cases e
theorem b_inS {K : PySem.W.Frag} : BrO K (fun x y H Q => ∃ i j, x = .str i ∧ y = .str j ∧ Q (.bl (!(Builtin.Str.occurrences j i 0 j.length 1).isEmpty)) H) gInS := by
  intro H x y dx dy d Q rx ry e q
  unfold gInS at e
  split at e
  · cases e
    obtain rfl := RA.strE rx
    obtain rfl := RA.strE ry
    exact ⟨_, _, rfl, rfl, q _ rfl (.bl _)⟩
  · cases e
theorem b_notinS {K : PySem.W.Frag} : BrO K (fun x y H Q => ∃ i j, x = .str i ∧ y = .str j ∧ Q (.bl (!(!(Builtin.Str.occurrences j i 0 j.length 1).isEmpty))) H) gNotinS := by
  intro H x y dx dy d Q rx ry e q
  unfold gNotinS at e
  split at e
  · cases e
    obtain rfl := RA.strE rx
    obtain rfl := RA.strE ry
    exact ⟨_, _, rfl, rfl, q _ rfl (.bl _)⟩
  · cases e
theorem b_lenS {K : PySem.W.Frag} : BrC K (fun xs H Q => ∃ z, xs = [.str z] ∧ z.length ≤ sizeLine ∧ Q (.int z.length) H) gLenS := by
  intro H xs ds d Q r e q
  unfold gLenS at e
  split at e
  · split at e
    · next hz =>
      cases e
      cases r with
      | cons r1 r2 =>
        cases r2
        obtain rfl := RA.strE r1
        exact ⟨_, rfl, Nat.le_trans hz (by decide), q _ rfl (.int _)⟩
    · cases e
  · cases e
theorem de_ixS (ha : DE X fl .P a fa) (hb : DE X fl .P b fb) (hs : PlainIx b) : DE X fl .FC (.Subscript a b pos) (dOp gIxS fa fb) := PE.imp (pe_ix ix_str ha hb hs) fun σ H Q h => by
  obtain ⟨G, ow, δ, d, R, hf, q⟩ := h
  obtain ⟨x, y, e1, e2, e3⟩ := bind2 hf
  refine ⟨G, ow, δ, x, R, e1, fun v H1 s1 r1 => ⟨G, ow, δ, y, R.grow s1, e2, fun u H2 s2 r2 => ?_⟩⟩
  unfold gIxS at e3
  split at e3
  · next z i =>
    split at e3
    · next hz =>
      obtain rfl := RA.intE r2
      obtain rfl := RA.strE r1
      cases hc : atI z.cps.toList i with
      | none => rw [hc] at e3; cases e3
      | some c =>
        rw [hc] at e3
        cases e3
        exact ⟨z, i, c, rfl, rfl, Nat.le_trans hz (by decide), hc, q _ H2 (s1.trans s2) (.inl ⟨rfl, .str _⟩)⟩
    · cases e3
  · cases e3
theorem strs_ra {K : PySem.W.Frag} {ok : Ok} {pl : Bool} {H : Hp} : ∀ {l : List D} {xs : List V} {ts : List Str}, strsD l = some ts → RAs K ok pl H xs l → xs = ts.map V.str ∧ l = ts.map PyData.str
  | [], _, _, h, r => by cases h; cases r; exact ⟨rfl, rfl⟩
  | d :: l, _, _, h, r => by
    cases r with
    | cons r1 r2 =>
      cases d with
      | str x =>
        rw [strsD] at h
        cases e : strsD l with
        | none => rw [e] at h; cases h
        | some ts =>
          rw [e] at h
          cases h
          obtain ⟨z1, z2⟩ := strs_ra e r2
          rw [z1, z2, RA.strE r1]
          exact ⟨rfl, rfl⟩
      | _ => cases h
theorem strs_vals : ∀ {ts : List Str} {us : List Value}, Vals (ts.map V.str) us → ∃ l : List (Str × Tok), us = strValues l ∧ l.map (·.1) = ts
  | [], _, .nil => ⟨[], rfl, rfl⟩
  | t :: r, _, .cons h q => by
    obtain ⟨k, rfl⟩ := (show ∃ k, _ = Value.str t k from h)
    obtain ⟨l, rfl, e⟩ := strs_vals q
    exact ⟨(t, k) :: l, rfl, by rw [List.map_cons, e]⟩
theorem mt_join : MtR X "str.join" (fun x xs H Q => ∃ (z : Str) (p : Addr) (ts : List Str), x = .str z ∧ xs = [.ref p] ∧ SqL X.K H p (ts.map V.str) ∧ JoinOk z ts = true ∧ Q (.str (Txt.join z ts)) H) := by
  intro pins s σ H x xs v us Q I rx rv h
  obtain ⟨z, p, ts, rfl, rfl, hx, hj, q⟩ := h
  obtain ⟨t0, rfl⟩ := (show ∃ k, v = Value.str z k from rx)
  obtain ⟨u, rfl, ru⟩ := vals1 rv
  cases ru
  obtain ⟨its, rvs, pl, _⟩ := I.list hx
  obtain ⟨l, rfl, e⟩ := strs_vals rvs
  exact SC.join pl.isList e hj fun t' k => ⟨.str (Txt.join z ts), H, I.tok _, ⟨t', rfl⟩, q⟩
theorem mt_zfill : MtR X "str.zfill" (fun x xs H Q => ∃ (z : Str) (i : Int), x = .str z ∧ xs = [.int i] ∧ PadOk i = true ∧ Q (.str (Txt.zfill z i)) H) := by
  intro pins s σ H x xs v us Q I rx rv h
  obtain ⟨z, i, rfl, rfl, hp, q⟩ := h
  obtain ⟨t0, rfl⟩ := (show ∃ k, v = Value.str z k from rx)
  obtain ⟨u, rfl, ru⟩ := vals1 rv
  obtain ⟨t1, rfl⟩ := (show ∃ k, u = Value.int i k from ru)
  exact SC.zfill hp fun t' k => ⟨.str (Txt.zfill z i), H, I.tok _, ⟨t', rfl⟩, q⟩
end
end XW
namespace D3
open PySem
def gSplit : D → D → Option D := fun x y => match x, y with
  | .str z, .str k => if (k.length == 0) = false ∧ z.length ≤ 1000000 ∧ (Txt.split z k).length ≤ 1000000 then some (.list ((Txt.split z k).map PyData.str)) else none
  | _, _ => none
def gIndexS : D → D → Option D := fun x y => match x, y with
  | .str z, .str k => (Builtin.Str.occurrences z k 0 z.length 1).head?.map fun i => .int i
  | _, _ => none
end D3
namespace XW
open PySem PySem.Spec PyProof.Rows L2 My D3
section
variable {X : Cx} {fl : List Fl} {a b e : Expr} {fa fb fe f : FE} {pos apos cpos : Pos}
theorem strs_rel : ∀ (l : List (Str × Tok)), Vals ((l.map (·.1)).map V.str) (strValues l)
  | [] => .nil
  | q :: l => .cons ⟨_, rfl⟩ (strs_rel l)
theorem mt_split : MtR X "str.split" (fun x xs H Q => ∃ z k : Str, x = .str z ∧ xs = [.str k] ∧ (k.length == 0) = false ∧ z.length ≤ 1000000 ∧ (Txt.split z k).length ≤ 1000000 ∧ ∀ l, H l = none → Q (.ref l) (upd H l (.lst ((Txt.split z k).map V.str)))) := by
  intro pins s σ H x xs v us Q I rx rv h
  obtain ⟨z, k, rfl, rfl, hk, hz, hn, q⟩ := h
  obtain ⟨t0, rfl⟩ := (show ∃ k, v = Value.str z k from rx)
  obtain ⟨u, rfl, ru⟩ := vals1 rv
  obtain ⟨t1, rfl⟩ := (show ∃ t, u = Value.str k t from ru)
  obtain ⟨m, hm, _⟩ := id I.loc
  have sl : sizeLine = 16777216 := sizeLine_eq
  refine splitN1 (h₀ := Att.noObjs s.heap) (L := X.env.locals) (m := m) (news := allNews (Att.noObjs s.heap) s.heap X.env.locals) (Att.fr_all hm) news_all hk (fun l h' k' e F N => ?_) (by omega)
  have kept : ∀ b o, b ≠ X.env.locals → s.heap.get? b = some o → h'.get? b = some o := fun b o hb e => (N (b, o) (List.mem_cons_of_mem _ (mem_allNews hb (Att.noObjs_get _ _) e))).1
  have hD : s.heap.get? s.heap.objs.size = none := Heap.get?_none_of_le (Nat.le_refl _)
  have hg := (N _ (List.mem_cons_self ..)).1
  have I' : Inv X pins σ H { s with toks := k' } := I.tok _
  have fr : H s.heap.objs.size = none := I.hok.fresh (Nat.le_refl _)
  refine ⟨.ref _, _, XS.inv_new (s := { s with toks := k' }) (h' := h') (o := .lst ((Txt.split z k).map V.str)) I' hm F.ns kept hD ⟨by rw [List.length_map]; omega, strValues l, 0, ?_, hg⟩, rfl, q _ fr⟩
  rw [← e]
  exact strs_rel l
theorem mt_index : MtR X "str.index" (fun x xs H Q => ∃ (z k : Str) (i : Nat), x = .str z ∧ xs = [.str k] ∧ (Builtin.Str.occurrences z k 0 z.length 1).head? = some i ∧ Q (.int i) H) := by
  intro pins s σ H x xs v us Q I rx rv h
  obtain ⟨z, k, i, rfl, rfl, hi, q⟩ := h
  obtain ⟨t0, rfl⟩ := (show ∃ k, v = Value.str z k from rx)
  obtain ⟨u, rfl, ru⟩ := vals1 rv
  obtain ⟨t1, rfl⟩ := (show ∃ t, u = Value.str k t from ru)
  cases e : Builtin.Str.occurrences z k 0 z.length 1 with
  | nil => rw [e] at hi; cases hi
  | cons j r =>
    rw [e] at hi
    cases hi
    exact SC.index e ⟨.int i, H, I.tok _, ⟨_, rfl⟩, q⟩
def BrM (K : PySem.W.Frag) (r : V → List V → Hp → VK → Prop) (g : D → D → Option D) : Prop := ∀ (H : Hp) (v u : V) (x y d : D) (Q : VK), RA K ok1 true H v x → RA K ok1 true H u y → g x y = some d →
  (∀ w H', Same H H' → ((flat d = true ∧ RA K ok0 false H' w d) ∨ ∃ a xs ds, w = .ref a ∧ d = .list ds ∧ H a = none ∧ H' a = some (.lst xs) ∧ RAs K (fun b => okN H b ∧ b ≠ a) false H' xs ds) → Q w H') → r v [u] H Q
def isS : D → Bool
  | .str _ => true
  | _ => false
theorem de_mt1 {id : String} {nm : Str} {g : D → D → Option D} {r : V → List V → Hp → VK → Prop} (slot : Slot "str" nm id) (hty : typeOf (.builtin id) = pure (.type "method_descriptor")) (hm : MtR X id r) (br : BrM X.K r g) (hgs : ∀ x y d, g x y = some d → isS x = true) (h : DE X fl .P a f) (h2 : DE X fl .P e fe)
    (hbase : attributeBase a nm X.env (eval a X.env) = eval a X.env := by rfl)
    (hfew : ((backTo cpos (starEach [e] X.env)).all (fun x => !x.1) && (backToKw cpos (keywordEach [] X.env)).all (fun x => x.1.isSome)
      && decide (([e] : List Expr).length + ([] : List Keyword).length + (if ([] : List Keyword).isEmpty then 0 else 1) < 30)) = true := by rfl)
    (hline : (apos.endLine == cpos.line) = true := by rfl) (hst : starEach [e] X.env = (false, eval e X.env) :: starEach [] X.env := by exact star_of rfl) (hplain : (backTo cpos (starEach [] X.env)).any (·.1) = false := by rfl) :
    DE X fl .FC (.Call (.Attribute a nm apos) [e] [] cpos) (dOp g f fe) :=
  PE.imp (pe_bm PySem.F.plainAttrs_str slot hty hm h (pa_cons h2 pa_nil hst) hbase hfew hline hst hplain) fun σ H Q h => by
  obtain ⟨G, ow, δ, d, R, hf, q⟩ := h
  obtain ⟨x, y, e1, e2, e3⟩ := bind2 hf
  refine ⟨G, ow, δ, x, R, e1, fun v H1 s1 r1 => ?_⟩
  have hx := hgs _ _ _ e3
  cases x with
  | str z =>
    obtain rfl := RA.strE r1
    refine ⟨rfl, G, ow, δ, y, R.grow s1, e2, fun u H2 s2 r2 => ?_⟩
    refine br H2 (.str z) u (.str z) y d Q (.str _) r2 e3 fun w H3 s3 c => q w H3 ((s1.trans s2).trans s3) ?_
    rcases c with c | ⟨a, xs, ds, rfl, rfl, c1, c2, c3⟩
    · exact .inl c
    · exact .inr ⟨a, xs, ds, rfl, rfl, (s1.trans s2).free c1, c2, c3.imp (fun b z => ⟨(s1.trans s2).free z.1, z.2⟩) (fun z => z)⟩
  | _ => cases hx
theorem m_zfill {K : PySem.W.Frag} : BrM K (fun x xs H Q => ∃ (z : Str) (i : Int), x = .str z ∧ xs = [.int i] ∧ PadOk i = true ∧ Q (.str (Txt.zfill z i)) H) gZfill := by
  intro H v u x y d Q r1 r2 e q
  unfold gZfill at e
  split at e
  · split at e
    · next h =>
      cases e
      obtain rfl := RA.strE r1
      obtain rfl := RA.intE r2
      exact ⟨_, _, rfl, rfl, h, q _ _ (Same.refl _) (.inl ⟨rfl, .str _⟩)⟩
    · cases e
  · cases e
theorem m_index {K : PySem.W.Frag} : BrM K (fun x xs H Q => ∃ (z k : Str) (i : Nat), x = .str z ∧ xs = [.str k] ∧ (Builtin.Str.occurrences z k 0 z.length 1).head? = some i ∧ Q (.int i) H) gIndexS := by
  intro H v u x y d Q r1 r2 e q
  unfold gIndexS at e
  split at e
  · next z k =>
    cases c : (Builtin.Str.occurrences z k 0 z.length 1).head? with
    | none => rw [c] at e; cases e
    | some i =>
      rw [c] at e
      cases e
      obtain rfl := RA.strE r1
      obtain rfl := RA.strE r2
      exact ⟨_, _, _, rfl, rfl, c, q _ _ (Same.refl _) (.inl ⟨rfl, .int _⟩)⟩
  · cases e
theorem m_join {K : PySem.W.Frag} : BrM K (fun x xs H Q => ∃ (z : Str) (p : Addr) (ts : List Str), x = .str z ∧ xs = [.ref p] ∧ SqL K H p (ts.map V.str) ∧ JoinOk z ts = true ∧ Q (.str (Txt.join z ts)) H) gJoin := by
  intro H v u x y d Q r1 r2 e q
  unfold gJoin at e
  split at e
  · next z l =>
    obtain ⟨ts, e4, e5⟩ := bind1 e
    split at e5
    · next hc =>
      cases e5
      obtain rfl := RA.strE r1
      obtain ⟨p, xs, rfl, hx, hr⟩ := RA.lstE r2
      obtain ⟨rfl, rfl⟩ := strs_ra e4 hr
      exact ⟨z, p, ts, rfl, rfl, hx, hc, q _ _ (Same.refl _) (.inl ⟨rfl, .str _⟩)⟩
    · cases e5
  · cases e
theorem ra_strs {K : PySem.W.Frag} {ok : Ok} {pl : Bool} {H : Hp} : ∀ ts : List Str, RAs K ok pl H (ts.map V.str) (ts.map PyData.str)
  | [] => .nil
  | t :: r => .cons (.str t) (ra_strs r)
theorem m_split {K : PySem.W.Frag} : BrM K (fun x xs H Q => ∃ z k : Str, x = .str z ∧ xs = [.str k] ∧ (k.length == 0) = false ∧ z.length ≤ 1000000 ∧ (Txt.split z k).length ≤ 1000000 ∧ ∀ l, H l = none → Q (.ref l) (upd H l (.lst ((Txt.split z k).map V.str)))) gSplit := by
  intro H v u x y d Q r1 r2 e q
  unfold gSplit at e
  split at e
  · split at e
    · next h =>
      cases e
      obtain rfl := RA.strE r1
      obtain rfl := RA.strE r2
      exact ⟨_, _, rfl, rfl, h.1, h.2.1, h.2.2, fun l hl => q _ _ (same_new hl _) (.inr ⟨_, _, _, rfl, rfl, hl, upd_same, ra_strs _⟩)⟩
    · cases e
  · cases e
theorem s_zfill (x y d : D) (h : gZfill x y = some d) : isS x = true := by
  unfold gZfill at h
  split at h
  · rfl
  · cases h
theorem s_index (x y d : D) (h : gIndexS x y = some d) : isS x = true := by
  unfold gIndexS at h
  split at h
  · rfl
  · cases h
theorem s_join (x y d : D) (h : gJoin x y = some d) : isS x = true := by
  unfold gJoin at h
  split at h
  · rfl
  · cases h
theorem s_split (x y d : D) (h : gSplit x y = some d) : isS x = true := by
  unfold gSplit at h
  split at h
  · rfl
  · cases h
end
end XW
namespace D3
open PySem
def asSigns : D → Option (List D)
  | .str z => if (z.cps.all fun x => decide (x < 128)) = true then some (z.cps.toList.map fun c => .str ⟨#[c]⟩) else none
  | _ => none
def fStr (f : FE) : FA := fun δ => (f δ).bind asSigns
end D3
namespace XW
open PySem PySem.Spec PyProof.Rows L2 My D3
def Its (z : Str) : It where
  go := fun i _ => ∃ c, z.cps[i]? = some c
  yld := fun i H x H' => H = H' ∧ ∃ c, z.cps[i]? = some c ∧ x = .str ⟨#[c]⟩
  stop := fun i _ => z.cps.size ≤ i
theorem turn_str {P : Program} {w : World} {K : PySem.W.Frag} {tg : Expr} (z : Str) (t : Tok) (it : Addr) : Turn P w K tg (Its z) [it] it (fun i h => h.IsStrIter it "str_ascii_iterator" z t i) where
  mem := by simp
  obj := fun i h st b hb => by
    have e : b = it := by simpa using hb
    subst e
    obtain ⟨o, e, c, d⟩ := st
    exact ⟨o, e, fun v z => by rw [d] at z; cases z⟩
  keep := fun i h h' st k => by
    obtain ⟨o, e, c, d⟩ := st
    exact ⟨o, k it (by simp) o e, c, d⟩
  item := by
    intro X hP hw hK hc i pins s σ H E I hf st hg
    subst hP hw hK
    obtain ⟨c, hx⟩ := hg
    obtain ⟨f0, f1, f2, f3, f4, f5⟩ := hf it (by simp)
    refine wpAny_pyNext_ascii_item st hx fun h' st' sb => ?_
    have I1 : Inv X pins σ H { s with heap := h', toks := s.toks + 1 } := I.turned (t' := s.toks + 1) (fun b o hb e => (sb.2 b hb).trans e) f0 f1 f3 f4 f5
    obtain ⟨o, e, c', d⟩ := id st'
    exact ⟨_, rfl, go_of (s := { s with heap := h', toks := s.toks + 1 }) e c' d (by decide) ⟨.str ⟨#[c]⟩, H, I1, ⟨_, rfl⟩, ⟨rfl, c, hx, rfl⟩, st', fun b hb => (hf b hb).1⟩⟩
  done := by
    intro X hP hw hK hc i pins s σ H E I hf st hg
    subst hP hw hK
    obtain ⟨f0, f1, f2, f3, f4, f5⟩ := hf it (by simp)
    exact wpAny_pyNext_ascii_end (I.ok.hd hc) st (Array.getElem?_eq_none hg) fun h' eb => ⟨rfl, I.turned (t' := s.toks) (fun b o hb e => eb b o hb e) f0 f1 f3 f4 f5⟩
  self := fun _ _ _ _ _ st h => wpAny_pyIter_striter_ascii st h
def iStr (tl : TE) : TI := fun σ H R => tl σ H fun x H1 => ∃ z : Str, x = .str z ∧ (z.cps.all fun x => decide (x < 128)) = true ∧ R (Its z) H1
section
variable {X : Cx} {fl : List Fl} {a b e tg : Expr} {f : FE}
theorem pi_str {l : Expr} {tl : TE} (hl : PE X l tl) : PI X tg l (iStr tl) := by
  intro pins s σ H R I h
  refine thn (hl pins s σ H _ I h) fun v s1 ⟨x, H1, I1, r1, q1⟩ => ?_
  obtain ⟨z, e, ha, q⟩ := q1
  subst e
  obtain ⟨t, rfl⟩ := (show ∃ t, v = Value.str z t from r1)
  have ty : strIterType z = "str_ascii_iterator" := by
    unfold strIterType
    rw [if_pos ha]
  refine wpAny_pyIter_strU ?_
  rw [ty]
  refine ⟨s1.heap.objs.size, [s1.heap.objs.size], _, _, H1, rfl, I1.kept (t' := s1.toks) fun b o e => Heap.get?_push_of_some _ e, turn_str z t _, ⟨_, Heap.get?_push_size _ rfl, rfl, rfl⟩, fun b hb => ?_, q⟩
  have e : b = s1.heap.objs.size := by simpa using hb
  subst e
  exact I1.fpOk (Nat.le_refl _) (I1.hok.fresh (Nat.le_refl _))
theorem di_str {L : List Nat} (h : DE X fl .P e f) : DI X fl L tg e (fStr f) := PI.imp (pi_str h) fun σ H R' h => by
  obtain ⟨G, ow, δ, l, R, hf, q⟩ := h
  obtain ⟨d, e1, e2⟩ := bind1 hf
  unfold asSigns at e2
  split at e2
  · next z =>
    split at e2
    · next ha =>
      cases e2
      refine ⟨G, ow, δ, _, R, e1, fun v H1 s r => ?_⟩
      obtain rfl := RA.strE r
      refine ⟨z, rfl, ha, q _ _ s fun H2 k2 i => ?_⟩
      refine ⟨fun d hd => ?_, fun hl => ?_⟩
      · rw [List.getElem?_map] at hd
        cases hc : z.cps.toList[i]? with
        | none => rw [hc] at hd; cases hd
        | some c =>
          rw [hc] at hd
          cases hd
          have hc' : z.cps[i]? = some c := by rw [← hc]; simp
          refine ⟨⟨c, hc'⟩, fun x H3 hy => ?_⟩
          obtain ⟨e, c', h1, rfl⟩ := hy
          subst e
          rw [hc'] at h1
          cases h1
          exact ⟨Same.refl _, .str _⟩
      · show z.cps.size ≤ i
        rw [List.length_map] at hl
        simpa using hl
    · cases e2
  · cases e2
end
end XW
namespace D3
open PySem
def gIntS : List D → Option D
  | [.str z] => if z.length ≤ 640 then (intText? z).map fun n => .int n else none
  | _ => none
def dSlS (f : FE) (lo hi : FO) : FE := fun δ => (f δ).bind fun x => (lo δ).bind fun a => (hi δ).bind fun b => match x with
  | .str z => if (Txt.slice z a b).length ≤ 1000000 then some (.str (Txt.slice z a b)) else none
  | _ => none
end D3
namespace XW
open PySem PySem.Spec PyProof.Rows L2 My D3
section
variable {prog : Program} {w : World} {A : Around} {E : Value → Shared → Prop} {s : Shared}
theorem part_val {v : Value} {o : Option Int} (h : IsPart v o) : ∃ p : Option (Int × Tok), v = partValue p ∧ o = p.map (·.1) := by
  cases h with
  | none => exact ⟨none, rfl, rfl⟩
  | int i t => exact ⟨some (i, t), rfl, rfl⟩
theorem getItem_strS {z : Str} {t : Tok} {sl : Addr} {vl vu : Value} {lo hi : Option Int} {Q : Value → Shared → Prop} (hs : s.heap.IsSliceOf sl vl vu .none) (pl : IsPart vl lo) (pu : IsPart vu hi) (hz : (Txt.slice z lo hi).length ≤ sizeLine)
    (h : ∀ t' k, Q (.str (Txt.slice z lo hi) t') { s with toks := k }) : wpAny (model prog w) A (getItem (.str z t) (.ref sl)) Q E s := by
  obtain ⟨p1, rfl, rfl⟩ := part_val pl
  obtain ⟨p2, rfl, rfl⟩ := part_val pu
  have ps : s.heap.IsSlice sl p1 p2 none := hs
  unfold getItem
  try with_reducible refine wpAny_holding ?_
  first | refine wpAny_bind (wpAny_pure ?_) | skip
  refine wpAny_bind (wpAny_callSpecial?_slot (name := Str.ofString "__getitem__") (typeIs_str s z t) slot_str_getitem (call_meets slot_str_getitem (typeIs_str s z t) F.entry_str_getitem (F.args_str_getitem_2 _ _) (meets_str_getitem_slice z t sl p1 p2 none rfl) ⟨ps, ?_⟩))
  have e : ((none : Option (Int × Tok)).map (·.1)).getD 1 = 1 := rfl
  unfold sliceMade
  split
  · next hc =>
    rw [Made.post.eq_1]
    refine wpAny_pure ?_
    have e2 : Txt.slice z (p1.map (·.1)) (p2.map (·.1)) = z := if_pos hc
    have := h t s.toks
    rw [e2] at this
    exact this
  · next hc =>
    have e2 : Txt.slice z (p1.map (·.1)) (p2.map (·.1)) = ⟨(List.filterMap (fun i => z.cps[i]?) (slicePicked z p1 p2 none)).toArray⟩ := if_neg hc
    rw [Made.post.eq_3]
    rw [e2] at hz
    refine ⟨hz, wpAny_pure ?_⟩
    have := h s.toks (s.toks + 1)
    rw [e2] at this
    exact this
end
section
variable {X : Cx} {fl : List Fl} {a b e : Expr} {fa fb fe f : FE} {pos apos cpos : Pos}
theorem call_intS : CallR X (.type "int") (fun xs H Q => ∃ (z : Str) (n : Int), xs = [.str z] ∧ intText? z = some n ∧ z.length ≤ 640 ∧ Q (.int n) H) := by
  intro pins s σ H xs us Q I r h
  obtain ⟨z, n, rfl, h1, h2, q⟩ := h
  obtain ⟨u, rfl, t, rfl⟩ := vals1 r
  exact PySem.W.KIN.call_text h1 h2 ⟨.int n, H, I.tok _, ⟨_, rfl⟩, q⟩
theorem de_intS {fl : List Fl} {e : Expr} {fa : FA} {p pos : Pos} (ha : DB X fl .P [e] fa) (hg : Gl X "int") (hm : X.mg "int" = none)
    (he : starEach [e] X.env = (false, eval e X.env) :: starEach [] X.env := by exact star_of rfl) (hpl : (backTo pos (starEach [] X.env)).any (·.1) = false := by exact pl_of rfl) : DE X fl .FC (.Call (.Name "int" p) [e] [] pos) (dCall gIntS fa) :=
  PE.imp (pe_callTy call_intS hg hm boot_int ha (by decide) (by decide) he hpl) fun σ H Q h => by
  obtain ⟨G, ow, δ, d, R, hf, q⟩ := h
  obtain ⟨ds, e1, e2⟩ := bind1 hf
  refine ⟨G, ow, δ, ds, R, e1, fun vs H' s r' => ?_⟩
  unfold gIntS at e2
  split at e2
  · next z =>
    split at e2
    · next hl =>
      cases hn : intText? z with
      | none => rw [hn] at e2; cases e2
      | some n =>
        rw [hn] at e2
        cases e2
        cases r' with
        | cons r1 r2 =>
          cases r2
          obtain rfl := RA.strE r1
          exact ⟨z, n, rfl, hn, hl, q _ H' s (.inl ⟨rfl, .int _⟩)⟩
    · cases e2
  · cases e2
def rSlS : V → Option Int → Option Int → Hp → VK → Prop := fun x lo hi H Q => ∃ z : Str, x = .str z ∧ (Txt.slice z lo hi).length ≤ sizeLine ∧ Q (.str (Txt.slice z lo hi)) H
theorem sl_str : SlR X rSlS := by
  intro pins s σ H x v vl vu lo hi sl Q I rx hs pl pu h
  obtain ⟨z, rfl, hz, q⟩ := h
  obtain ⟨t, rfl⟩ := (show ∃ t, v = Value.str z t from rx)
  exact ⟨"str", _, slot_str_getitem.lookup, typeIs_str s z t, getItem_strS hs pl pu hz fun t' k => ⟨.str _, H, I.tok _, ⟨t', rfl⟩, q⟩⟩
theorem de_slS {lo hi : Option Expr} {p2 : Pos} {fl1 fh : FO} (h : DE X fl .P a f) (h1 : PO X lo (tDO X.K fl fl1)) (h2 : PO X hi (tDO X.K fl fh)) : DE X fl .FC (.Subscript a (.Slice lo hi none p2) pos) (dSlS f fl1 fh) := PE.imp (pe_slice sl_str h h1 h2) fun σ H Q h => by
  obtain ⟨G, ow, δ, d, R, hf, q⟩ := h
  obtain ⟨x, e1, hf⟩ := bind1 hf
  obtain ⟨o1, e2, hf⟩ := bind1 hf
  obtain ⟨o2, e3, e4⟩ := bind1 hf
  refine ⟨G, ow, δ, x, R, e1, fun v H1 s1 r1 => ⟨G, ow, δ, o1, R.grow s1, e2, fun H2 s2 => ⟨G, ow, δ, o2, R.grow (s1.trans s2), e3, fun H3 s3 => ?_⟩⟩⟩
  split at e4
  · split at e4
    · next hz =>
      cases e4
      obtain rfl := RA.strE r1
      exact ⟨_, rfl, Nat.le_trans hz (by decide), q _ _ ((s1.trans s2).trans s3) (.inl ⟨rfl, .str _⟩)⟩
    · cases e4
  · cases e4
end
end XW
namespace D3
open PySem
def gFmt (k : Str) : D → D → Option D := fun x y => match x, y with
  | .str i, .str j => if i.length ≤ 1000000 ∧ j.length ≤ 1000000 ∧ k.length ≤ 1000000 then some (.str (Str.empty ++ i ++ k ++ j)) else none
  | _, _ => none
end D3
namespace XW
open PySem PySem.Spec PyProof.Rows L2 My D3
theorem len_app (a b : Str) : (a ++ b).length = a.length + b.length := by
  show (a.cps ++ b.cps).size = _
  rw [Array.size_append]
  rfl
section
variable {X : Cx} {fl : List Fl} {a b e : Expr} {fa fb : FE} {pos p1 p2 p3 : Pos} {ta tb : TE} {k : Str} {n : Nat}
def tFmt (k : Str) (ta tb : TE) : TE := fun σ H Q => ta σ H fun x H1 => ∃ i : Str, x = .str i ∧ i.length ≤ 1000000 ∧ k.length ≤ 1000000 ∧ tb σ H1 fun y H2 => ∃ j : Str, y = .str j ∧ j.length ≤ 1000000 ∧ Q (.str (Str.empty ++ i ++ k ++ j)) H2
theorem pe_fmt (ha : PE X a ta) (hb : PE X b tb) : PE X (.JoinedStr [.FormattedValue a (-1) none p1, .Constant (.str k) n p2, .FormattedValue b (-1) none p3] pos) (tFmt k ta tb) := by
  intro pins s σ H Q I h
  have sl : sizeLine = 16777216 := sizeLine_eq
  have e0 : (Str.empty).length = 0 := rfl
  refine JoinedStr_many (joinParts_cons (FormattedValue_plain (thn (ha pins s σ H _ I h) fun v s1 ⟨x, H1, I1, r1, q0⟩ => ?_)))
  obtain ⟨i, rfl, hi, hk, q1⟩ := q0
  obtain ⟨t, rfl⟩ := (show ∃ t, v = Value.str i t from r1)
  refine formatField_str (fun t' tk => ?_) (by omega)
  have h1 : (Str.empty ++ i).length = i.length := by rw [len_app, e0]; omega
  refine ⟨by omega, joinParts_cons (Calls.Constant_str ?_)⟩
  have I2 : Inv X pins σ H1 { s1 with toks := tk + 1 } := I1.tok _
  have h3 : (Str.empty ++ i ++ k).length = i.length + k.length := by rw [len_app, h1]
  refine ⟨by omega, ?_⟩
  show wpAny _ _ (joinParts (Str.empty ++ i ++ k) [eval (.FormattedValue b (-1) none p3) X.env]) _ _ _
  refine joinParts_cons (FormattedValue_plain (thn (hb pins _ σ H1 _ I2 q1) fun v2 s2 ⟨y, H2, I3, r2, q2⟩ => ?_))
  obtain ⟨j, rfl, hj, q3⟩ := q2
  obtain ⟨t2, rfl⟩ := (show ∃ t, v2 = Value.str j t from r2)
  refine formatField_str (fun t' tk => ?_) (by omega)
  have h2 : (Str.empty ++ i ++ k ++ j).length ≤ sizeLine := by rw [len_app, h3]; omega
  exact ⟨h2, joinParts_nil ⟨.str _, H2, I3.tok _, ⟨_, rfl⟩, q3⟩ h2⟩
theorem de_fmt (ha : DE X fl .P a fa) (hb : DE X fl .P b fb) : DE X fl .FC (.JoinedStr [.FormattedValue a (-1) none p1, .Constant (.str k) n p2, .FormattedValue b (-1) none p3] pos) (dOp (gFmt k) fa fb) := PE.imp (pe_fmt ha hb) fun σ H Q h => by
  obtain ⟨G, ow, δ, d, R, hf, q⟩ := h
  obtain ⟨x, y, e1, e2, e3⟩ := bind2 hf
  unfold gFmt at e3
  split at e3
  · next i j =>
    split at e3
    · next hc =>
      cases e3
      refine ⟨G, ow, δ, _, R, e1, fun v H1 s1 r1 => ?_⟩
      obtain rfl := RA.strE r1
      refine ⟨i, rfl, hc.1, hc.2.2, G, ow, δ, _, R.grow s1, e2, fun u H2 s2 r2 => ?_⟩
      obtain rfl := RA.strE r2
      exact ⟨j, rfl, hc.2.1, q _ H2 (s1.trans s2) (.inl ⟨rfl, .str _⟩)⟩
    · cases e3
  · cases e3
theorem de_globS {x z : Str} {pos : Pos} (h : ∃ t, X.mg x = some (.str z t)) (hg : Gl X x := by rfl) (hd : (x == ("__debug__" : Str)) = false := by decide) : DE X fl .FC (.Name x pos) (dC (.str z)) := by
  obtain ⟨t, h⟩ := h
  exact de_cst (pe_glob (v := .str z) hg h ⟨t, rfl⟩ hd) rfl fun _ => .str _
end
end XW
namespace D3
open PySem PySem.Spec PyProof.Rows L2 My
section
variable {X : Cx} {fl : List Fl} {e a b : Expr} {es : List Expr} {f fa fb : FE} {fr : FA} {k : Kd} {pos : Pos}
theorem vA (i : Nat) {x : Str} (hfl : fl[i]? = some .A := by rfl) (hN : X.N[i]? = some x := by rfl) (hv : Vis X.env.scope x := by first | exact Or.inl rfl | exact Or.inr (Or.inl rfl) | exact Or.inr (Or.inr rfl)) (hd : (x == ("__debug__" : Str)) = false := by decide)
    (hcd : (x == ("__classdict__" : Str)) = false := by decide) : DE X fl .A (.Name x pos) (dVar i) := de_varA i hfl hN hv hd hcd
theorem vP (i : Nat) {x : Str} (hfl : fl[i]? = some .A := by rfl) (hN : X.N[i]? = some x := by rfl) (hv : Vis X.env.scope x := by first | exact Or.inl rfl | exact Or.inr (Or.inl rfl) | exact Or.inr (Or.inr rfl)) (hd : (x == ("__debug__" : Str)) = false := by decide)
    (hcd : (x == ("__classdict__" : Str)) = false := by decide) : DE X fl .P (.Name x pos) (dVar i) := c_A_P (de_varA i hfl hN hv hd hcd)
theorem vB (i : Nat) {x : Str} (hfl : fl[i]? = some .A := by rfl) (hN : X.N[i]? = some x := by rfl) (hv : Vis X.env.scope x := by first | exact Or.inl rfl | exact Or.inr (Or.inl rfl) | exact Or.inr (Or.inr rfl)) (hd : (x == ("__debug__" : Str)) = false := by decide)
    (hcd : (x == ("__classdict__" : Str)) = false := by decide) : DE X fl (.B []) (.Name x pos) (dVar i) := c_A_B (de_varA i hfl hN hv hd hcd)
theorem iP {i j pos} : DE X fl .P (.Constant (.int i) j pos) (dC (.int i)) := c_FC_P de_int
theorem iC {i j pos} : DE X fl .C (.Constant (.int i) j pos) (dC (.int i)) := c_FC_C de_int
theorem dz : DB X fl k [] dNil := db_nil
theorem dq (h : DE X fl k e f) (hr : DB X fl k es fr) (hk : isR k = true := by rfl) (hs : starEach (e :: es) X.env = (false, eval e X.env) :: starEach es X.env := by exact star_of rfl) : DB X fl k (e :: es) (dCons f fr) := db_cons hk h hr hs
theorem dx {L : List Nat} (ha : DE X fl (.B L) a fa) (hb : DE X fl .P b fb) (hs : PlainIx b := by exact fun _ _ => rfl) : DE X fl .A (.Subscript a b pos) (dOp gIx fa fb) := de_ix ha hb hs
theorem sA {i : Nat} {x : Str} {pos' : Pos} (hN : X.N.Nodup) (h : DE X fl .A e f) (hfl : fl[i]? = some .A := by rfl) (hi : X.N[i]? = some x := by rfl) (hv : X.env.scope.names.lookup x = some .local ∨ X.env.scope.names.lookup x = some .cell := by first | exact Or.inl rfl | exact Or.inr rfl)
    (hs : swapsWith e (some (.Name x pos')) pos.line X.env = pure false := by rfl) (hfn : X.fn x = true ∨ X.env.scope.names.lookup x = some .local := by first | exact .inl rfl | exact .inr rfl) :
    DS1 X fl (.Assign [.Name x pos'] e pos) (sSetl i f) := ds_setA hfl hN hi hv h hs hfn
theorem gN' {i : Nat} {x : Str} {pos : Pos} (hN : X.N.Nodup) (hfl : fl[i]? = some .A := by rfl) (hi : X.N[i]? = some x := by rfl) (hv : X.env.scope.names.lookup x = some .local ∨ X.env.scope.names.lookup x = some .cell := by first | exact Or.inl rfl | exact Or.inr rfl)
    (hfn : X.fn x = true ∨ X.env.scope.names.lookup x = some .local := by first | exact .inl rfl | exact .inr rfl) : DG X fl [i] (.Name x pos) (gNl i) := dg_name hfl hN hi hv hfn
end
theorem fsc {N P : List Str} {sc : Scope} (a : sc.kind = .function := by rfl) (b : sc.isCoroutine = false := by rfl) (c : sc.isGenerator = false := by rfl) (d : N.Nodup := by decide +kernel) (e : N.take P.length = P := by rfl) (f : ∀ x ∈ P, sc.names.lookup x = some .local ∨ sc.names.lookup x = some .cell := by decide +kernel) (g : ∀ y ∈ sc.names, y.2 ≠ .free := by decide +kernel) : FnScope N P sc := ⟨a, b, c, d, e, f, g⟩
end D3
namespace D3
open PySem
def qS (o : Option Oc) (b : FS) : Option Oc := match o with
  | some (.nx δ) => b δ
  | some o => some o
  | none => none
def qI (o : Option Bool) (a b : FS) (δ : DS) : Option Oc := match o with
  | some true => a δ
  | some false => b δ
  | none => none
def qO (g : D → D → Option D) (a b : Option D) : Option D := match a, b with
  | some x, some y => g x y
  | _, _ => none
def qU (g : D → Option D) (a : Option D) : Option D := match a with
  | some x => g x
  | none => none
def qC (a : Option D) (r : Option (List D)) : Option (List D) := match a, r with
  | some x, some l => some (x :: l)
  | _, _ => none
def qF (F : List D → Option D) (l : Option (List D)) : Option D := match l with
  | some l => F l
  | none => none
def qR (a : Option D) : Option Oc := match a with
  | some d => some (.rt d)
  | none => none
def qSet (i : Nat) (a : Option D) (δ : DS) : Option Oc := match a with
  | some d => if i < δ.length then some (.nx (δ.set i (some (.d d)))) else none
  | none => none
def qAnd (a : Option D) (fb : FE) (δ : DS) : Option D := match a with
  | some (.bool true) => fb δ
  | some (.bool false) => some (.bool false)
  | _ => none
def qOr (a : Option D) (fb : FE) (δ : DS) : Option D := match a with
  | some (.bool true) => some (.bool true)
  | some (.bool false) => fb δ
  | _ => none
def qN (a : Option D) : Option D := match a with
  | some (.bool b) => some (.bool (!b))
  | _ => none
def qB (a : Option D) : Option Bool := match a with
  | some (.bool b) => some b
  | _ => none
def qTA (a : Option Bool) (b : FT) (δ : DS) : Option Bool := match a with
  | some true => b δ
  | some false => some false
  | none => none
def qTO (a : Option Bool) (b : FT) (δ : DS) : Option Bool := match a with
  | some true => some true
  | some false => b δ
  | none => none
def qTN (a : Option Bool) : Option Bool := match a with
  | some b => some (!b)
  | none => none
def qE (a : Option Bool) (fa fb : FE) (δ : DS) : Option D := match a with
  | some true => fa δ
  | some false => fb δ
  | none => none
def qL (a : Option D) : Option (List D) := match a with
  | some (.list l) => some l
  | _ => none
def qFor (a : Option (List D)) (g : FG) (b : FS) (δ : DS) : Option Oc := match a with
  | some l => forD g b l δ
  | none => none
def qD (a : Option DS) : Option Oc := match a with
  | some δ => some (.nx δ)
  | none => none
def qG (a : Option D) (g : FG) (δ : DS) : Option DS := match a with
  | some d => g d δ
  | none => none
def qGs (a : Option DS) (r : List D → DS → Option DS) (l : List D) : Option DS := match a with
  | some δ => r l δ
  | none => none
def qT (a : Option (List D)) : Option D := match a with
  | some l => if l.length ≤ sizeLine then some (.tuple l) else none
  | none => none
def qK (a : Option (List D)) : Option D := match a with
  | some l => if l.length ≤ sizeLine then some (.list l) else none
  | none => none
def qFl (p : D → Bool) (a : Option D) : Option D := match a with
  | some d => if p d = true then some d else none
  | none => none
def qA (i : Nat) (x a : Option D) (δ : DS) : Option Oc := match x, a with
  | some (.list l), some d => if l.length < 1000000 then some (.nx (δ.set i (some (.d (.list (l ++ [d])))))) else none
  | _, _ => none
def qP (i : Nat) (a x k : Option D) (δ : DS) : Option Oc := match a, x, k with
  | some d, some (.list l), some (.int j) => (pIx l.length j).bind fun n => some (.nx (δ.set i (some (.d (.list (l.set n d))))))
  | _, _, _ => none
def qCh (g' : D → D → Option D) (z : Option D) (y : Option D) (fc : FE) (δ : DS) : Option D := match z with
  | some (.bool true) => qO g' y (fc δ)
  | some (.bool false) => some (.bool false)
  | _ => none
def qFn (o : Option Oc) : Option D := match o with
  | some (.rt d) => some d
  | some (.nx _) => some .none
  | _ => none
def qCo (a : Option (List D)) (g : FG) (c : FT) (e : FE) (t : Nat) (ix : List Nat) (δ : DS) : Option D := match a with
  | some l => if l.length ≤ 100000 then (match compD g c e (capD t ix δ) l with | some r => some (.list r) | none => none) else none
  | none => none
section
variable {a b : FS} {c c' : FT} {fa fb fc : FE} {fr : FA} {δ : DS} {g : D → D → Option D} {h : D → Option D} {F : List D → Option D} {i : Nat} {G : FG} {d : D}
theorem v_seq : sSeq a b δ = qS (a δ) b := by
  unfold sSeq qS
  cases a δ with
  | none => rfl
  | some o => cases o <;> rfl
theorem v_seq_nx {δ' : DS} : qS (some (.nx δ')) b = b δ' := rfl
theorem v_seq_rt : qS (some (.rt d)) b = some (.rt d) := rfl
theorem v_seq_bk {δ' : DS} : qS (some (.bk δ')) b = some (.bk δ') := rfl
theorem v_seq_ct {δ' : DS} : qS (some (.ct δ')) b = some (.ct δ') := rfl
theorem v_nil : sNil δ = some (.nx δ) := rfl
theorem v_bk : sBk δ = some (.bk δ) := rfl
theorem v_ct : sCt δ = some (.ct δ) := rfl
theorem v_if : sIf c a b δ = qI (c δ) a b δ := by
  unfold sIf qI
  cases c δ with
  | none => rfl
  | some t => cases t <;> rfl
theorem v_if_t : qI (some true) a b δ = a δ := rfl
theorem v_if_f : qI (some false) a b δ = b δ := rfl
theorem v_op : dOp g fa fb δ = qO g (fa δ) (fb δ) := by
  unfold dOp qO
  cases fa δ <;> cases fb δ <;> rfl
theorem v_op_s {x y : D} : qO g (some x) (some y) = g x y := rfl
theorem v_un : dUn h fa δ = qU h (fa δ) := by
  unfold dUn qU
  cases fa δ <;> rfl
theorem v_un_s {x : D} : qU h (some x) = h x := rfl
theorem v_lnil : dNil δ = some [] := rfl
theorem v_lcons : dCons fa fr δ = qC (fa δ) (fr δ) := by
  unfold dCons qC
  cases fa δ <;> cases fr δ <;> rfl
theorem v_lcons_s {x : D} {l : List D} : qC (some x) (some l) = some (x :: l) := rfl
theorem v_call : dCall F fr δ = qF F (fr δ) := by
  unfold dCall qF
  cases fr δ <;> rfl
theorem v_call_s {l : List D} : qF F (some l) = F l := rfl
theorem v_ret : sRet fa δ = qR (fa δ) := by
  unfold sRet qR
  cases fa δ <;> rfl
theorem v_ret_s : qR (some d) = some (.rt d) := rfl
theorem v_retN : sRetN δ = some (.rt .none) := rfl
theorem v_set : sSetl i fa δ = qSet i (fa δ) δ := by
  unfold sSetl sSet qSet
  cases fa δ with
  | none => simp
  | some d => rfl
theorem v_set_s : qSet i (some d) δ = if i < δ.length then some (.nx (δ.set i (some (.d d)))) else none := rfl
theorem v_c : dC d δ = some d := rfl
theorem v_and : dAnd fa fb δ = qAnd (fa δ) fb δ := by
  unfold dAnd qAnd
  cases fa δ with
  | none => rfl
  | some x =>
    cases x <;> try rfl
    next b => cases b <;> rfl
theorem v_and_t : qAnd (some (.bool true)) fb δ = fb δ := rfl
theorem v_and_f : qAnd (some (.bool false)) fb δ = some (.bool false) := rfl
theorem v_or : dOr fa fb δ = qOr (fa δ) fb δ := by
  unfold dOr qOr
  cases fa δ with
  | none => rfl
  | some x =>
    cases x <;> try rfl
    next b => cases b <;> rfl
theorem v_or_t : qOr (some (.bool true)) fb δ = some (.bool true) := rfl
theorem v_or_f : qOr (some (.bool false)) fb δ = fb δ := rfl
theorem v_not : dNot fa δ = qN (fa δ) := by
  unfold dNot qN
  cases fa δ with
  | none => rfl
  | some x => cases x <;> rfl
theorem v_not_s {b : Bool} : qN (some (.bool b)) = some (.bool (!b)) := rfl
theorem v_tb : tBool fa δ = qB (fa δ) := by
  unfold tBool qB
  cases fa δ with
  | none => rfl
  | some x => cases x <;> rfl
theorem v_tb_s {b : Bool} : qB (some (.bool b)) = some b := rfl
theorem v_tand : D3.tAnd c c' δ = qTA (c δ) c' δ := by
  unfold D3.tAnd qTA
  cases c δ with
  | none => rfl
  | some t => cases t <;> rfl
theorem v_tand_t : qTA (some true) c δ = c δ := rfl
theorem v_tand_f : qTA (some false) c δ = some false := rfl
theorem v_tor : D3.tOr c c' δ = qTO (c δ) c' δ := by
  unfold D3.tOr qTO
  cases c δ with
  | none => rfl
  | some t => cases t <;> rfl
theorem v_tor_t : qTO (some true) c δ = some true := rfl
theorem v_tor_f : qTO (some false) c δ = c δ := rfl
theorem v_tnot : D3.tNot c δ = qTN (c δ) := by
  unfold D3.tNot qTN
  cases c δ <;> rfl
theorem v_tnot_s {b : Bool} : qTN (some b) = some (!b) := rfl
theorem v_ite : dIf c fa fb δ = qE (c δ) fa fb δ := by
  unfold dIf qE
  cases c δ with
  | none => rfl
  | some t => cases t <;> rfl
theorem v_ite_t : qE (some true) fa fb δ = fa δ := rfl
theorem v_ite_f : qE (some false) fa fb δ = fb δ := rfl
theorem v_lst : fLst fa δ = qL (fa δ) := by
  unfold fLst qL asList
  cases fa δ with
  | none => rfl
  | some x => cases x <;> rfl
theorem v_lst_s {l : List D} : qL (some (.list l)) = some l := rfl
theorem v_for : sFor fr G b δ = qFor (fr δ) G b δ := by
  unfold sFor qFor
  cases fr δ <;> rfl
theorem v_for_s {l : List D} : qFor (some l) G b δ = forD G b l δ := rfl
theorem v_for_nil : forD G b [] δ = some (.nx δ) := rfl
theorem v_asg : sAsg fa G δ = qD (qG (fa δ) G δ) := by
  unfold sAsg qG qD
  cases fa δ with
  | none => rfl
  | some d =>
    dsimp only [Option.bind_some]
    cases G d δ <;> rfl
theorem v_asg_s : qG (some d) G δ = G d δ := rfl
theorem v_asg_d {δ' : DS} : qD (some δ') = some (.nx δ') := rfl
theorem v_gn : gNl i d δ = if i < δ.length then some (δ.set i (some (.d d))) else none := rfl
theorem v_gt {n : Nat} {gs : List D → DS → Option DS} {l : List D} : gTn n gs (.tuple l) δ = if l.length = n then gs l δ else none := rfl
theorem v_gsn : gsNil [] δ = some δ := rfl
theorem v_gsc {gs : List D → DS → Option DS} {l : List D} : gsCons G gs (d :: l) δ = qGs (G d δ) gs l := by
  show (G d δ).bind (fun δ' => gs l δ') = qGs (G d δ) gs l
  cases G d δ <;> rfl
theorem v_gsc_s {gs : List D → DS → Option DS} {l : List D} {δ' : DS} : qGs (some δ') gs l = gs l δ' := rfl
theorem v_tup : dTup fr δ = qT (fr δ) := by
  unfold dTup qT
  cases fr δ <;> rfl
theorem v_tup_s {l : List D} : qT (some l) = if l.length ≤ sizeLine then some (.tuple l) else none := rfl
theorem v_dl : dLst fr δ = qK (fr δ) := by
  unfold dLst qK
  cases fr δ <;> rfl
theorem v_dl_s {l : List D} : qK (some l) = if l.length ≤ sizeLine then some (.list l) else none := rfl
theorem v_flat : dFlat fa δ = qFl flat (fa δ) := by
  unfold dFlat qFl
  cases fa δ <;> rfl
theorem v_fl1 : dFl1 fa δ = qFl fl1 (fa δ) := by
  unfold dFl1 qFl
  cases fa δ <;> rfl
theorem v_fl_s {p : D → Bool} : qFl p (some d) = if p d = true then some d else none := rfl
theorem v_app : sApp i fa δ = qA i (dVar i δ) (fa δ) δ := by
  unfold sApp qA
  cases dVar i δ with
  | none => rfl
  | some x =>
    cases fa δ with
    | none => cases x <;> rfl
    | some d => cases x <;> rfl
theorem v_app_s {l : List D} : qA i (some (.list l)) (some d) δ = if l.length < 1000000 then some (.nx (δ.set i (some (.d (.list (l ++ [d])))))) else none := rfl
theorem v_put {fk : FE} : sPut i fk fa δ = qP i (fa δ) (dVar i δ) (fk δ) δ := by
  unfold sPut qP
  cases fa δ with
  | none => rfl
  | some d =>
    cases dVar i δ with
    | none => rfl
    | some x =>
      cases fk δ with
      | none => cases x <;> rfl
      | some k => cases x <;> cases k <;> rfl
theorem v_put_s {l : List D} {j : Int} : qP i (some d) (some (.list l)) (some (.int j)) δ = (pIx l.length j).bind fun n => some (.nx (δ.set i (some (.d (.list (l.set n d)))))) := rfl
theorem v_chain {g' : D → D → Option D} : dChain g g' fa fb fc δ = qCh g' (qO g (fa δ) (fb δ)) (fb δ) fc δ := by
  unfold dChain qCh qO
  cases fa δ with
  | none => rfl
  | some x =>
    cases fb δ with
    | none => rfl
    | some y =>
      dsimp only [Option.bind_some]
      cases g x y with
      | none => rfl
      | some z =>
        cases z <;> try rfl
        next b =>
        cases b with
        | false => rfl
        | true => dsimp only [Option.bind_some]; cases fc δ <;> rfl
theorem v_chain_t {g' : D → D → Option D} {y : Option D} : qCh g' (some (.bool true)) y fc δ = qO g' y (fc δ) := rfl
theorem v_chain_f {g' : D → D → Option D} {y : Option D} : qCh g' (some (.bool false)) y fc δ = some (.bool false) := rfl
theorem v_fn {p q : Nat} {ds : List D} : fnD p q b ds = if ds.length = p then qFn (b (ds.map (fun d => some (.d d)) ++ List.replicate q none)) else none := by
  unfold fnD qFn
  rfl
theorem v_fn_rt : qFn (some (.rt d)) = some d := rfl
theorem v_fn_nx {δ' : DS} : qFn (some (.nx δ')) = some .none := rfl
theorem v_comp {t : Nat} {ix : List Nat} : dComp fr G c fa t ix δ = qCo (fr δ) G c fa t ix δ := by
  unfold dComp qCo
  cases fr δ with
  | none => rfl
  | some l =>
    dsimp only [Option.bind_some]
    by_cases z : l.length ≤ 100000
    · rw [if_pos z, if_pos z]
      cases compD G c fa (capD t ix δ) l <;> rfl
    · rw [if_neg z, if_neg z]
theorem v_comp_s {t : Nat} {ix : List Nat} {l : List D} : qCo (some l) G c fa t ix δ = if l.length ≤ 100000 then (match compD G c fa (capD t ix δ) l with | some r => some (.list r) | none => none) else none := rfl
theorem v_yes : D3.tYes δ = some true := rfl
theorem v_var0 {r : DS} {x : D} : dVar 0 (some (.d x) :: r) = some x := rfl
theorem v_varS {r : DS} {y : Option U} : dVar (i + 1) (y :: r) = dVar i r := rfl
end
section
variable {i j : Int} {l m : List D} {d : D}
theorem n_add : gAdd (.int i) (.int j) = some (.int (i + j)) := rfl
theorem n_sub : gSub (.int i) (.int j) = some (.int (i - j)) := rfl
theorem n_lt : gLt (.int i) (.int j) = some (.bool (decide (i < j))) := rfl
theorem n_le : gLe (.int i) (.int j) = some (.bool (decide (i ≤ j))) := rfl
theorem n_gt : gGt (.int i) (.int j) = some (.bool (decide (j < i))) := rfl
theorem n_ge : gGe (.int i) (.int j) = some (.bool (decide (j ≤ i))) := rfl
theorem n_eqI : gEq (.int i) (.int j) = some (.bool (decide (i = j))) := rfl
theorem n_neI : gNe (.int i) (.int j) = some (.bool (!decide (i = j))) := rfl
theorem n_len : gLen [.list l] = some (.int l.length) := rfl
theorem n_lenT : gLen [.tuple l] = some (.int l.length) := rfl
theorem n_abs : gAbs [.int i] = some (.int (if i < 0 then -i else i)) := rfl
theorem n_max : gMax2 [.int i, .int j] = some (.int (if j > i then j else i)) := rfl
theorem n_min : gMin2 [.int i, .int j] = some (.int (if j < i then j else i)) := rfl
theorem n_neg : gNeg (.int i) = some (.int (-i)) := rfl
theorem n_ix : gIx (.list l) (.int i) = pAt l i := rfl
theorem n_ixT : gIx (.tuple l) (.int i) = pAt l i := rfl
theorem n_cat : gCat (.list l) (.list m) = if l.length + m.length ≤ 1000000 then some (.list (l ++ m)) else none := rfl
theorem n_list : gList (.list l) = some (.list l) := rfl
theorem n_listT : gList (.tuple l) = some (.list l) := rfl
theorem n_at0 : pAt (d :: l) 0 = some d := by
  unfold pAt pIx
  rw [if_pos (by decide), if_pos (by simp)]
  rfl
end
def qPar (i j : Nat) (a : Option (List D)) (δ : DS) : Option Oc := match a with
  | some l => match l with
    | [x, y] => if i < δ.length ∧ j < δ.length then some (.nx ((δ.set i (some (.d x))).set j (some (.d y)))) else none
    | _ => none
  | none => none
def qRng1 (a : Option (List D)) : Option (List D) := match a with
  | some l => match l with
    | [.int j] => if rngG j = true then some (rngD 0 j) else none
    | _ => none
  | none => none
def qRng2 (a : Option (List D)) : Option (List D) := match a with
  | some l => match l with
    | [.int i, .int j] => if (rngG i && rngG j) = true then some (rngD i j) else none
    | _ => none
  | none => none
def qSl (x : Option D) (a b : Option (Option Int)) : Option D := match x, a, b with
  | some (.list l), some a, some b => some (.list (cutD l a b))
  | _, _, _ => none
def qOP (x : Option D) : Option (Option Int) := match x with
  | some (.int i) => some (some i)
  | _ => none
def qEn (x : Option D) : Option (List D) := match x with
  | some (.list l) => some (enumD l)
  | _ => none
section
variable {a b : FS} {fa : FE} {fr : FA} {δ : DS} {i j : Nat} {g : FG}
theorem v_par : sPar i j fr δ = qPar i j (fr δ) δ := by
  unfold sPar qPar
  cases fr δ with
  | none => rfl
  | some l => rfl
theorem v_par_s {x y : D} : qPar i j (some [x, y]) δ = if i < δ.length ∧ j < δ.length then some (.nx ((δ.set i (some (.d x))).set j (some (.d y)))) else none := rfl
theorem v_rng1 : fRng1 fr δ = qRng1 (fr δ) := by
  unfold fRng1 qRng1
  cases fr δ with
  | none => rfl
  | some l => rfl
theorem rng1 {k : Int} (h : -(2 ^ 62) ≤ k) (h2 : k < 2 ^ 62) : qRng1 (some [.int k]) = some (rngD 0 k) := by
  show (if rngG k = true then some (rngD 0 k) else none) = _
  rw [if_pos]
  unfold rngG
  rw [decide_eq_true h, decide_eq_true h2]
  rfl
theorem v_rng2 : fRng2 fr δ = qRng2 (fr δ) := by
  unfold fRng2 qRng2
  cases fr δ with
  | none => rfl
  | some l => rfl
theorem v_sl {lo hi : FO} : dSl fa lo hi δ = qSl (fa δ) (lo δ) (hi δ) := by
  unfold dSl qSl
  cases fa δ with
  | none => rfl
  | some x =>
    dsimp only [Option.bind_some]
    cases lo δ with
    | none => cases x <;> rfl
    | some p =>
      dsimp only [Option.bind_some]
      cases hi δ with
      | none => cases x <;> rfl
      | some r => cases x <;> rfl
theorem v_sl_s {l : List D} {p r : Option Int} : qSl (some (.list l)) (some p) (some r) = some (.list (cutD l p r)) := rfl
theorem v_oN : oNone δ = some none := rfl
theorem v_oP : oPart fa δ = qOP (fa δ) := by
  unfold oPart qOP
  cases fa δ with
  | none => rfl
  | some x => cases x <;> rfl
theorem v_oP_s {k : Int} : qOP (some (.int k)) = some (some k) := rfl
theorem v_enum : fEnum fa δ = qEn (fa δ) := by
  unfold fEnum qEn
  cases fa δ with
  | none => rfl
  | some x => cases x <;> rfl
theorem v_enum_s {l : List D} : qEn (some (.list l)) = some (enumD l) := rfl
theorem for_inv (Inv : Nat → DS → Prop) : ∀ (l : List D) (δ : DS), Inv 0 δ → (∀ i d δ, l[i]? = some d → Inv i δ → ∃ δ1 δ', g d δ = some δ1 ∧ (b δ1 = some (.nx δ') ∨ b δ1 = some (.ct δ')) ∧ Inv (i + 1) δ') → ∃ δ', forD g b l δ = some (.nx δ') ∧ Inv l.length δ' := by
  have key : ∀ (l : List D) (k : Nat) (δ : DS), Inv k δ → (∀ i d δ, l[i]? = some d → Inv (k + i) δ → ∃ δ1 δ', g d δ = some δ1 ∧ (b δ1 = some (.nx δ') ∨ b δ1 = some (.ct δ')) ∧ Inv (k + i + 1) δ') → ∃ δ', forD g b l δ = some (.nx δ') ∧ Inv (k + l.length) δ' := by
    intro l
    induction l with
    | nil => exact fun k δ h _ => ⟨δ, rfl, h⟩
    | cons d r ih =>
      intro k δ h hs
      obtain ⟨δ1, δ', e1, e2, e3⟩ := hs 0 d δ rfl h
      obtain ⟨δ2, e4, e5⟩ := ih (k + 1) δ' e3 fun i d' δ'' hd hi => by
        have := hs (i + 1) d' δ'' (by simpa using hd) (by rw [show k + (i + 1) = k + 1 + i by omega]; exact hi)
        rw [show k + (i + 1) + 1 = k + 1 + i + 1 by omega] at this
        exact this
      refine ⟨δ2, ?_, by rw [List.length_cons, show k + (r.length + 1) = k + 1 + r.length by omega]; exact e5⟩
      rw [forD, e1, Option.bind_some]
      rcases e2 with e2 | e2
      · rw [e2]; exact e4
      · rw [e2]; exact e4
  intro l δ h hs
  have := key l 0 δ h fun i d δ hd hi => by
    have := hs i d δ hd (by rw [Nat.zero_add] at hi; exact hi)
    rw [Nat.zero_add]
    exact this
  rw [Nat.zero_add] at this
  exact this
end
def qX (a : Option D) (δ : DS) : Option Oc := match a with
  | some _ => some (.nx δ)
  | none => none
theorem v_expr {fa : FE} {δ : DS} : sExpr fa δ = qX (fa δ) δ := by
  unfold sExpr qX
  cases fa δ <;> rfl
theorem v_expr_s {d : D} {δ : DS} : qX (some d) δ = some (.nx δ) := rfl
theorem v_chain3 {g g' g'' : D → D → Option D} {fa fb fc fd : FE} {δ : DS} : dChain3 g g' g'' fa fb fc fd δ = qAnd (qO g (fa δ) (fb δ)) (dChain g' g'' fb fc fd) δ := by
  unfold dChain3 qAnd dChain qO
  cases fa δ with
  | none => rfl
  | some x =>
    cases fb δ with
    | none => rfl
    | some y =>
      dsimp only [Option.bind_some]
      cases g x y with
      | none => rfl
      | some z =>
        cases z <;> try rfl
        next b => cases b <;> rfl
def qZ (a b : Option D) : Option (List D) := match a, b with
  | some (.list l), some (.list m) => some (zipD l m)
  | _, _ => none
theorem v_zip {f g : FE} {δ : DS} : fZip f g δ = qZ (f δ) (g δ) := by
  unfold fZip qZ
  cases f δ with
  | none => rfl
  | some x =>
    cases g δ with
    | none => cases x <;> rfl
    | some y => cases x <;> cases y <;> rfl
theorem v_zip_s {l m : List D} : qZ (some (.list l)) (some (.list m)) = some (zipD l m) := rfl
theorem v_n1 {fa : FE} {δ : DS} : dN1 fa δ = qFl (fun d => decide (nl d ≤ 1)) (fa δ) := by
  unfold dN1 qFl
  cases fa δ <;> rfl
theorem f_non : flat .none = true := rfl
theorem f_bl {b : Bool} : flat (.bool b) = true := rfl
theorem f_int {i : Int} : flat (.int i) = true := rfl
theorem f_str {x : Str} : flat (.str x) = true := rfl
theorem f_lst {l : List D} : flat (.list l) = false := rfl
theorem f_tup {l : List D} : flat (.tuple l) = flats l := rfl
theorem f_nil : flats [] = true := rfl
theorem f_cons {d : D} {l : List D} : flats (d :: l) = (flat d && flats l) := rfl
theorem f1_non : fl1 .none = true := rfl
theorem f1_bl {b : Bool} : fl1 (.bool b) = true := rfl
theorem f1_int {i : Int} : fl1 (.int i) = true := rfl
theorem f1_str {x : Str} : fl1 (.str x) = true := rfl
theorem f1_lst {l : List D} : fl1 (.list l) = flats l := rfl
theorem f1_tup {l : List D} : fl1 (.tuple l) = flats l := rfl
theorem u_is {c : String} {d : D} : gIs c d = some (.bool (isT c (tyD d))) := rfl
theorem u_isN {d : D} : gIsN d = some (.bool (isNone d)) := rfl
theorem u_notN {d : D} : gNotN d = some (.bool (!isNone d)) := rfl
theorem n_non : isNone .none = true := rfl
theorem n_bl {b : Bool} : isNone (.bool b) = false := rfl
theorem n_int {i : Int} : isNone (.int i) = false := rfl
theorem n_str {x : Str} : isNone (.str x) = false := rfl
theorem n_lst {l : List D} : isNone (.list l) = false := rfl
theorem n_tup {l : List D} : isNone (.tuple l) = false := rfl
theorem n_dic {l : List (D × D)} : isNone (.dict l) = false := rfl
def EVL := And.intro @f_non <| And.intro @f_bl <| And.intro @f_int <| And.intro @f_str <| And.intro @f_lst <| And.intro @f_tup <| And.intro @f_nil <| And.intro @f_cons <| And.intro @f1_non <| And.intro @f1_bl <| And.intro @f1_int <| And.intro @f1_str <| And.intro @f1_lst <| And.intro @f1_tup <| And.intro @u_is <| And.intro @u_isN <| And.intro @u_notN <| And.intro @n_non <| And.intro @n_bl <| And.intro @n_int <| And.intro @n_str <| And.intro @n_lst <| And.intro @n_tup <| And.intro @n_dic <| And.intro @List.length_cons.{0} <| And.intro @List.length_nil.{0} <| And.intro @List.map_cons.{0, 0} <| And.intro @List.map_nil.{0, 0} <| And.intro @List.replicate_succ.{0} <| And.intro @List.replicate_zero.{0} <| And.intro @List.cons_append.{0} <| And.intro @List.nil_append.{0} <| And.intro @List.append_nil.{0} <| And.intro @List.set_cons_zero.{0} <| And.intro @List.set_cons_succ.{0} <| And.intro @Nat.zero_add <| And.intro @if_true.{1} <| And.intro @decide_true <| And.intro @decide_false <| And.intro @Int.cast_ofNat_Int <| And.intro @Bool.not_true <| And.intro @Bool.not_false <| @Bool.and_self
def EV := And.intro EVL <| And.intro @v_n1 <| And.intro @v_zip <| And.intro @v_zip_s <| And.intro @v_expr <| And.intro @v_expr_s <| And.intro @v_chain3 <| And.intro @v_seq (And.intro @v_seq_nx (And.intro @v_seq_rt (And.intro @v_seq_bk (And.intro @v_seq_ct (And.intro @v_nil (And.intro @v_bk (And.intro @v_ct (And.intro @v_if (And.intro @v_if_t (And.intro @v_if_f (And.intro @v_op (And.intro @v_op_s (And.intro @v_un (And.intro @v_un_s (And.intro @v_lnil (And.intro @v_lcons (And.intro @v_lcons_s (And.intro @v_call (And.intro @v_call_s (And.intro @v_ret (And.intro @v_ret_s (And.intro @v_retN (And.intro @v_set (And.intro @v_set_s (And.intro @v_c (And.intro @v_and (And.intro @v_and_t (And.intro @v_and_f (And.intro @v_or (And.intro @v_or_t (And.intro @v_or_f (And.intro @v_not (And.intro @v_not_s (And.intro @v_tb (And.intro @v_tb_s (And.intro @v_tand (And.intro @v_tand_t (And.intro @v_tand_f (And.intro @v_tor (And.intro @v_tor_t (And.intro @v_tor_f (And.intro @v_tnot (And.intro @v_tnot_s (And.intro @v_ite (And.intro @v_ite_t (And.intro @v_ite_f (And.intro @v_lst (And.intro @v_lst_s (And.intro @v_for (And.intro @v_for_s (And.intro @v_for_nil (And.intro @v_asg (And.intro @v_asg_s (And.intro @v_asg_d (And.intro @v_gn (And.intro @v_gt (And.intro @v_gsn (And.intro @v_gsc (And.intro @v_gsc_s (And.intro @v_tup (And.intro @v_tup_s (And.intro @v_dl (And.intro @v_dl_s (And.intro @v_flat (And.intro @v_fl1 (And.intro @v_fl_s (And.intro @v_app (And.intro @v_app_s (And.intro @v_put (And.intro @v_put_s (And.intro @v_chain (And.intro @v_chain_t (And.intro @v_chain_f (And.intro @v_fn (And.intro @v_fn_rt (And.intro @v_fn_nx (And.intro @v_comp (And.intro @v_comp_s (And.intro @v_yes (And.intro @v_var0 (And.intro @v_varS (And.intro @n_add (And.intro @n_sub (And.intro @n_lt (And.intro @n_le (And.intro @n_gt (And.intro @n_ge (And.intro @n_eqI (And.intro @n_neI (And.intro @n_len (And.intro @n_lenT (And.intro @n_abs (And.intro @n_max (And.intro @n_min (And.intro @n_neg (And.intro @n_ix (And.intro @n_ixT (And.intro @n_cat (And.intro @n_list (And.intro @n_listT (And.intro @n_at0 (And.intro @v_par (And.intro @v_par_s (And.intro @v_rng1 (And.intro @v_rng2 (And.intro @v_sl (And.intro @v_sl_s (And.intro @v_oN (And.intro @v_oP (And.intro @v_oP_s (And.intro @v_enum @v_enum_s)))))))))))))))))))))))))))))))))))))))))))))))))))))))))))))))))))))))))))))))))))))))))))))))))))))))))))))))
end D3
namespace My
def cellF (ns : List Int) (i : Int) : Int :=
  if i < (ns.length : Int) then ns.getD i.toNat 0 % 1000000007
  else if ns = [] then 7919 * i + 5000011
  else ns.getD (i * 7 % (ns.length : Int)).toNat 0 % 1000000007 + 7919 * i
def divs (n : Int) : Nat → Int
  | 0 => n
  | k + 1 => divs n k / 1000003
def drawF (c i k m : Int) : Int :=
  (((c + 65537 * i + 3) * (1299709 + 15485863 * k) % 2147483629 * ((c + 65537 * i + 3) * (1299709 + 15485863 * k) % 2147483629) % 1500450271 + 104729) *
    ((c + 65537 * i + 3) * (1299709 + 15485863 * k) % 2147483629 * ((c + 65537 * i + 3) * (1299709 + 15485863 * k) % 2147483629) % 1500450271 + 104729)) % 715827883 / 64 % m
def partF (ns : List Int) (i k m : Int) : Int :=
  if i < (ns.length : Int) ∧ 10 ^ 40 ≤ ns.getD i.toNat 0 ∧ 0 < divs (ns.getD i.toNat 0) k.toNat then divs (ns.getD i.toNat 0) k.toNat % 1000003 % m
  else drawF (cellF ns i) i k m
theorem partF_range (ns : List Int) (i k : Int) {m : Int} (h : 0 < m) : 0 ≤ partF ns i k m ∧ partF ns i k m < m := by
  unfold partF drawF
  split
  · exact ⟨Int.emod_nonneg _ (by omega), Int.emod_lt_of_pos _ h⟩
  · exact ⟨Int.emod_nonneg _ (by omega), Int.emod_lt_of_pos _ h⟩
theorem partF_hit {ns : List Int} {i k m : Int} (h1 : i < (ns.length : Int)) (h2 : 10 ^ 40 ≤ ns.getD i.toNat 0) (h3 : 0 < divs (ns.getD i.toNat 0) k.toNat) :
    partF ns i k m = divs (ns.getD i.toNat 0) k.toNat % 1000003 % m := by
  unfold partF
  rw [if_pos ⟨h1, h2, h3⟩]
theorem partF_miss {ns : List Int} {i k m : Int} (h : ¬ (i < (ns.length : Int) ∧ 10 ^ 40 ≤ ns.getD i.toNat 0 ∧ 0 < divs (ns.getD i.toNat 0) k.toNat)) :
    partF ns i k m = drawF (cellF ns i) i k m := by
  unfold partF
  rw [if_neg h]
def gcdI (a b : Int) : Int := ((Nat.gcd a.natAbs b.natAbs : Nat) : Int)
theorem gcdI_zero {a : Int} (h : 0 ≤ a) : gcdI a 0 = a := by
  unfold gcdI
  simp
  omega
theorem gcdI_step {a b : Int} (ha : 0 ≤ a) (hb : 0 < b) : gcdI b (a % b) = gcdI a b := by
  unfold gcdI
  have e : (a % b).natAbs = a.natAbs % b.natAbs := by
    rw [Int.natAbs_emod_of_nonneg ha]
  rw [e, Nat.gcd_comm b.natAbs, ← Nat.gcd_rec b.natAbs a.natAbs, Nat.gcd_comm]
end My
namespace Com
open PySem D3
noncomputable def F_is_whole : List D → Option D := fnD 1 0 (sRet (dAnd (dUn (gIs "int") (dVar 0)) (dNot (dUn (gIs "bool") (dVar 0)))))
noncomputable def F_greatest_divisor : List D → Option D := fnD 2 1 (sSeq (sWhile (tBool (dOp gNe (dVar 1) (dC (.int 0)))) (sSeq (sSetl 2 (dOp gMod (dVar 0) (dVar 1)))
    (sSeq (sSetl 0 (dVar 1))
    (sSetl 1 (dVar 2)))))
    (sRet (dFlat (dVar 0))))
noncomputable def F__law_cell : List D → Option D := fnD 2 0 (sSeq (sIf (tBool (dOp gLt (dVar 1) (dCall gLen (dCons (dVar 0) (dNil))))) (sRet (dOp gMod (dOp gIx (dVar 0) (dVar 1)) (dC (.int 1000000007)))) (sNil))
    (sSeq (sIf (tBool (dOp gEq (dVar 0) (dLst (dNil)))) (sRet (dOp gAdd (dOp gMul (dC (.int 7919)) (dVar 1)) (dC (.int 5000011)))) (sNil))
    (sRet (dOp gAdd (dOp gMod (dOp gIx (dVar 0) (dOp gMod (dOp gMul (dVar 1) (dC (.int 7))) (dCall gLen (dCons (dVar 0) (dNil))))) (dC (.int 1000000007))) (dOp gMul (dC (.int 7919)) (dVar 1))))))
noncomputable def F__law_part : List D → Option D := fnD 4 2 (sSeq (sIf (D3.tAnd (tBool (dOp gLt (dVar 1) (dCall gLen (dCons (dVar 0) (dNil))))) (tBool (dOp gGe (dOp gIx (dVar 0) (dVar 1)) (dOp gPow (dC (.int 10)) (dC (.int 40)))))) (sSeq (sSetl 4 (dOp gIx (dVar 0) (dVar 1)))
    (sSeq (sFor (fRng1 (dCons (dVar 2) (dNil))) (gNl 5) (sSetl 4 (dOp gDiv (dVar 4) (dC (.int 1000003)))))
    (sIf (tBool (dOp gGt (dVar 4) (dC (.int 0)))) (sRet (dOp gMod (dOp gMod (dVar 4) (dC (.int 1000003))) (dVar 3))) (sNil)))) (sNil))
    (sSeq (sSetl 4 (dOp gMod (dOp gMul (dOp gAdd (dOp gAdd (dCall F__law_cell (dCons (dVar 0) (dCons (dVar 1) (dNil)))) (dOp gMul (dC (.int 65537)) (dVar 1))) (dC (.int 3))) (dOp gAdd (dC (.int 1299709)) (dOp gMul (dC (.int 15485863)) (dVar 2)))) (dC (.int 2147483629))))
    (sSeq (sSetl 4 (dOp gAdd (dOp gMod (dOp gMul (dVar 4) (dVar 4)) (dC (.int 1500450271))) (dC (.int 104729))))
    (sRet (dOp gMod (dOp gDiv (dOp gMod (dOp gMul (dVar 4) (dVar 4)) (dC (.int 715827883))) (dC (.int 64))) (dVar 3))))))
noncomputable def F__law_far : List D → Option D := fnD 2 0 (sSeq (sIf (tBool (dOp gLt (dVar 1) (dCall gLen (dCons (dVar 0) (dNil))))) (sRet (dOp gMod (dOp gIx (dVar 0) (dVar 1)) (dOp gPow (dC (.int 10)) (dC (.int 60))))) (sNil))
    (sRet (dOp gAdd (dOp gMul (dCall F__law_part (dCons (dVar 0) (dCons (dVar 1) (dCons (dC (.int 59)) (dCons (dOp gPow (dC (.int 10)) (dC (.int 6))) (dNil)))))) (dOp gPow (dC (.int 10)) (dC (.int 40)))) (dCall F__law_part (dCons (dVar 0) (dCons (dVar 1) (dCons (dC (.int 60)) (dCons (dOp gPow (dC (.int 10)) (dC (.int 6))) (dNil)))))))))
noncomputable def F__law_whole : List D → Option D := fnD 1 0 (sRet (dAnd (dUn (gIs "int") (dVar 0)) (dNot (dUn (gIs "bool") (dVar 0)))))
noncomputable def F__law_divisor : List D → Option D := fnD 2 0 (sSeq (sWhile (tBool (dOp gGt (dVar 1) (dC (.int 0)))) (sPar 0 1 (dCons (dVar 1) (dCons (dOp gMod (dVar 0) (dVar 1)) (dNil)))))
    (sRet (dFlat (dVar 0))))
noncomputable def F__law_number : List D → Option D := fnD 2 2 (sSeq (sSetl 2 (dCall F__law_far (dCons (dVar 0) (dCons (dVar 1) (dNil)))))
    (sSeq (sSetl 3 (dLst (dCons (dOp gSub (dCall F__law_part (dCons (dVar 0) (dCons (dVar 1) (dCons (dC (.int 2)) (dCons (dC (.int 19)) (dNil)))))) (dC (.int 9))) (dCons (dOp gSub (dCall F__law_part (dCons (dVar 0) (dCons (dVar 1) (dCons (dC (.int 2)) (dCons (dC (.int 2001)) (dNil)))))) (dC (.int 1000))) (dCons (dOp gSub (dCall F__law_part (dCons (dVar 0) (dCons (dVar 1) (dCons (dC (.int 2)) (dCons (dC (.int 5)) (dNil)))))) (dC (.int 2))) (dNil))))))
    (sSeq (sSetl 3 (dOp gCat (dVar 3) (dLst (dCons (dOp gSub (dOp gMod (dVar 2) (dOp gAdd (dOp gMul (dC (.int 2)) (dOp gPow (dC (.int 10)) (dC (.int 9)))) (dC (.int 1)))) (dOp gPow (dC (.int 10)) (dC (.int 9)))) (dCons (dOp gSub (dVar 2) (dOp gMul (dC (.int 5)) (dOp gPow (dC (.int 10)) (dC (.int 59))))) (dCons (dOp gAdd (dOp gMul (dOp gMul (dVar 2) (dOp gPow (dC (.int 10)) (dC (.int 60)))) (dOp gPow (dC (.int 10)) (dC (.int 25)))) (dVar 2)) (dNil)))))))
    (sRet (dFlat (dOp gIx (dVar 3) (dCall F__law_part (dCons (dVar 0) (dCons (dVar 1) (dCons (dC (.int 1)) (dCons (dC (.int 6)) (dNil))))))))))))
noncomputable def F_all_whole : List D → Option D := fnD 1 0 (sRet (dCall gAll (dCons (dComp (fLst (dVar 0)) (gNl 0) (tYes) (dCall F_is_whole (dCons (dVar 0) (dNil))) 1 []) (dNil))))
noncomputable def F_is_tuple_of : List D → Option D := fnD 2 0 (sRet (dAnd (dUn (gIs "tuple") (dVar 0)) (dAnd (dOp gEq (dCall gLen (dCons (dVar 0) (dNil))) (dVar 1)) (dCall F_all_whole (dCons (dVar 0) (dNil))))))
noncomputable def F_is_pair : List D → Option D := fnD 1 0 (sRet (dCall F_is_tuple_of (dCons (dVar 0) (dCons (dC (.int 2)) (dNil)))))
noncomputable def F_is_ratio : List D → Option D := fnD 1 0 (sRet (dAnd (dCall F_is_pair (dCons (dVar 0) (dNil))) (dAnd (dOp gGe (dOp gIx (dVar 0) (dC (.int 1))) (dC (.int 1))) (dOp gEq (dCall F_greatest_divisor (dCons (dCall gAbs (dCons (dOp gIx (dVar 0) (dC (.int 0))) (dNil))) (dCons (dOp gIx (dVar 0) (dC (.int 1))) (dNil)))) (dC (.int 1))))))
noncomputable def F_is_chance : List D → Option D := fnD 1 0 (sRet (dAnd (dCall F_is_ratio (dCons (dVar 0) (dNil))) (dChain gLe gLe (dC (.int 0)) (dOp gIx (dVar 0) (dC (.int 0))) (dOp gIx (dVar 0) (dC (.int 1))))))
noncomputable def F_is_stretch : List D → Option D := fnD 1 0 (sRet (dAnd (dCall F_is_pair (dCons (dVar 0) (dNil))) (dChain3 gLe gLt gLe (dC (.int 0)) (dOp gIx (dVar 0) (dC (.int 0))) (dOp gIx (dVar 0) (dC (.int 1))) (dC (.int 400)))))
noncomputable def F__law_one : List D → Option D := fnD 3 2 (sSeq (sSetl 3 (dLst (dCons (dN1 (dC (.bool true))) (dCons (dN1 (dC (.bool false))) (dCons (dN1 (dC (.none))) (dCons (dN1 (dC (.str "2"))) (dCons (dN1 (dC (.str ""))) (dCons (dTup (dCons (dN1 (dC (.int 1))) (dNil))) (dCons (dTup (dCons (dN1 (dC (.int 1))) (dCons (dN1 (dC (.int 2))) (dNil)))) (dCons (dLst (dCons (dN1 (dC (.int 1))) (dNil))) (dCons (dC (.dict [])) (dCons (dN1 (dC (.str "1/2"))) (dCons (dLst (dNil)) (dCons (dTup (dNil)) (dNil)))))))))))))))
    (sSeq (sSetl 4 (dCall F__law_part (dCons (dVar 0) (dCons (dVar 1) (dCons (dVar 2) (dCons (dC (.int 10)) (dNil)))))))
    (sSeq (sIf (tBool (dOp gEq (dVar 4) (dC (.int 0)))) (sRet (dOp gIx (dVar 3) (dCall F__law_part (dCons (dVar 0) (dCons (dVar 1) (dCons (dOp gAdd (dVar 2) (dC (.int 1))) (dCons (dC (.int 12)) (dNil)))))))) (sNil))
    (sSeq (sIf (tBool (dOp gLt (dVar 4) (dC (.int 5)))) (sRet (dOp gSub (dCall F__law_part (dCons (dVar 0) (dCons (dVar 1) (dCons (dOp gAdd (dVar 2) (dC (.int 1))) (dCons (dC (.int 13)) (dNil)))))) (dC (.int 3)))) (sNil))
    (sSeq (sIf (tBool (dOp gLt (dVar 4) (dC (.int 8)))) (sRet (dOp gSub (dCall F__law_part (dCons (dVar 0) (dCons (dVar 1) (dCons (dOp gAdd (dVar 2) (dC (.int 1))) (dCons (dC (.int 406)) (dNil)))))) (dC (.int 2)))) (sNil))
    (sSeq (sIf (tBool (dOp gEq (dVar 4) (dC (.int 8)))) (sRet (dFlat (dOp gIx (dLst (dCons (dC (.int 0)) (dCons (dC (.int 1)) (dCons (dC (.int 399)) (dCons (dC (.int 400)) (dCons (dC (.int 401)) (dCons (dC (.int 100)) (dNil)))))))) (dCall F__law_part (dCons (dVar 0) (dCons (dVar 1) (dCons (dOp gAdd (dVar 2) (dC (.int 1))) (dCons (dC (.int 6)) (dNil))))))))) (sNil))
    (sRet (dOp gSub (dOp gDiv (dCall F__law_far (dCons (dVar 0) (dCons (dVar 1) (dNil)))) (dOp gAdd (dVar 2) (dC (.int 1)))) (dOp gPow (dC (.int 10)) (dC (.int 58)))))))))))
noncomputable def F__law_thing : List D → Option D := fnD 2 3 (sSeq (sSetl 2 (dCall F__law_one (dCons (dVar 0) (dCons (dVar 1) (dCons (dC (.int 1)) (dNil))))))
    (sSeq (sSetl 3 (dCall F__law_one (dCons (dVar 0) (dCons (dVar 1) (dCons (dC (.int 3)) (dNil))))))
    (sSeq (sSetl 4 (dCall F__law_part (dCons (dVar 0) (dCons (dVar 1) (dCons (dC (.int 0)) (dCons (dC (.int 12)) (dNil)))))))
    (sSeq (sIf (tBool (dOp gEq (dVar 4) (dC (.int 0)))) (sRet (dFl1 (dLst (dCons (dVar 2) (dCons (dVar 3) (dNil)))))) (sNil))
    (sSeq (sIf (tBool (dOp gEq (dVar 4) (dC (.int 1)))) (sRet (dTup (dCons (dFlat (dVar 2)) (dNil)))) (sNil))
    (sSeq (sIf (tBool (dOp gEq (dVar 4) (dC (.int 2)))) (sRet (dTup (dCons (dFlat (dVar 2)) (dCons (dFlat (dVar 3)) (dCons (dFlat (dVar 2)) (dNil)))))) (sNil))
    (sSeq (sIf (tBool (dOp gEq (dVar 4) (dC (.int 3)))) (sRet (dFlat (dVar 2))) (sNil))
    (sSeq (sIf (tBool (dOp gEq (dVar 4) (dC (.int 4)))) (sRet (dTup (dCons (dFlat (dVar 2)) (dCons (dFlat (dVar 2)) (dNil))))) (sNil))
    (sRet (dTup (dCons (dFlat (dVar 2)) (dCons (dFlat (dVar 3)) (dNil)))))))))))))
noncomputable def F__law_two : List D → Option D := fnD 1 0 (sRet (dAnd (dUn (gIs "tuple") (dVar 0)) (dAnd (dOp gEq (dCall gLen (dCons (dVar 0) (dNil))) (dC (.int 2))) (dAnd (dCall F__law_whole (dCons (dOp gIx (dVar 0) (dC (.int 0))) (dNil))) (dCall F__law_whole (dCons (dOp gIx (dVar 0) (dC (.int 1))) (dNil)))))))
noncomputable def F__law_ratio : List D → Option D := fnD 1 0 (sRet (dAnd (dCall F__law_two (dCons (dVar 0) (dNil))) (dAnd (dOp gGt (dOp gIx (dVar 0) (dC (.int 1))) (dC (.int 0))) (dOp gEq (dCall F__law_divisor (dCons (dOp gIx (dVar 0) (dC (.int 0))) (dCons (dOp gIx (dVar 0) (dC (.int 1))) (dNil)))) (dC (.int 1))))))
noncomputable def F__law_said : List D → Option D := fnD 2 0 (sRet (dAnd (dUn (gIs "bool") (dVar 0)) (dOp gEq (dVar 0) (dVar 1))))
noncomputable def F__law_asked : List D → Option D := fnD 2 4 (sSeq (sSetl 2 (dCall F__law_thing (dCons (dVar 0) (dCons (dVar 1) (dNil)))))
    (sSeq (sSetl 3 (dCall F__law_ratio (dCons (dVar 2) (dNil))))
    (sSeq (sSetl 4 (dAnd (dVar 3) (dAnd (dOp gGe (dOp gIx (dVar 2) (dC (.int 0))) (dC (.int 0))) (dOp gLe (dOp gIx (dVar 2) (dC (.int 0))) (dOp gIx (dVar 2) (dC (.int 1)))))))
    (sSeq (sSetl 5 (dAnd (dCall F__law_two (dCons (dVar 2) (dNil))) (dAnd (dOp gGe (dOp gIx (dVar 2) (dC (.int 0))) (dC (.int 0))) (dAnd (dOp gLt (dOp gIx (dVar 2) (dC (.int 0))) (dOp gIx (dVar 2) (dC (.int 1)))) (dOp gLt (dOp gIx (dVar 2) (dC (.int 1))) (dC (.int 401)))))))
    (sSeq (sIf (D3.tOr (D3.tNot (tBool (dCall F__law_said (dCons (dCall F_is_ratio (dCons (dVar 2) (dNil))) (dCons (dVar 3) (dNil)))))) (D3.tNot (tBool (dCall F__law_said (dCons (dCall F_is_chance (dCons (dVar 2) (dNil))) (dCons (dVar 4) (dNil))))))) (sRet (dC (.bool false))) (sNil))
    (sRet (dAnd (dCall F__law_said (dCons (dCall F_is_stretch (dCons (dVar 2) (dNil))) (dCons (dVar 5) (dNil)))) (dOp gEq (dVar 2) (dCall F__law_thing (dCons (dVar 0) (dCons (dVar 1) (dNil))))))))))))
noncomputable def F__law_due : List D → Option D := fnD 3 1 (sSeq (sFor (fRng2 (dCons (dVar 2) (dCons (dC (.int 400)) (dNil)))) (gNl 3) (sIf (tBool (dOp gGt (dOp gIx (dVar 0) (dVar 3)) (dVar 1))) (sRet (dFlat (dVar 3))) (sNil)))
    (sRet (dC (.none))))
noncomputable def F__law_spoilt : List D → Option D := fnD 3 4 (sSeq (sSetl 3 (dCall F__law_part (dCons (dVar 0) (dCons (dC (.int 43)) (dCons (dC (.int 0)) (dCons (dC (.int 10)) (dNil)))))))
    (sSeq (sSetl 4 (dUn gList (dVar 1)))
    (sSeq (sIf (D3.tOr (tBool (dOp gEq (dVar 3) (dC (.int 0)))) (tBool (dOp gEq (dVar 1) (dLst (dNil))))) (sSeq (sSetl 5 (dLst (dCons (dN1 (dC (.none))) (dCons (dN1 (dFlat (dUn gTupL (dVar 1)))) (dCons (dLst (dNil)) (dCons (dN1 (dC (.str ""))) (dCons (dC (.dict [])) (dCons (dN1 (dC (.int 0))) (dCons (dLst (dCons (dN1 (dC (.none))) (dNil))) (dCons (dLst (dCons (dN1 (dFlat (dVar 1))) (dNil))) (dCons (dN1 (dFl1 (dOp gCat (dVar 1) (dLst (dCons (dC (.bool true)) (dNil)))))) (dCons (dN1 (dFl1 (dOp gCat (dVar 1) (dLst (dCons (dC (.str "1")) (dNil)))))) (dNil)))))))))))))
    (sRet (dOp gIx (dVar 5) (dCall F__law_part (dCons (dVar 0) (dCons (dC (.int 43)) (dCons (dC (.int 1)) (dCons (dC (.int 10)) (dNil))))))))) (sNil))
    (sSeq (sSetl 6 (dCall F__law_part (dCons (dVar 0) (dCons (dC (.int 43)) (dCons (dC (.int 2)) (dCons (dCall gLen (dCons (dVar 1) (dNil))) (dNil)))))))
    (sSeq (sIf (tBool (dOp gLt (dVar 3) (dC (.int 4)))) (sPopI 4 (dVar 6)) (sIf (tBool (dOp gEq (dVar 3) (dC (.int 4)))) (sIns 4 (dVar 6) (dOp gIx (dVar 1) (dVar 6))) (sIf (tBool (dOp gEq (dVar 3) (dC (.int 5)))) (sRev 4) (sIf (tBool (dOp gEq (dVar 3) (dC (.int 6)))) (sPut 4 (dVar 6) (dOp gIx (dLst (dCons (dC (.none)) (dCons (dC (.bool true)) (dCons (dC (.str "3")) (dCons (dTup (dCons (dOp gIx (dVar 1) (dVar 6)) (dNil))) (dCons (dUn gNeg (dC (.int 1))) (dCons (dC (.int 401)) (dNil)))))))) (dCall F__law_part (dCons (dVar 0) (dCons (dC (.int 43)) (dCons (dC (.int 1)) (dCons (dC (.int 6)) (dNil)))))))) (sIf (tBool (dOp gEq (dVar 3) (dC (.int 7)))) (sApp 4 (dVar 2)) (sSetl 4 (dCall gSort (dCons (dOp gCat (dVar 4) (dLst (dCons (dCall F__law_part (dCons (dVar 0) (dCons (dC (.int 43)) (dCons (dC (.int 3)) (dCons (dC (.int 400)) (dNil)))))) (dNil)))) (dNil)))))))))
    (sRet (dFl1 (dVar 4))))))))
noncomputable def F__law_kinds : List D → Option D := fnD 2 0 (sSeq (sIf (tBool (dOp gEq (dVar 0) (dC (.int 0)))) (sRet (dCall F__law_whole (dCons (dVar 1) (dNil)))) (sNil))
    (sRet (dAnd (dUn (gIs "tuple") (dVar 1)) (dAnd (dOp gEq (dCall gLen (dCons (dVar 1) (dNil))) (dC (.int 2))) (dAnd (dCall F__law_whole (dCons (dOp gIx (dVar 1) (dC (.int 0))) (dNil))) (dCall F__law_whole (dCons (dOp gIx (dVar 1) (dC (.int 1))) (dNil))))))))
end Com
namespace Com
open PySem D3 My
theorem pAt_ints {ns : List Int} {i : Int} (h0 : 0 ≤ i) (h1 : i < ns.length) : pAt (ns.map PyData.int) i = some (.int (ns.getD i.toNat 0)) := by
  unfold pAt pIx
  rw [List.length_map, if_pos h0, if_pos h1, Option.bind_some, List.getElem?_map]
  have h : i.toNat < ns.length := by omega
  rw [List.getElem?_eq_getElem h]
  simp [List.getD, h]
theorem pAt_nat {l : List D} {k : Nat} : pAt l (k : Int) = l[k]? := by
  unfold pAt pIx
  rw [if_pos (by omega)]
  by_cases h : k < l.length
  · rw [if_pos (by omega), Option.bind_some]
    simp
  · rw [if_neg (by omega), List.getElem?_eq_none (by omega)]
    rfl
theorem at0 {a : D} {l : List D} : pAt (a :: l) 0 = some a := pAt_nat (k := 0)
theorem at1 {a b : D} {l : List D} : pAt (a :: b :: l) 1 = some b := pAt_nat (k := 1)
theorem modP {i j : Int} (h : 0 < j) : gMod (.int i) (.int j) = some (.int (i % j)) := by
  show (if decide (j ≠ 0) = true then some (PyData.int (i.fmod j)) else none) = _
  rw [if_pos (decide_eq_true (by omega)), Int.fmod_eq_emod_of_nonneg i (by omega)]
theorem small_lt {j : Int} (h : j.natAbs < 2 ^ 64) : j.natAbs < 2 ^ 9000 := Nat.lt_of_lt_of_le h (Nat.pow_le_pow_right (by decide) (by decide))
theorem divB {i j : Int} (h : 0 < j) (h2 : j.natAbs < 2 ^ 9000) : gDiv (.int i) (.int j) = some (.int (i / j)) := by
  show (if divG i j = true then some (PyData.int (i.fdiv j)) else none) = _
  have e : divG i j = true := by
    unfold divG
    rw [Bool.and_eq_true]
    exact ⟨decide_eq_true (by omega), decide_eq_true h2⟩
  rw [if_pos e, Int.fdiv_eq_ediv_of_nonneg i (by omega)]
theorem divP {i j : Int} (h : 0 < j) (h2 : j < 18446744073709551616) : gDiv (.int i) (.int j) = some (.int (i / j)) := divB h (small_lt (by omega))
theorem mulL {i j : Int} (h1 : -18446744073709551616 < i) (h2 : i < 18446744073709551616) : gMul (.int i) (.int j) = some (.int (i * j)) := by
  show (if mulG i j = true then some (PyData.int (i * j)) else none) = _
  have e : mulG i j = true := by
    unfold mulG
    rw [decide_eq_true (show i.natAbs < 2 ^ 64 by omega)]
    rfl
  rw [if_pos e]
theorem mulR {i j : Int} (h1 : -18446744073709551616 < j) (h2 : j < 18446744073709551616) : gMul (.int i) (.int j) = some (.int (i * j)) := by
  show (if mulG i j = true then some (PyData.int (i * j)) else none) = _
  have e : mulG i j = true := by
    unfold mulG
    rw [decide_eq_true (show j.natAbs < 2 ^ 64 by omega), Bool.or_true]
    rfl
  rw [if_pos e]
theorem pow40 : gPow (.int 10) (.int 40) = some (.int (10 ^ 40)) := rfl
theorem pow6 : gPow (.int 10) (.int 6) = some (.int (10 ^ 6)) := rfl
theorem sz {n : Nat} (h : n ≤ 1000000) : n ≤ sizeLine := Nat.le_trans h (by decide)
theorem shaped_ints (ns : List Int) : SeqAt.shaped (.list (ns.map PyData.int)) = true := by
  have h1 : ∀ ns : List Int, PyData.canLayAll0 (ns.map PyData.int) = true := fun ns => by
    induction ns with
    | nil => rfl
    | cons a r ih => simp [PyData.canLayAll0, PyData.canLay0, ih]
  have h2 : ∀ ns : List Int, PyData.depthAll (ns.map PyData.int) ≤ 1 := fun ns => by
    induction ns with
    | nil => simp [PyData.depthAll]
    | cons a r ih => simp [PyData.depthAll, PyData.depth]; omega
  unfold SeqAt.shaped
  rw [Bool.and_eq_true]
  refine ⟨by simp [PyData.canLay0, h1], decide_eq_true ?_⟩
  have := h2 ns
  simp only [PyData.depth]
  omega
theorem eq_empty (ns : List Int) : gEq (.list (ns.map PyData.int)) (.list []) = some (.bool (decide (ns = []))) := by
  unfold gEq
  rw [shaped_ints ns]
  cases ns with
  | nil => rfl
  | cons a r => rfl
theorem cell_spec {ns : List Int} {i : Int} (h0 : 0 ≤ i) : F__law_cell [.list (ns.map .int), .int i] = some (.int (cellF ns i)) := by
  unfold F__law_cell cellF
  by_cases h : i < (ns.length : Int)
  · rw [if_pos h]
    simp only [EV, reduceIte, Nat.reduceAdd, Nat.reduceLT, Nat.reduceLeDiff, Nat.reduceEqDiff, Int.reduceEq, Int.reduceLT, Int.reduceLE, List.length_map, decide_eq_true h, pAt_ints h0 h, modP (show (0 : Int) < 1000000007 by decide)]
  · rw [if_neg h]
    by_cases hn : ns = []
    · rw [if_pos hn]
      simp only [EV, reduceIte, Nat.reduceAdd, Nat.reduceLT, Nat.reduceLeDiff, Nat.reduceEqDiff, Int.reduceEq, Int.reduceLT, Int.reduceLE, List.length_map, decide_eq_false h, eq_empty, decide_eq_true hn, Nat.zero_le, mulL (show (-18446744073709551616 : Int) < 7919 by decide) (show (7919 : Int) < 18446744073709551616 by decide)]
    · rw [if_neg hn]
      have hl : 0 < ns.length := by
        cases ns with
        | nil => exact absurd rfl hn
        | cons _ _ => simp
      have h7 : 0 ≤ i * 7 % (ns.length : Int) := Int.emod_nonneg _ (by omega)
      have h8 : i * 7 % (ns.length : Int) < (ns.length : Int) := Int.emod_lt_of_pos _ (by omega)
      simp only [EV, reduceIte, Nat.reduceAdd, Nat.reduceLT, Nat.reduceLeDiff, Nat.reduceEqDiff, Int.reduceEq, Int.reduceLT, Int.reduceLE, List.length_map, decide_eq_false h, eq_empty, decide_eq_false hn, Nat.zero_le, mulL (show (-18446744073709551616 : Int) < 7919 by decide) (show (7919 : Int) < 18446744073709551616 by decide), mulR (show (-18446744073709551616 : Int) < 7 by decide) (show (7 : Int) < 18446744073709551616 by decide), modP (show (0 : Int) < 1000000007 by decide), modP (show (0 : Int) < ns.length by omega), pAt_ints h7 h8]
theorem divs_loop {l : D} {i k m : D} (n : Int) : ∀ (js : List D) (c : Nat) (y : Option U), (∀ j ∈ js, ∃ x, j = .int x) → ∃ y', forD (gNl 5) (sSetl 4 (dOp gDiv (dVar 4) (dC (.int 1000003)))) js [some (.d l), some (.d i), some (.d k), some (.d m), some (.d (.int (divs n c))), y] =
    some (.nx [some (.d l), some (.d i), some (.d k), some (.d m), some (.d (.int (divs n (c + js.length)))), y'])
  | [], c, y, _ => ⟨y, rfl⟩
  | j :: js, c, y, h => by
    obtain ⟨y', e⟩ := divs_loop (l := l) (i := i) (k := k) (m := m) n js (c + 1) (some (.d j)) fun j' hj => h j' (List.mem_cons_of_mem _ hj)
    refine ⟨y', ?_⟩
    rw [forD]
    simp only [EV, reduceIte, Nat.reduceAdd, Nat.reduceLT, Nat.reduceLeDiff, Nat.reduceEqDiff, Int.reduceEq, Int.reduceLT, Int.reduceLE, divP (show (0 : Int) < 1000003 by decide) (show (1000003 : Int) < 18446744073709551616 by decide), Option.bind_some]
    rw [show c + (js.length + 1) = c + 1 + js.length by omega, ← e]
    rfl
theorem rngD_ints (lo hi : Int) : ∀ j ∈ rngD lo hi, ∃ x, j = .int x := by
  intro j hj
  unfold rngD at hj
  obtain ⟨k, _, rfl⟩ := List.mem_map.mp hj
  exact ⟨_, rfl⟩
theorem part_spec {ns : List Int} {i k m : Int} (h0 : 0 ≤ i) (hk0 : 0 ≤ k) (hk : k ≤ 1000) (hm : 0 < m) : F__law_part [.list (ns.map .int), .int i, .int k, .int m] = some (.int (partF ns i k m)) := by
  have rest : ∀ x y : Option U, qFn ((sSeq (sSetl 4 (dOp gMod (dOp gMul (dOp gAdd (dOp gAdd (dCall F__law_cell (dCons (dVar 0) (dCons (dVar 1) (dNil)))) (dOp gMul (dC (.int 65537)) (dVar 1))) (dC (.int 3))) (dOp gAdd (dC (.int 1299709)) (dOp gMul (dC (.int 15485863)) (dVar 2)))) (dC (.int 2147483629))))
    (sSeq (sSetl 4 (dOp gAdd (dOp gMod (dOp gMul (dVar 4) (dVar 4)) (dC (.int 1500450271))) (dC (.int 104729))))
    (sRet (dOp gMod (dOp gDiv (dOp gMod (dOp gMul (dVar 4) (dVar 4)) (dC (.int 715827883))) (dC (.int 64))) (dVar 3))))) [some (.d (.list (ns.map .int))), some (.d (.int i)), some (.d (.int k)), some (.d (.int m)), x, y]) = some (.int (drawF (cellF ns i) i k m)) := by
    intro x y
    have b1 : 0 ≤ (cellF ns i + 65537 * i + 3) * (1299709 + 15485863 * k) % 2147483629 := Int.emod_nonneg _ (by decide)
    have b2 : (cellF ns i + 65537 * i + 3) * (1299709 + 15485863 * k) % 2147483629 < 2147483629 := Int.emod_lt_of_pos _ (by decide)
    have b3 : 0 ≤ (cellF ns i + 65537 * i + 3) * (1299709 + 15485863 * k) % 2147483629 * ((cellF ns i + 65537 * i + 3) * (1299709 + 15485863 * k) % 2147483629) % 1500450271 := Int.emod_nonneg _ (by decide)
    have b4 : (cellF ns i + 65537 * i + 3) * (1299709 + 15485863 * k) % 2147483629 * ((cellF ns i + 65537 * i + 3) * (1299709 + 15485863 * k) % 2147483629) % 1500450271 < 1500450271 := Int.emod_lt_of_pos _ (by decide)
    simp only [EV, reduceIte, Nat.reduceAdd, Nat.reduceLT, Nat.reduceLeDiff, Nat.reduceEqDiff, Int.reduceEq, Int.reduceLT, Int.reduceLE, cell_spec h0, mulL (show (-18446744073709551616 : Int) < 65537 by decide) (show (65537 : Int) < 18446744073709551616 by decide), mulL (show (-18446744073709551616 : Int) < 15485863 by decide) (show (15485863 : Int) < 18446744073709551616 by decide),
      mulR (i := cellF ns i + 65537 * i + 3) (show (-18446744073709551616 : Int) < 1299709 + 15485863 * k by omega) (show 1299709 + 15485863 * k < (18446744073709551616 : Int) by omega), modP (show (0 : Int) < 2147483629 by decide)]
    simp only [mulL (show (-18446744073709551616 : Int) < (cellF ns i + 65537 * i + 3) * (1299709 + 15485863 * k) % 2147483629 by omega) (show (cellF ns i + 65537 * i + 3) * (1299709 + 15485863 * k) % 2147483629 < (18446744073709551616 : Int) by omega)]
    simp only [EV, reduceIte, Nat.reduceAdd, Nat.reduceLT, Nat.reduceLeDiff, Nat.reduceEqDiff, Int.reduceEq, Int.reduceLT, Int.reduceLE, modP (show (0 : Int) < 1500450271 by decide)]
    rw [mulL (by omega) (by omega)]
    simp only [EV, reduceIte, Nat.reduceAdd, Nat.reduceLT, Nat.reduceLeDiff, Nat.reduceEqDiff, Int.reduceEq, Int.reduceLT, Int.reduceLE, modP (show (0 : Int) < 715827883 by decide), divP (show (0 : Int) < 64 by decide) (show (64 : Int) < 18446744073709551616 by decide), modP hm]
    rfl
  unfold F__law_part
  rw [v_fn]
  simp only [EV, reduceIte, Nat.reduceAdd, Nat.reduceLT, Nat.reduceLeDiff, Nat.reduceEqDiff, Int.reduceEq, Int.reduceLT, Int.reduceLE]
  by_cases h : i < (ns.length : Int)
  · by_cases h2 : 10 ^ 40 ≤ ns.getD i.toNat 0
    · simp only [EV, reduceIte, Nat.reduceAdd, Nat.reduceLT, Nat.reduceLeDiff, Nat.reduceEqDiff, Int.reduceEq, Int.reduceLT, Int.reduceLE, List.length_map, decide_eq_true h, pAt_ints h0 h, pow40, decide_eq_true h2]
      obtain ⟨y', e⟩ := divs_loop (l := .list (ns.map .int)) (i := .int i) (k := .int k) (m := .int m) (ns.getD i.toNat 0) (rngD 0 k) 0 none (rngD_ints 0 k)
      have el : 0 + (rngD 0 k).length = k.toNat := by simp [rngD]
      rw [el] at e
      have e' : forD (gNl 5) (sSetl 4 (dOp gDiv (dVar 4) (dC (.int 1000003)))) (rngD 0 k) [some (.d (.list (ns.map .int))), some (.d (.int i)), some (.d (.int k)), some (.d (.int m)), some (.d (.int (ns.getD i.toNat 0))), none] =
        some (.nx [some (.d (.list (ns.map .int))), some (.d (.int i)), some (.d (.int k)), some (.d (.int m)), some (.d (.int (divs (ns.getD i.toNat 0) k.toNat))), y']) := e
      rw [rng1 (by omega) (by omega)]
      simp only [EV, reduceIte, Nat.reduceAdd, Nat.reduceLT, Nat.reduceLeDiff, Nat.reduceEqDiff, Int.reduceEq, Int.reduceLT, Int.reduceLE, e']
      by_cases h3 : 0 < divs (ns.getD i.toNat 0) k.toNat
      · simp only [EV, reduceIte, Nat.reduceAdd, Nat.reduceLT, Nat.reduceLeDiff, Nat.reduceEqDiff, Int.reduceEq, Int.reduceLT, Int.reduceLE, decide_eq_true h3, modP (show (0 : Int) < 1000003 by decide), modP hm]
        rw [partF_hit h h2 h3]
      · simp only [EV, reduceIte, Nat.reduceAdd, Nat.reduceLT, Nat.reduceLeDiff, Nat.reduceEqDiff, Int.reduceEq, Int.reduceLT, Int.reduceLE, decide_eq_false h3]
        rw [partF_miss (fun z => h3 z.2.2)]
        have := rest (some (.d (.int (divs (ns.getD i.toNat 0) k.toNat)))) y'
        simp only [EV, reduceIte, Nat.reduceAdd, Nat.reduceLT, Nat.reduceLeDiff, Nat.reduceEqDiff, Int.reduceEq, Int.reduceLT, Int.reduceLE] at this
        exact this
    · simp only [EV, reduceIte, Nat.reduceAdd, Nat.reduceLT, Nat.reduceLeDiff, Nat.reduceEqDiff, Int.reduceEq, Int.reduceLT, Int.reduceLE, List.length_map, decide_eq_true h, pAt_ints h0 h, pow40, decide_eq_false h2]
      rw [partF_miss (fun z => h2 z.2.1)]
      have := rest none none
      simp only [EV, reduceIte, Nat.reduceAdd, Nat.reduceLT, Nat.reduceLeDiff, Nat.reduceEqDiff, Int.reduceEq, Int.reduceLT, Int.reduceLE] at this
      exact this
  · simp only [EV, reduceIte, Nat.reduceAdd, Nat.reduceLT, Nat.reduceLeDiff, Nat.reduceEqDiff, Int.reduceEq, Int.reduceLT, Int.reduceLE, List.length_map, decide_eq_false h]
    rw [partF_miss (fun z => h z.1)]
    have := rest none none
    simp only [EV, reduceIte, Nat.reduceAdd, Nat.reduceLT, Nat.reduceLeDiff, Nat.reduceEqDiff, Int.reduceEq, Int.reduceLT, Int.reduceLE] at this
    exact this
end Com
namespace Com
open PySem D3 My
theorem cMap {α : Type} {g : FG} {c : FT} {e : FE} {δ : DS} (f : α → D) (h : α → D) : ∀ l : List α, (∀ s ∈ l, ∃ δ1, g (f s) δ = some δ1 ∧ c δ1 = some true ∧ e δ1 = some (h s)) → compD g c e δ (l.map f) = some (l.map h)
  | [], _ => rfl
  | s :: r, hs => by
    obtain ⟨δ1, e1, e2, e3⟩ := hs s List.mem_cons_self
    rw [List.map_cons, compD, e1, Option.bind_some, e2, Option.bind_some, if_pos rfl, e3, Option.bind_some, cMap f h r fun x hx => hs x (List.mem_cons_of_mem _ hx)]
    rfl
theorem flats_all {α : Type} (f : α → D) (h : ∀ a, flat (f a) = true) : ∀ l : List α, flats (l.map f) = true
  | [] => rfl
  | a :: r => by rw [List.map_cons, flats, h, flats_all f h r]; rfl
theorem isList : D3.isT "list" "list" = true := rfl
mutual
theorem eqv_refl : ∀ d : D, d.canLay0 = true → PyData.eqv d d = true
  | .none, _ => by simp [PyData.eqv]
  | .bool b, _ => by simp [PyData.eqv]
  | .int i, _ => by simp [PyData.eqv]
  | .str x, _ => by simp [PyData.eqv]
  | .list l, h => by
    have := eqvAll_refl l (by simpa [PyData.canLay0] using h)
    simpa [PyData.eqv] using this
  | .tuple l, h => by
    have := eqvAll_refl l (by simpa [PyData.canLay0] using h)
    simpa [PyData.eqv] using this
  | .dict l, h => by simp [PyData.canLay0] at h
theorem eqvAll_refl : ∀ l : List D, PyData.canLayAll0 l = true → PyData.eqvAll l l = true
  | [], _ => by simp [PyData.eqvAll]
  | d :: r, h => by
    rw [PyData.canLayAll0, Bool.and_eq_true] at h
    rw [PyData.eqvAll, eqv_refl d h.1, eqvAll_refl r h.2]
    rfl
end
def ly (n : Nat) (d : D) : Prop := d.canLay0 = true ∧ d.depth ≤ n
def lys (n : Nat) (l : List D) : Prop := PyData.canLayAll0 l = true ∧ PyData.depthAll l ≤ n
theorem ly_le {n m : Nat} {d : D} (h : ly n d) (l : n ≤ m) : ly m d := ⟨h.1, Nat.le_trans h.2 l⟩
theorem lys_nil {n : Nat} : lys n [] := ⟨by simp [PyData.canLayAll0], by simp [PyData.depthAll]⟩
theorem lys_cons {n : Nat} {d : D} {l : List D} (h : ly n d) (q : lys n l) : lys n (d :: l) :=
  ⟨by rw [PyData.canLayAll0, h.1, q.1]; rfl, by have := h.2; have := q.2; simp only [PyData.depthAll]; omega⟩
theorem ly_list {n : Nat} {l : List D} (h : lys n l) : ly (n + 1) (.list l) := ⟨by simp [PyData.canLay0, h.1], by have := h.2; simp only [PyData.depth]; omega⟩
theorem ly_tup {n : Nat} {l : List D} (h : lys n l) : ly (n + 1) (.tuple l) := ⟨by simp [PyData.canLay0, h.1], by have := h.2; simp only [PyData.depth]; omega⟩
theorem ly_int {n : Nat} {i : Int} : ly (n + 1) (.int i) := ⟨rfl, by simp [PyData.depth]⟩
theorem ly_shaped {d : D} (h : ly 60 d) : SeqAt.shaped d = true := by
  unfold SeqAt.shaped
  rw [Bool.and_eq_true]
  exact ⟨h.1, decide_eq_true (by have := h.2; omega)⟩
theorem eq_self {d : D} (h : ly 60 d) : gEq d d = some (.bool true) := by
  unfold gEq
  rw [ly_shaped h, eqv_refl d h.1]
  rfl
end Com
namespace Com
open PySem D3 My
theorem gcd_loop : ∀ (m : Nat) (a b : Int) (x : Option U), 0 ≤ a → 0 ≤ b → b.toNat ≤ m → ∃ x' n, whileD (tBool (dOp gNe (dVar 1) (dC (.int 0)))) (sSeq (sSetl 2 (dOp gMod (dVar 0) (dVar 1))) (sSeq (sSetl 0 (dVar 1)) (sSetl 1 (dVar 2)))) n [some (.d (.int a)), some (.d (.int b)), x] =
    some (.nx [some (.d (.int (gcdI a b))), some (.d (.int 0)), x']) := by
  intro m
  induction m with
  | zero =>
    intro a b x ha hb hm
    obtain rfl : b = 0 := by omega
    refine ⟨x, 1, ?_⟩
    rw [whileD]
    simp only [EV, reduceIte, Nat.reduceAdd, Nat.reduceLT, Nat.reduceLeDiff, Nat.reduceEqDiff, Int.reduceEq, Int.reduceLT, Int.reduceLE]
    rw [gcdI_zero ha]
    rfl
  | succ m ih =>
    intro a b x ha hb hm
    by_cases h : b = 0
    · subst h
      refine ⟨x, 1, ?_⟩
      rw [whileD]
      simp only [EV, reduceIte, Nat.reduceAdd, Nat.reduceLT, Nat.reduceLeDiff, Nat.reduceEqDiff, Int.reduceEq, Int.reduceLT, Int.reduceLE]
      rw [gcdI_zero ha]
      rfl
    · have hb' : 0 < b := by omega
      have h1 : 0 ≤ a % b := Int.emod_nonneg _ (by omega)
      have h2 : a % b < b := Int.emod_lt_of_pos _ hb'
      obtain ⟨x', n, e⟩ := ih b (a % b) (some (.d (.int (a % b)))) hb h1 (by omega)
      refine ⟨x', n + 1, ?_⟩
      rw [whileD]
      simp only [EV, reduceIte, Nat.reduceAdd, Nat.reduceLT, Nat.reduceLeDiff, Nat.reduceEqDiff, Int.reduceEq, Int.reduceLT, Int.reduceLE, decide_eq_false h, Option.bind_some, modP hb']
      rw [← gcdI_step ha hb', ← e]
theorem gcd_spec {a b : Int} (ha : 0 ≤ a) (hb : 0 ≤ b) : F_greatest_divisor [.int a, .int b] = some (.int (gcdI a b)) := by
  unfold F_greatest_divisor
  simp only [EV, reduceIte, Nat.reduceAdd, Nat.reduceLT, Nat.reduceLeDiff, Nat.reduceEqDiff, Int.reduceEq, Int.reduceLT, Int.reduceLE]
  obtain ⟨x', n, e⟩ := gcd_loop b.toNat a b none ha hb (Nat.le_refl _)
  rw [sWhile_of e]
  simp only [EV, reduceIte, Nat.reduceAdd, Nat.reduceLT, Nat.reduceLeDiff, Nat.reduceEqDiff, Int.reduceEq, Int.reduceLT, Int.reduceLE]
def q (t b : Int) : Rat := mkRat t b.toNat
end Com
namespace Com
open PySem D3 My
def sm (k : Nat) (x : Int) : Prop := x.natAbs < 2 ^ k
end Com
namespace Com
open PySem D3 My
structure Tb where
  N : Nat
  w : Nat → Int
  B : Int
def sumTo (f : Nat → Int) : Nat → Int
  | 0 => 0
  | n + 1 => sumTo f n + f n
structure TbOk (t : Tb) (k : Nat) : Prop where
  B0 : 0 < t.B
  Bs : sm (7 * k + 1) t.B
  w0 : ∀ j, 0 ≤ t.w j
  wB : ∀ j, t.w j ≤ t.B
  wz : ∀ j, t.N ≤ j → t.w j = 0
  N1 : 1 ≤ t.N
  N4 : t.N ≤ 1 + 4 * k
  sum : sumTo t.w t.N = t.B
end Com
namespace Com
open PySem D3 My
end Com
namespace Com
open PySem D3 My
structure bd (k : Nat) (a : Rat) : Prop where
  n : sm k a.num
  d : sm k (a.den : Int)
theorem gcdI_nat (m n : Nat) : gcdI (m : Int) (n : Int) = ((m.gcd n : Nat) : Int) := by
  unfold gcdI
  simp
def sumR (l : List Rat) : Rat := l.foldl (· + ·) 0
end Com
namespace Com
open PySem D3 My
theorem rng_get {hi : Int} {i : Nat} {d : D} (h : (rngD 0 hi)[i]? = some d) : (i : Int) < hi ∧ d = .int (i : Int) := by
  unfold rngD at h
  rw [List.getElem?_map] at h
  by_cases hi' : i < (hi - 0).toNat
  · rw [List.getElem?_range hi'] at h
    cases h
    refine ⟨by omega, ?_⟩
    show PyData.int (0 + (i : Int)) = _
    rw [Int.zero_add]
  · rw [List.getElem?_eq_none (by simpa using hi')] at h
    cases h
def over (ts : List Rat) (ρ : Rat) (n : Nat) : Bool := decide (ρ.num * (sumR (ts.drop (n + 1))).den < (sumR (ts.drop (n + 1))).num * ρ.den)
end Com
namespace K91
open PySem D3
noncomputable abbrev F_is_whole : List D → Option D := Com.F_is_whole
noncomputable def F_all_whole : List D → Option D := fnD 1 0 (sRet (dCall gAll (dCons (dComp (fSeq (dVar 0)) (gNl 0) (tYes) (dCall F_is_whole (dCons (dVar 0) (dNil))) 1 []) (dNil))))
noncomputable def F_is_tuple_of : List D → Option D := fnD 2 0 (sRet (dAnd (dUn (gIs "tuple") (dVar 0)) (dAnd (dOp gEq (dCall gLen (dCons (dVar 0) (dNil))) (dVar 1)) (dCall F_all_whole (dCons (dVar 0) (dNil))))))
noncomputable def F_is_pair : List D → Option D := fnD 1 0 (sRet (dCall F_is_tuple_of (dCons (dVar 0) (dCons (dC (.int 2)) (dNil)))))
noncomputable abbrev F_greatest_divisor : List D → Option D := Com.F_greatest_divisor
noncomputable def F_is_ratio : List D → Option D := fnD 1 0 (sRet (dAnd (dCall F_is_pair (dCons (dVar 0) (dNil))) (dAnd (dOp gGe (dOp gIx (dVar 0) (dC (.int 1))) (dC (.int 1))) (dOp gEq (dCall F_greatest_divisor (dCons (dCall gAbs (dCons (dOp gIx (dVar 0) (dC (.int 0))) (dNil))) (dCons (dOp gIx (dVar 0) (dC (.int 1))) (dNil)))) (dC (.int 1))))))
noncomputable def F_is_number_text : List D → Option D := fnD 1 0 (sSeq (sIf (D3.tOr (D3.tNot (tBool (dUn (gIs "str") (dVar 0)))) (D3.tNot (tBool (dChain gLe gLe (dC (.int 1)) (dCall gLenS (dCons (dVar 0) (dNil))) (dC (.int 10)))))) (sRet (dC (.bool false))) (sNil))
    (sRet (dAnd (dCall gAll (dCons (dComp (fStr (dVar 0)) (gNl 0) (tYes) (dOp gInS (dVar 0) (dC (.str "0123456789"))) 1 []) (dNil))) (dOr (dOp gNe (dOp gIxS (dVar 0) (dC (.int 0))) (dC (.str "0"))) (dOp gEq (dVar 0) (dC (.str "0")))))))
noncomputable def X_read_number : List D → Option Or := fnX 1 0 (xSeq (xIf (D3.tNot (tBool (dCall F_is_number_text (dCons (dVar 0) (dNil))))) (xRaise "NoText" (dC (.str "a number is written by one to ten figures, the first one 0 only in 0 itself"))) (xOf (sNil)))
    (xOf (sRet (dCall gIntS (dCons (dVar 0) (dNil))))))
noncomputable def X_read_numbers : List D → Option Or := fnX 2 0 (xSeq (xIf (D3.tNot (tBool (dUn (gIs "str") (dVar 0)))) (xRaise "NoText" (dC (.str "only a text can be read"))) (xOf (sNil)))
    (xRetC (fLst (dOp gSplit (dVar 0) (dVar 1))) (gNl 0) X_read_number (dCons (dVar 0) (dNil)) 1))
noncomputable def X_read_ratio : List D → Option Or := fnX 1 2 (xSeq (xSet 1 X_read_numbers (dCons (dVar 0) (dCons (dC (.str "/")) (dNil))))
    (xSeq (xOf (sIf (tBool (dOp gEq (dCall gLen (dCons (dVar 1) (dNil))) (dC (.int 1)))) (sRet (dTup (dCons (dFlat (dOp gIx (dVar 1) (dC (.int 0)))) (dCons (dC (.int 1)) (dNil))))) (sNil)))
    (xSeq (xOf (sSetl 2 (dUn gTupL (dVar 1))))
    (xSeq (xIf (D3.tOr (D3.tNot (tBool (dCall F_is_ratio (dCons (dVar 2) (dNil))))) (tBool (dOp gLt (dOp gIx (dVar 2) (dC (.int 1))) (dC (.int 2))))) (xRaise "NoText" (dC (.str "a ratio is written in lowest terms, by its top alone where its bottom is 1"))) (xOf (sNil)))
    (xOf (sRet (dFlat (dVar 2))))))))
noncomputable def X_read_nights : List D → Option Or := fnX 1 1 (xSeq (xSet 1 X_read_numbers (dCons (dVar 0) (dCons (dC (.str "-")) (dNil))))
    (xSeq (xIf (tBool (dOp gNe (dCall gLen (dCons (dVar 1) (dNil))) (dC (.int 2)))) (xRaise "NoText" (dC (.str "nights are written by two numbers"))) (xOf (sNil)))
    (xOf (sRet (dFlat (dUn gTupL (dVar 1)))))))
noncomputable def F_shown_number : List D → Option D := fnD 1 2 (sSeq (sSetl 1 (dLst (dNil)))
    (sSeq (sSetl 2 (dVar 0))
    (sSeq (sWhile (tBool (dOp gGe (dVar 2) (dC (.int 1000000000000000000)))) (sSeq (sIns 1 (dC (.int 0)) (dOp gZfill (dCall gStr (dCons (dOp gMod (dVar 2) (dC (.int 1000000000000000000))) (dNil))) (dC (.int 18))))
    (sSetl 2 (dOp gDiv (dVar 2) (dC (.int 1000000000000000000))))))
    (sRet (dOp gAddS (dCall gStr (dCons (dVar 2) (dNil))) (dOp gJoin (dC (.str "")) (dVar 1)))))))
noncomputable def F_shown_ratio : List D → Option D := fnD 1 2 (sSeq (sSetl 1 (dCall F_shown_number (dCons (dOp gIx (dVar 0) (dC (.int 0))) (dNil))))
    (sSeq (sIf (tBool (dOp gEq (dOp gIx (dVar 0) (dC (.int 1))) (dC (.int 1)))) (sRet (dFlat (dVar 1))) (sNil))
    (sSeq (sSetl 2 (dCall F_shown_number (dCons (dOp gIx (dVar 0) (dC (.int 1))) (dNil))))
    (sRet (dOp (gFmt "/") (dVar 1) (dVar 2))))))
noncomputable def F_shown_nights : List D → Option D := fnD 1 2 (sSeq (sSetl 1 (dCall F_shown_number (dCons (dOp gIx (dVar 0) (dC (.int 0))) (dNil))))
    (sSeq (sSetl 2 (dCall F_shown_number (dCons (dOp gIx (dVar 0) (dC (.int 1))) (dNil))))
    (sRet (dOp (gFmt "-") (dVar 1) (dVar 2)))))
noncomputable abbrev F__law_cell : List D → Option D := Com.F__law_cell
noncomputable abbrev F__law_part : List D → Option D := Com.F__law_part
noncomputable abbrev F__law_whole : List D → Option D := Com.F__law_whole
noncomputable def F__law_number : List D → Option D := fnD 1 2 (sSeq (sIf (D3.tOr (D3.tNot (tBool (dChain gLe gLe (dC (.int 1)) (dCall gLenS (dCons (dVar 0) (dNil))) (dC (.int 10))))) (D3.tAnd (tBool (dOp gEq (dOp gIxS (dVar 0) (dC (.int 0))) (dC (.str "0")))) (tBool (dOp gGt (dCall gLenS (dCons (dVar 0) (dNil))) (dC (.int 1)))))) (sRet (dC (.none))) (sNil))
    (sSeq (sSetl 1 (dC (.int 0)))
    (sSeq (sFor (fStr (dVar 0)) (gNl 2) (sSeq (sIf (tBool (dOp gNotinS (dVar 2) (dC (.str "0123456789")))) (sRet (dC (.none))) (sNil))
    (sSetl 1 (dOp gAdd (dOp gMul (dC (.int 10)) (dVar 1)) (dOp gIndexS (dC (.str "0123456789")) (dVar 2))))))
    (sRet (dFlat (dVar 1))))))
noncomputable def F__law_divisor : List D → Option D := fnD 2 1 (sSeq (sWhile (tBool (dOp gGt (dVar 1) (dC (.int 0)))) (sSeq (sSetl 2 (dOp gMod (dVar 0) (dVar 1)))
    (sSeq (sSetl 0 (dVar 1))
    (sSetl 1 (dVar 2)))))
    (sRet (dFlat (dVar 0))))
noncomputable def F__law_two : List D → Option D := fnD 2 1 (sSeq (sSetl 2 (dComp (fLst (dOp gSplit (dVar 0) (dVar 1))) (gNl 0) (tYes) (dCall F__law_number (dCons (dVar 0) (dNil))) 1 []))
    (sSeq (sIf (D3.tOr (tBool (dOp gNe (dCall gLen (dCons (dVar 2) (dNil))) (dC (.int 2)))) (tBool (dOp gIn (dC (.none)) (dVar 2)))) (sRet (dC (.none))) (sNil))
    (sRet (dTup (dCons (dFlat (dOp gIx (dVar 2) (dC (.int 0)))) (dCons (dFlat (dOp gIx (dVar 2) (dC (.int 1)))) (dNil)))))))
noncomputable def F__law_due : List D → Option D := fnD 2 2 (sSeq (sIf (tBool (dOp gEq (dVar 0) (dC (.int 0)))) (sRet (dCall F__law_number (dCons (dVar 1) (dNil)))) (sNil))
    (sSeq (sIf (tBool (dOp gEq (dVar 0) (dC (.int 2)))) (sRet (dCall F__law_two (dCons (dVar 1) (dCons (dC (.str "-")) (dNil))))) (sNil))
    (sSeq (sIf (tBool (dOp gNotinS (dC (.str "/")) (dVar 1))) (sSeq (sSetl 2 (dCall F__law_number (dCons (dVar 1) (dNil))))
    (sRet (dFlat (dOp gIx (dLst (dCons (dC (.none)) (dCons (dTup (dCons (dVar 2) (dCons (dC (.int 1)) (dNil)))) (dNil)))) (dCall gInt (dCons (dUn gNotN (dVar 2)) (dNil))))))) (sNil))
    (sSeq (sSetl 3 (dCall F__law_two (dCons (dVar 1) (dCons (dC (.str "/")) (dNil)))))
    (sSeq (sIf (D3.tOr (tBool (dUn gIsN (dVar 3))) (D3.tOr (tBool (dOp gLt (dOp gIx (dVar 3) (dC (.int 1))) (dC (.int 2)))) (tBool (dOp gNe (dCall F__law_divisor (dCons (dOp gIx (dVar 3) (dC (.int 0))) (dCons (dOp gIx (dVar 3) (dC (.int 1))) (dNil)))) (dC (.int 1)))))) (sRet (dC (.none))) (sNil))
    (sRet (dFlat (dVar 3))))))))
noncomputable def F__law_read : List D → Option D := fnD 2 3 (sSeq (sTryU 3 (xIf (tBool (dOp gEq (dVar 0) (dC (.int 0)))) (xAsg 2 X_read_number [] (dCons (dVar 1) (dNil))) (xIf (tBool (dOp gEq (dVar 0) (dC (.int 1)))) (xAsg 2 X_read_ratio [] (dCons (dVar 1) (dNil))) (xAsg 2 X_read_nights [] (dCons (dVar 1) (dNil))))) ["NoText"] (fun c d => if c = "NoText" then sSeq (sSetl 4 (dOr (dC (.bool false)) (dNot (dC (.bool true))))) (sRet (dTup (dCons (dC (.str "refused")) (dCons (dAnd (dC (.bool true)) (dNot (dVar 4))) (dNil))))) else (fun _ => none)))
    (sRet (dTup (dCons (dC (.str "read")) (dCons (dFl1 (dVar 2)) (dNil))))))
noncomputable abbrev F__law_kinds : List D → Option D := Com.F__law_kinds
noncomputable def F__law_asked : List D → Option D := fnD 1 4 (sSeq (sFor (fRng1 (dCons (dC (.int 3)) (dNil))) (gNl 1) (sSeq (sSetl 2 (dCall F__law_due (dCons (dVar 1) (dCons (dVar 0) (dNil)))))
    (sSeq (sAsg (dCall F__law_read (dCons (dVar 1) (dCons (dVar 0) (dNil)))) (gTn 2 (gsCons (gNl 3) (gsCons (gNl 4) (gsNil)))))
    (sIf (tBool (dUn gIsN (dVar 2))) (sIf (D3.tOr (tBool (dOp gNe (dVar 3) (dC (.str "refused")))) (D3.tNot (tBool (dVar 4)))) (sRet (dC (.bool false))) (sNil)) (sIf (D3.tOr (tBool (dOp gNe (dVar 3) (dC (.str "read")))) (D3.tOr (D3.tNot (tBool (dCall F__law_kinds (dCons (dVar 1) (dCons (dVar 4) (dNil)))))) (tBool (dOp gNe (dVar 4) (dVar 2))))) (sRet (dC (.bool false))) (sIf (D3.tOr (D3.tAnd (tBool (dOp gEq (dVar 1) (dC (.int 1)))) (tBool (dOp gNe (dCall F_shown_ratio (dCons (dVar 4) (dNil))) (dVar 0)))) (D3.tAnd (tBool (dOp gEq (dVar 1) (dC (.int 2)))) (tBool (dOp gNe (dCall F_shown_nights (dCons (dVar 4) (dNil))) (dVar 0))))) (sRet (dC (.bool false))) (sNil)))))))
    (sRet (dC (.bool true))))
noncomputable def F__law_figures : List D → Option D := fnD 3 3 (sSeq (sSetl 3 (dOp gAdd (dC (.int 1)) (dCall F__law_part (dCons (dVar 0) (dCons (dVar 1) (dCons (dVar 2) (dCons (dC (.int 10)) (dNil))))))))
    (sSeq (sSetl 4 (dC (.int 0)))
    (sSeq (sFor (fRng1 (dCons (dVar 3) (dNil))) (gNl 5) (sSetl 4 (dOp gAdd (dOp gMul (dC (.int 10)) (dVar 4)) (dCall F__law_part (dCons (dVar 0) (dCons (dVar 1) (dCons (dOp gAdd (dOp gAdd (dVar 2) (dC (.int 1))) (dVar 5)) (dCons (dC (.int 10)) (dNil)))))))))
    (sRet (dCall gStr (dCons (dVar 4) (dNil)))))))
noncomputable def F__law_spoilt : List D → Option D := fnD 3 4 (sSeq (sSetl 3 (dC (.str "0123456789-/ +.xO")))
    (sSeq (sSetl 4 (dCall F__law_part (dCons (dVar 0) (dCons (dVar 1) (dCons (dC (.int 40)) (dCons (dOp gAdd (dCall gLenS (dCons (dVar 2) (dNil))) (dC (.int 1))) (dNil)))))))
    (sSeq (sSetl 5 (dOp gIxS (dVar 3) (dCall F__law_part (dCons (dVar 0) (dCons (dVar 1) (dCons (dC (.int 41)) (dCons (dC (.int 17)) (dNil))))))))
    (sSeq (sSetl 6 (dCall F__law_part (dCons (dVar 0) (dCons (dVar 1) (dCons (dC (.int 42)) (dCons (dC (.int 3)) (dNil)))))))
    (sSeq (sIf (tBool (dOp gEq (dVar 6) (dC (.int 0)))) (sRet (dOp gAddS (dOp gAddS (dSlS (dVar 2) oNone (oPart (dVar 4))) (dVar 5)) (dSlS (dVar 2) (oPart (dVar 4)) oNone))) (sNil))
    (sSeq (sIf (tBool (dOp gEq (dVar 6) (dC (.int 1)))) (sRet (dOp gAddS (dSlS (dVar 2) oNone (oPart (dVar 4))) (dSlS (dVar 2) (oPart (dOp gAdd (dVar 4) (dC (.int 1)))) oNone))) (sNil))
    (sRet (dOp gAddS (dOp gAddS (dSlS (dVar 2) oNone (oPart (dVar 4))) (dVar 5)) (dSlS (dVar 2) (oPart (dOp gAdd (dVar 4) (dC (.int 1)))) oNone)))))))))
noncomputable def F__law_shown : List D → Option D := fnD 2 6 (sSeq (sSetl 2 (dC (.int 0)))
    (sSeq (sSetl 3 (dC (.int 0)))
    (sSeq (sFor (fRng1 (dCons (dC (.int 10)) (dNil))) (gNl 4) (sSeq (sSetl 2 (dOp gAdd (dOp gMul (dVar 2) (dOp gPow (dC (.int 10)) (dC (.int 6)))) (dOp gMul (dCall F__law_part (dCons (dVar 0) (dCons (dVar 1) (dCons (dOp gAdd (dC (.int 43)) (dVar 4)) (dCons (dOp gPow (dC (.int 10)) (dC (.int 6))) (dNil)))))) (dCall gInt (dCons (dOr (dOp gGt (dVar 4) (dC (.int 5))) (dOp gEq (dOp gMod (dVar 1) (dC (.int 2))) (dC (.int 0)))) (dNil))))))
    (sSetl 3 (dOp gAdd (dOp gMul (dVar 3) (dOp gPow (dC (.int 10)) (dC (.int 6)))) (dCall F__law_part (dCons (dVar 0) (dCons (dVar 1) (dCons (dC (.int 53)) (dCons (dOp gPow (dC (.int 10)) (dC (.int 6))) (dNil))))))))))
    (sSeq (sSetl 5 (dCall gMax2 (dCons (dC (.int 1)) (dCons (dCall F__law_divisor (dCons (dVar 2) (dCons (dOp gAdd (dVar 3) (dC (.int 1))) (dNil)))) (dNil)))))
    (sSeq (sSetl 6 (dTup (dCons (dOp gDiv (dVar 2) (dVar 5)) (dCons (dOp gDiv (dOp gAdd (dVar 3) (dC (.int 1))) (dVar 5)) (dNil)))))
    (sSeq (sSetl 7 (dCall gStr (dCons (dOp gIx (dVar 6) (dC (.int 0))) (dNil))))
    (sSeq (sIf (tBool (dOp gGt (dOp gIx (dVar 6) (dC (.int 1))) (dC (.int 1)))) (sSetl 7 (dOp gAddS (dOp gAddS (dVar 7) (dC (.str "/"))) (dCall gStr (dCons (dOp gIx (dVar 6) (dC (.int 1))) (dNil))))) (sNil))
    (sSeq (sIf (D3.tOr (tBool (dOp gNe (dCall F_shown_ratio (dCons (dVar 6) (dNil))) (dVar 7))) (tBool (dOp gNe (dCall F_shown_ratio (dCons (dTup (dCons (dVar 2) (dCons (dC (.int 1)) (dNil)))) (dNil))) (dCall gStr (dCons (dVar 2) (dNil)))))) (sRet (dC (.bool false))) (sNil))
    (sRet (dOp gEq (dCall F_shown_nights (dCons (dTup (dCons (dVar 2) (dCons (dVar 3) (dNil)))) (dNil))) (dOp gAddS (dOp gAddS (dCall gStr (dCons (dVar 2) (dNil))) (dC (.str "-"))) (dCall gStr (dCons (dVar 3) (dNil))))))))))))))
noncomputable def F_law : List D → Option D := fnD 1 8 (sSeq (sFor (fRng1 (dCons (dCall gMax2 (dCons (dC (.int 3)) (dCons (dCall gMin2 (dCons (dC (.int 20)) (dCons (dCall gLen (dCons (dVar 0) (dNil))) (dNil)))) (dNil)))) (dNil))) (gNl 1) (sSeq (sSetl 2 (dCall F__law_figures (dCons (dVar 0) (dCons (dVar 1) (dCons (dC (.int 0)) (dNil))))))
    (sSeq (sSetl 3 (dCall F__law_figures (dCons (dVar 0) (dCons (dVar 1) (dCons (dC (.int 12)) (dNil))))))
    (sSeq (sSetl 4 (dOp gAddS (dOp gAddS (dCall gStr (dCons (dCall F__law_part (dCons (dVar 0) (dCons (dVar 1) (dCons (dC (.int 24)) (dCons (dC (.int 13)) (dNil)))))) (dNil))) (dC (.str "/"))) (dCall gStr (dCons (dCall F__law_part (dCons (dVar 0) (dCons (dVar 1) (dCons (dC (.int 25)) (dCons (dC (.int 13)) (dNil)))))) (dNil)))))
    (sSeq (sFor (fLst (dLst (dCons (dVar 2) (dCons (dOp gAddS (dOp gAddS (dVar 2) (dC (.str "/"))) (dVar 3)) (dCons (dOp gAddS (dOp gAddS (dVar 2) (dC (.str "-"))) (dVar 3)) (dCons (dVar 4) (dCons (dOp gAddS (dOp gAddS (dVar 2) (dC (.str "-"))) (dVar 2)) (dNil)))))))) (gNl 5) (sIf (D3.tOr (D3.tNot (tBool (dCall F__law_asked (dCons (dVar 5) (dNil))))) (D3.tNot (tBool (dCall F__law_asked (dCons (dCall F__law_spoilt (dCons (dVar 0) (dCons (dVar 1) (dCons (dVar 5) (dNil))))) (dNil)))))) (sRet (dC (.bool false))) (sNil)))
    (sSeq (sSetl 6 (dOp gJoin (dC (.str "")) (dComp (fRng1 (dCons (dCall F__law_part (dCons (dVar 0) (dCons (dVar 1) (dCons (dC (.int 32)) (dCons (dC (.int 6)) (dNil)))))) (dNil))) (gNl 0) (tYes) (dOp gIxS (dC (.str "01-/5 ")) (dCall F__law_part (dCons (dVar 1) (dCons (dVar 2) (dCons (dOp gAdd (dC (.int 26)) (dVar 0)) (dCons (dC (.int 6)) (dNil))))))) 1 [0, 1])))
    (sIf (D3.tOr (D3.tNot (tBool (dCall F__law_asked (dCons (dVar 6) (dNil))))) (D3.tNot (tBool (dCall F__law_shown (dCons (dVar 0) (dCons (dVar 1) (dNil))))))) (sRet (dC (.bool false))) (sNil))))))))
    (sSeq (sSetl 7 (dOp gIx (dLst (dCons (dC (.none)) (dCons (dC (.int 5)) (dCons (dC (.bool true)) (dCons (dTup (dCons (dC (.int 1)) (dCons (dC (.int 2)) (dNil)))) (dCons (dLst (dCons (dC (.str "1")) (dNil))) (dCons (dC (.dict [])) (dCons (dTup (dCons (dC (.str "1")) (dCons (dC (.str "2")) (dNil)))) (dNil))))))))) (dCall F__law_part (dCons (dVar 0) (dCons (dC (.int 0)) (dCons (dC (.int 33)) (dCons (dC (.int 7)) (dNil))))))))
    (sSeq (sFor (fRng1 (dCons (dC (.int 3)) (dNil))) (gNl 8) (sIf (tBool (dOp gNe (dCall F__law_read (dCons (dVar 8) (dCons (dVar 7) (dNil)))) (dTup (dCons (dC (.str "refused")) (dCons (dC (.bool true)) (dNil)))))) (sRet (dC (.bool false))) (sNil)))
    (sRet (dAnd (dCall F__law_asked (dCons (dC (.str "")) (dNil))) (dAnd (dCall F__law_asked (dCons (dC (.str "0")) (dNil))) (dAnd (dCall F__law_asked (dCons (dC (.str "1234567890")) (dNil))) (dCall F__law_asked (dCons (dC (.str "12345678901")) (dNil))))))))))
end K91
namespace K91
open PySem D3 My Com
def dgt (c : Nat) : Bool := decide (48 ≤ c ∧ c ≤ 57)
def nvOk (l : List Nat) : Bool := (decide (1 ≤ l.length) && decide (l.length ≤ 10)) && (l.all dgt && (!decide (l.head? = some 48) || decide (l.length = 1)))
def nv (z : Str) : Option Nat := if nvOk z.cps.toList = true then some (NumText.digitsVal z.cps.toList) else none
def asc (z : Str) : Prop := (z.cps.all fun x => decide (x < 128)) = true ∧ z.length ≤ 1000
def opD : Option Nat → D
  | none => .none
  | some n => .int (n : Int)
theorem fig_in (c : Nat) : (!(Builtin.Str.occurrences ("0123456789" : Str) ⟨#[c]⟩ 0 ("0123456789" : Str).length 1).isEmpty) = dgt c := by
  rw [StrLaws.found_one]
  unfold dgt
  have e : ("0123456789" : Str).cps.toList = [48, 49, 50, 51, 52, 53, 54, 55, 56, 57] := by decide +kernel
  rw [e, decide_eq_decide]
  simp only [List.mem_cons, List.not_mem_nil, or_false]
  omega
theorem fig_at : ∀ k : Fin 10, (Builtin.Str.occurrences ("0123456789" : Str) ⟨#[48 + k.val]⟩ 0 ("0123456789" : Str).length 1).head? = some k.val := by decide +kernel
theorem fig_ix {c : Nat} (h : dgt c = true) : gIndexS (.str "0123456789") (.str ⟨#[c]⟩) = some (.int ((c - 48 : Nat) : Int)) := by
  have h := of_decide_eq_true h
  have := fig_at ⟨c - 48, by omega⟩
  have e : 48 + (c - 48) = c := by omega
  rw [show (⟨c - 48, by omega⟩ : Fin 10).val = c - 48 from rfl, e] at this
  unfold gIndexS
  simp only
  rw [this]
  rfl
theorem in_fig (c : Nat) : gInS (.str ⟨#[c]⟩) (.str "0123456789") = some (.bool (dgt c)) := by
  show some (PyData.bool _) = _
  rw [fig_in]
theorem notin_fig (c : Nat) : gNotinS (.str ⟨#[c]⟩) (.str "0123456789") = some (.bool (!dgt c)) := by
  show some (PyData.bool _) = _
  rw [fig_in]
def sgn (c : Nat) : D := .str ⟨#[c]⟩
theorem signs {z : Str} (h : asc z) : asSigns (.str z) = some (z.cps.toList.map sgn) := by
  show (if _ then _ else _) = _
  rw [if_pos h.1]
  rfl
theorem len_z (z : Str) : z.cps.toList.length = z.length := by simp [Str.length]
theorem ln_z {z : Str} (h : asc z) : gLenS [.str z] = some (.int (z.cps.toList.length : Int)) := by
  show (if _ then _ else _) = _
  have := h.2
  rw [if_pos (by omega), len_z]
theorem eqv_str (a b : Str) : PyData.eqv (.str a) (.str b) = decide (a = b) := by
  show (a == b) = decide (a = b)
  by_cases h : a = b
  · rw [h]; simp
  · rw [decide_eq_false h]; simp [h]
theorem ix0_z {z : Str} (h : asc z) {c : Nat} {r : List Nat} (e : z.cps.toList = c :: r) : gIxS (.str z) (.int 0) = some (sgn c) := by
  show (if _ then _ else _) = _
  have := h.2
  rw [if_pos (by omega), e]
  have : L2.atI (c :: r) 0 = some c := by
    unfold L2.atI L2.ixN
    simp
  rw [this]
  rfl
theorem ly_str {z : Str} (h : asc z) : ly 2 (.str z) := by
  refine ⟨?_, by simp [PyData.depth]⟩
  show PyData.strOk z = true
  have := h.1
  unfold PyData.strOk
  rw [Array.all_eq_true] at this ⊢
  intro i hi
  have := of_decide_eq_true (this i hi)
  exact decide_eq_true (by omega)
theorem sh_str {z : Str} (h : asc z) : SeqAt.shaped (.str z) = true := ly_shaped (ly_le (ly_str h) (by decide))
theorem eq_str {a b : Str} (ha : asc a) (hb : asc b) : gEq (.str a) (.str b) = some (.bool (decide (a = b))) := by
  unfold gEq
  rw [sh_str ha, sh_str hb, eqv_str]
  rfl
theorem ne_str {a b : Str} (ha : asc a) (hb : asc b) : gNe (.str a) (.str b) = some (.bool (!decide (a = b))) := by
  unfold gNe
  rw [sh_str ha, sh_str hb, eqv_str]
  rfl
theorem asc_one {c : Nat} (h : c < 128) : asc ⟨#[c]⟩ := ⟨by simp [h], by show 1 ≤ 1000; decide⟩
theorem asc_0 : asc ("0" : Str) := ⟨by decide +kernel, by decide +kernel⟩
theorem asc_mem {z : Str} (h : asc z) {c : Nat} (hc : c ∈ z.cps.toList) : c < 128 := by
  have := h.1
  rw [Array.all_eq_true] at this
  obtain ⟨i, hi, rfl⟩ := List.getElem_of_mem hc
  have := this i (by simpa using hi)
  simpa using of_decide_eq_true this
theorem str_ext {a b : Str} (h : a.cps.toList = b.cps.toList) : a = b := by
  cases a; cases b
  congr
  exact Array.toList_inj.mp h
theorem zero_cps : ("0" : Str).cps.toList = [48] := by decide +kernel
theorem num_text {z : Str} (h : asc z) : F_is_number_text [.str z] = some (.bool (nvOk z.cps.toList)) := by
  have ty : D3.isT "str" (tyD (.str z)) = true := (by decide : D3.isT "str" "str" = true)
  have ln := ln_z h
  unfold nvOk
  by_cases c1 : 1 ≤ z.cps.toList.length
  · by_cases c2 : z.cps.toList.length ≤ 10
    · rw [decide_eq_true c1, decide_eq_true c2, Bool.true_and, Bool.true_and]
      obtain ⟨c, r, e⟩ : ∃ c r, z.cps.toList = c :: r := by
        cases e : z.cps.toList with
        | nil => rw [e] at c1; simp at c1
        | cons c r => exact ⟨c, r, rfl⟩
      have hc : c < 128 := asc_mem h (by rw [e]; exact List.mem_cons_self)
      have C := cMap (g := (gNl 0)) (c := (D3.tYes)) (e := (dOp gInS (dVar 0) (dC (.str "0123456789")))) (δ := [none]) sgn (fun c => .bool (dgt c)) z.cps.toList (fun c _ => by
        refine ⟨[some (.d (sgn c))], rfl, rfl, ?_⟩
        have := in_fig c
        have this : gInS (sgn c) (.str "0123456789") = some (.bool (dgt c)) := this
        simp only [EV, reduceIte, Nat.reduceAdd, Nat.reduceLT, Nat.reduceLeDiff, Nat.reduceEqDiff, Int.reduceEq, Int.reduceLT, Int.reduceLE, this])
      have ca : ∀ a : Option U, capD 1 [] [a] = [none] := fun _ => rfl
      have fs : fStr (dVar 0) [some (.d (.str z))] = some (z.cps.toList.map sgn) := signs h
      have ll : (z.cps.toList.map sgn).length ≤ 100000 := by rw [List.length_map]; omega
      have ga : gAll [.list (z.cps.toList.map fun c => PyData.bool (dgt c))] = some (.bool (z.cps.toList.all dgt)) := by
        have B : ∀ l : List Nat, boolsD (l.map fun d => PyData.bool (dgt d)) = some (l.map dgt) := fun l => by
          induction l with
          | nil => rfl
          | cons a r ih => rw [List.map_cons, boolsD, ih]; rfl
        show (boolsD _).map (fun bs => PyData.bool (bs.all id)) = _
        rw [B, Option.map_some, List.all_map]
        rfl
      have i0 := ix0_z h e
      have n0 : gNe (sgn c) (.str "0") = some (.bool (!decide (z.cps.toList.head? = some 48))) := by
        refine (ne_str (asc_one hc) asc_0).trans ?_
        have : ((⟨#[c]⟩ : Str) = "0") ↔ z.cps.toList.head? = some 48 := by
          rw [e]
          constructor
          · intro q
            have := congrArg (fun s : Str => s.cps.toList) q
            rw [show ("0" : Str).cps.toList = [48] from zero_cps] at this
            simpa using this
          · intro q
            refine str_ext ?_
            rw [zero_cps]
            simpa using q
        rw [decide_eq_decide.mpr this]
      have e0 : gEq (.str z) (.str "0") = some (.bool (decide (z = "0"))) := eq_str h asc_0
      unfold F_is_number_text
      cases ca' : z.cps.toList.all dgt with
      | false =>
        rw [ca'] at ga
        simp only [EV, reduceIte, Nat.reduceAdd, Nat.reduceLT, Nat.reduceLeDiff, Nat.reduceEqDiff, Int.reduceEq, Int.reduceLT, Int.reduceLE, ty, ln, decide_eq_true (show (1 : Int) ≤ (z.cps.toList.length : Int) by omega), decide_eq_true (show (z.cps.toList.length : Int) ≤ 10 by omega), Bool.not_true, fs, ll, ca, C, ga, Bool.false_and]
      | true =>
        rw [ca'] at ga
        cases ch : decide (z.cps.toList.head? = some 48) with
        | false =>
          rw [ch] at n0
          simp only [EV, reduceIte, Nat.reduceAdd, Nat.reduceLT, Nat.reduceLeDiff, Nat.reduceEqDiff, Int.reduceEq, Int.reduceLT, Int.reduceLE, ty, ln, decide_eq_true (show (1 : Int) ≤ (z.cps.toList.length : Int) by omega), decide_eq_true (show (z.cps.toList.length : Int) ≤ 10 by omega), Bool.not_true, Bool.not_false, fs, ll, ca, C, ga, i0, n0, Bool.true_and, Bool.true_or]
        | true =>
          rw [ch] at n0
          have z0 : decide (z = ("0" : Str)) = decide (z.cps.toList.length = 1) := by
            rw [decide_eq_decide]
            constructor
            · rintro rfl
              rw [zero_cps]
              rfl
            · intro q
              refine str_ext ?_
              rw [zero_cps, e]
              rw [e] at q
              have hh := of_decide_eq_true ch
              rw [e] at hh
              have : r = [] := List.length_eq_zero_iff.mp (by simpa using q)
              rw [this]
              have : c = 48 := by simpa using hh
              rw [this]
          rw [z0] at e0
          simp only [EV, reduceIte, Nat.reduceAdd, Nat.reduceLT, Nat.reduceLeDiff, Nat.reduceEqDiff, Int.reduceEq, Int.reduceLT, Int.reduceLE, ty, ln, decide_eq_true (show (1 : Int) ≤ (z.cps.toList.length : Int) by omega), decide_eq_true (show (z.cps.toList.length : Int) ≤ 10 by omega), Bool.not_true, Bool.not_false, fs, ll, ca, C, ga, i0, n0, e0, Bool.true_and, Bool.false_or]
    · rw [decide_eq_false c2, Bool.and_false, Bool.false_and]
      unfold F_is_number_text
      simp only [EV, reduceIte, Nat.reduceAdd, Nat.reduceLT, Nat.reduceLeDiff, Nat.reduceEqDiff, Int.reduceEq, Int.reduceLT, Int.reduceLE, ty, ln, decide_eq_true (show (1 : Int) ≤ (z.cps.toList.length : Int) by omega), decide_eq_false (show ¬ (z.cps.toList.length : Int) ≤ 10 by omega), Bool.not_true, Bool.not_false]
  · rw [decide_eq_false c1, Bool.false_and, Bool.false_and]
    unfold F_is_number_text
    simp only [EV, reduceIte, Nat.reduceAdd, Nat.reduceLT, Nat.reduceLeDiff, Nat.reduceEqDiff, Int.reduceEq, Int.reduceLT, Int.reduceLE, ty, ln, decide_eq_false (show ¬ (1 : Int) ≤ (z.cps.toList.length : Int) by omega), Bool.not_true, Bool.not_false]
section
variable {f g : FX} {c : FT} {δ δ' : DS} {cn : Str} {d r : D} {o : Oc} {p q j : Nat} {b : FX} {ds dd : List D} {F : List D → Option Or} {fa : FA} {cs : List Str} {fS : Str → D → DS → Option D}
theorem xs_nx (h : f δ = some (.o (.nx δ'))) : xSeq f g δ = g δ' := by unfold xSeq; rw [h]; rfl
theorem xs_ex (h : f δ = some (.ex cn d)) : xSeq f g δ = some (.ex cn d) := by unfold xSeq; rw [h]; rfl
theorem xi_t (h : c δ = some true) : xIf c f g δ = f δ := by unfold xIf; rw [h]; rfl
theorem xi_f (h : c δ = some false) : xIf c f g δ = g δ := by unfold xIf; rw [h]; rfl
theorem fx_ex (hl : ds.length = p) (e : b (ds.map (fun d => some (.d d)) ++ List.replicate q none) = some (.ex cn d)) : fnX p q b ds = some (.ex cn d) := by unfold fnX; rw [if_pos hl, e]
theorem fx_rt (hl : ds.length = p) (e : b (ds.map (fun d => some (.d d)) ++ List.replicate q none) = some (.o (.rt d))) : fnX p q b ds = some (.o (.rt d)) := by unfold fnX; rw [if_pos hl, e]
theorem xo_rt {fs : FS} (h : fs δ = some o) : xOf fs δ = some (.o o) := by unfold xOf; rw [h]; rfl
theorem xt_nx (hf : fa δ = some ds) (e : F ds = some (.o (.rt d))) (hd : fl1 d = true) (hj : j < δ.length) : xSet j F fa δ = some (.o (.nx (δ.set j (some (.d d))))) := by
  unfold xSet
  rw [hf, Option.bind_some, e]
  exact if_pos ⟨hd, hj⟩
theorem xt_ex (hf : fa δ = some ds) (e : F ds = some (.ex cn d)) : xSet j F fa δ = some (.ex cn d) := by
  unfold xSet
  rw [hf, Option.bind_some, e]
end
def wrd : D := .str "a number is written by one to ten figures, the first one 0 only in 0 itself"
def rdX : Option Nat → Or
  | none => .ex "NoText" wrd
  | some n => .o (.rt (.int (n : Int)))
theorem all_dig {l : List Nat} (h : l.all dgt = true) : NumText.AllDigits l := fun c hc => of_decide_eq_true (List.all_eq_true.mp h c hc)
theorem nvOk_dig {l : List Nat} (h : nvOk l = true) : l.all dgt = true ∧ 1 ≤ l.length ∧ l.length ≤ 10 := by
  unfold nvOk at h
  simp only [Bool.and_eq_true] at h
  exact ⟨h.2.1, of_decide_eq_true h.1.1, of_decide_eq_true h.1.2⟩
theorem read_number {z : Str} (h : asc z) : X_read_number [.str z] = some (rdX (nv z)) := by
  have n := num_text h
  unfold X_read_number nv
  cases c : nvOk z.cps.toList with
  | false =>
    rw [c] at n
    refine fx_ex rfl (xs_ex ((xi_t ?_).trans rfl))
    simp only [EV, reduceIte, Nat.reduceAdd, Nat.reduceLT, Nat.reduceLeDiff, Nat.reduceEqDiff, Int.reduceEq, Int.reduceLT, Int.reduceLE, n, Bool.not_false]
  | true =>
    rw [c] at n
    obtain ⟨h1, h2, h3⟩ := nvOk_dig c
    have it : gIntS [.str z] = some (.int ((NumText.digitsVal z.cps.toList : Nat) : Int)) := by
      show (if z.length ≤ 640 then (intText? z).map _ else none) = _
      have lz := len_z z
      rw [if_pos (by omega), intText_digits (all_dig h1) (fun q => by rw [q] at h2; simp at h2) (by omega)]
      rfl
    refine fx_rt rfl ((xs_nx ((xi_f ?_).trans (xo_rt rfl))).trans (xo_rt ?_))
    · simp only [EV, reduceIte, Nat.reduceAdd, Nat.reduceLT, Nat.reduceLeDiff, Nat.reduceEqDiff, Int.reduceEq, Int.reduceLT, Int.reduceLE, n, Bool.not_true]
    · simp only [EV, reduceIte, Nat.reduceAdd, Nat.reduceLT, Nat.reduceLeDiff, Nat.reduceEqDiff, Int.reduceEq, Int.reduceLT, Int.reduceLE, it]
theorem num_loop (a : Option U) : ∀ (l : List Nat) (acc : Nat) (u : Option U), (∀ c ∈ l, c < 128) →
    (l.all dgt = true ∧ ∃ u', forD (gNl 2) (sSeq (sIf (tBool (dOp gNotinS (dVar 2) (dC (.str "0123456789")))) (sRet (dC (.none))) (sNil)) (sSetl 1 (dOp gAdd (dOp gMul (dC (.int 10)) (dVar 1)) (dOp gIndexS (dC (.str "0123456789")) (dVar 2))))) (l.map sgn) [a, some (.d (.int (acc : Int))), u] = some (.nx [a, some (.d (.int ((l.foldl (fun n c => n * 10 + (c - 48)) acc : Nat) : Int))), u'])) ∨
    (l.all dgt = false ∧ forD (gNl 2) (sSeq (sIf (tBool (dOp gNotinS (dVar 2) (dC (.str "0123456789")))) (sRet (dC (.none))) (sNil)) (sSetl 1 (dOp gAdd (dOp gMul (dC (.int 10)) (dVar 1)) (dOp gIndexS (dC (.str "0123456789")) (dVar 2))))) (l.map sgn) [a, some (.d (.int (acc : Int))), u] = some (.rt .none))
  | [], acc, u, _ => .inl ⟨rfl, u, rfl⟩
  | c :: l, acc, u, h => by
    have ni := notin_fig c
    have ni : gNotinS (sgn c) (.str "0123456789") = some (.bool (!dgt c)) := ni
    have g1 : (gNl 2) (sgn c) [a, some (.d (.int (acc : Int))), u] = some [a, some (.d (.int (acc : Int))), some (.d (sgn c))] := rfl
    cases q : dgt c with
    | false =>
      rw [q] at ni
      refine .inr ⟨by rw [List.all_cons, q]; rfl, ?_⟩
      have b1 : (sSeq (sIf (tBool (dOp gNotinS (dVar 2) (dC (.str "0123456789")))) (sRet (dC (.none))) (sNil)) (sSetl 1 (dOp gAdd (dOp gMul (dC (.int 10)) (dVar 1)) (dOp gIndexS (dC (.str "0123456789")) (dVar 2))))) [a, some (.d (.int (acc : Int))), some (.d (sgn c))] = some (.rt .none) := by
        simp only [EV, reduceIte, Nat.reduceAdd, Nat.reduceLT, Nat.reduceLeDiff, Nat.reduceEqDiff, Int.reduceEq, Int.reduceLT, Int.reduceLE, ni, Bool.not_false]
      rw [List.map_cons, forD, g1, Option.bind_some, b1]
      rfl
    | true =>
      rw [q] at ni
      have ix : gIndexS (.str "0123456789") (sgn c) = some (.int ((c - 48 : Nat) : Int)) := fig_ix q
      have b1 : (sSeq (sIf (tBool (dOp gNotinS (dVar 2) (dC (.str "0123456789")))) (sRet (dC (.none))) (sNil)) (sSetl 1 (dOp gAdd (dOp gMul (dC (.int 10)) (dVar 1)) (dOp gIndexS (dC (.str "0123456789")) (dVar 2))))) [a, some (.d (.int (acc : Int))), some (.d (sgn c))] = some (.nx [a, some (.d (.int ((acc * 10 + (c - 48) : Nat) : Int))), some (.d (sgn c))]) := by
        have e : (10 * (acc : Int) + ((c - 48 : Nat) : Int)) = ((acc * 10 + (c - 48) : Nat) : Int) := by
          rw [Int.natCast_add, Int.natCast_mul]
          omega
        rw [← e]
        have m : gMul (.int 10) (.int (acc : Int)) = some (.int (10 * (acc : Int))) := mulL (by decide) (by decide)
        simp only [EV, reduceIte, Nat.reduceAdd, Nat.reduceLT, Nat.reduceLeDiff, Nat.reduceEqDiff, Int.reduceEq, Int.reduceLT, Int.reduceLE, ni, Bool.not_true, m, ix]
      have ih := num_loop a l (acc * 10 + (c - 48)) (some (.d (sgn c))) fun x hx => h x (List.mem_cons_of_mem _ hx)
      rw [List.all_cons, q, Bool.true_and, List.map_cons, List.foldl_cons, forD, g1, Option.bind_some, b1]
      exact ih
theorem law_number {z : Str} (h : asc z) : F__law_number [.str z] = some (opD (nv z)) := by
  have ln := ln_z h
  unfold nv nvOk
  by_cases c1 : 1 ≤ z.cps.toList.length
  · by_cases c2 : z.cps.toList.length ≤ 10
    · rw [decide_eq_true c1, decide_eq_true c2, Bool.true_and, Bool.true_and]
      obtain ⟨c, r, e⟩ : ∃ c r, z.cps.toList = c :: r := by
        cases e : z.cps.toList with
        | nil => rw [e] at c1; simp at c1
        | cons c r => exact ⟨c, r, rfl⟩
      have hc : c < 128 := asc_mem h (by rw [e]; exact List.mem_cons_self)
      have i0 := ix0_z h e
      have n0 : gEq (sgn c) (.str "0") = some (.bool (decide (z.cps.toList.head? = some 48))) := by
        refine (eq_str (asc_one hc) asc_0).trans ?_
        have : ((⟨#[c]⟩ : Str) = "0") ↔ z.cps.toList.head? = some 48 := by
          rw [e]
          constructor
          · intro q
            have := congrArg (fun s : Str => s.cps.toList) q
            rw [show ("0" : Str).cps.toList = [48] from zero_cps] at this
            simpa using this
          · intro q
            refine str_ext ?_
            rw [zero_cps]
            simpa using q
        rw [decide_eq_decide.mpr this]
      have fs : ∀ a b : Option U, fStr (dVar 0) [some (.d (.str z)), a, b] = some (z.cps.toList.map sgn) := fun _ _ => signs h
      have L := num_loop (some (.d (.str z))) z.cps.toList 0 none fun c hc => asc_mem h hc
      rw [show ((0 : Nat) : Int) = 0 from rfl] at L
      have end1 : (decide (z.cps.toList.head? = some 48) = true → z.cps.toList.length = 1) → F__law_number [.str z] = some (opD (if (z.cps.toList.all dgt) = true then some (NumText.digitsVal z.cps.toList) else none)) := fun hh => by
        unfold F__law_number
        have go : ∀ b : Bool, decide (z.cps.toList.head? = some 48) = b → (b = true → decide ((z.cps.toList.length : Int) > 1) = false) := fun b hb q => decide_eq_false (by have := hh (hb.trans q); omega)
        rcases L with ⟨q, u', e2⟩ | ⟨q, e2⟩
        · rw [q, if_pos rfl]
          cases ch : decide (z.cps.toList.head? = some 48) with
          | false =>
            rw [ch] at n0
            simp only [EV, reduceIte, Nat.reduceAdd, Nat.reduceLT, Nat.reduceLeDiff, Nat.reduceEqDiff, Int.reduceEq, Int.reduceLT, Int.reduceLE, ln, decide_eq_true (show (1 : Int) ≤ (z.cps.toList.length : Int) by omega), decide_eq_true (show (z.cps.toList.length : Int) ≤ 10 by omega), Bool.not_true, i0, n0, fs, e2]
            rfl
          | true =>
            rw [ch] at n0
            simp only [EV, reduceIte, Nat.reduceAdd, Nat.reduceLT, Nat.reduceLeDiff, Nat.reduceEqDiff, Int.reduceEq, Int.reduceLT, Int.reduceLE, ln, decide_eq_true (show (1 : Int) ≤ (z.cps.toList.length : Int) by omega), decide_eq_true (show (z.cps.toList.length : Int) ≤ 10 by omega), Bool.not_true, i0, n0, go true ch rfl, fs, e2]
            rfl
        · rw [q, if_neg Bool.false_ne_true]
          cases ch : decide (z.cps.toList.head? = some 48) with
          | false =>
            rw [ch] at n0
            simp only [EV, reduceIte, Nat.reduceAdd, Nat.reduceLT, Nat.reduceLeDiff, Nat.reduceEqDiff, Int.reduceEq, Int.reduceLT, Int.reduceLE, ln, decide_eq_true (show (1 : Int) ≤ (z.cps.toList.length : Int) by omega), decide_eq_true (show (z.cps.toList.length : Int) ≤ 10 by omega), Bool.not_true, i0, n0, fs, e2]
            rfl
          | true =>
            rw [ch] at n0
            simp only [EV, reduceIte, Nat.reduceAdd, Nat.reduceLT, Nat.reduceLeDiff, Nat.reduceEqDiff, Int.reduceEq, Int.reduceLT, Int.reduceLE, ln, decide_eq_true (show (1 : Int) ≤ (z.cps.toList.length : Int) by omega), decide_eq_true (show (z.cps.toList.length : Int) ≤ 10 by omega), Bool.not_true, i0, n0, go true ch rfl, fs, e2]
            rfl
      by_cases c3 : z.cps.toList.head? = some 48 ∧ ¬ z.cps.toList.length = 1
      · rw [decide_eq_true c3.1, decide_eq_false c3.2, Bool.not_true, Bool.false_or, Bool.and_false, if_neg Bool.false_ne_true]
        rw [decide_eq_true c3.1] at n0
        unfold F__law_number
        simp only [EV, reduceIte, Nat.reduceAdd, Nat.reduceLT, Nat.reduceLeDiff, Nat.reduceEqDiff, Int.reduceEq, Int.reduceLT, Int.reduceLE, ln, decide_eq_true (show (1 : Int) ≤ (z.cps.toList.length : Int) by omega), decide_eq_true (show (z.cps.toList.length : Int) ≤ 10 by omega), Bool.not_true, i0, n0, decide_eq_true (show (z.cps.toList.length : Int) > 1 by have := c3.2; omega)]
        rfl
      · have ok : (!decide (z.cps.toList.head? = some 48) || decide (z.cps.toList.length = 1)) = true := by
          by_cases h1 : z.cps.toList.head? = some 48
          · have : z.cps.toList.length = 1 := by
              by_cases h2 : z.cps.toList.length = 1
              · exact h2
              · exact absurd ⟨h1, h2⟩ c3
            rw [decide_eq_true this, Bool.or_true]
          · rw [decide_eq_false h1]
            rfl
        rw [ok, Bool.and_true]
        exact end1 fun q => by
          by_cases h2 : z.cps.toList.length = 1
          · exact h2
          · exact absurd ⟨of_decide_eq_true q, h2⟩ c3
    · rw [decide_eq_false c2, Bool.and_false, Bool.false_and, if_neg Bool.false_ne_true]
      unfold F__law_number
      simp only [EV, reduceIte, Nat.reduceAdd, Nat.reduceLT, Nat.reduceLeDiff, Nat.reduceEqDiff, Int.reduceEq, Int.reduceLT, Int.reduceLE, ln, decide_eq_true (show (1 : Int) ≤ (z.cps.toList.length : Int) by omega), decide_eq_false (show ¬ (z.cps.toList.length : Int) ≤ 10 by omega), Bool.not_false]
      rfl
  · rw [decide_eq_false c1, Bool.false_and, Bool.false_and, if_neg Bool.false_ne_true]
    unfold F__law_number
    simp only [EV, reduceIte, Nat.reduceAdd, Nat.reduceLT, Nat.reduceLeDiff, Nat.reduceEqDiff, Int.reduceEq, Int.reduceLT, Int.reduceLE, ln, decide_eq_false (show ¬ (1 : Int) ≤ (z.cps.toList.length : Int) by omega), Bool.not_false]
    rfl
theorem split_join (z : Str) (c : Nat) : Str.join ⟨#[c]⟩ (Txt.split z ⟨#[c]⟩) = z := by
  have := PyProof.Rows.split_closes z c
  rw [Bool.and_eq_true] at this
  exact eq_of_beq this.1
theorem app_cps (a b : Str) : (a ++ b).cps.toList = a.cps.toList ++ b.cps.toList := by
  show (a.cps ++ b.cps).toList = _
  rw [Array.toList_append]
theorem mem_join (s : Str) : ∀ (l : List Str) (p : Str), p ∈ l → ∀ d ∈ p.cps.toList, d ∈ (Str.join s l).cps.toList
  | [], p, h, _, _ => by cases h
  | [x], p, h, d, hd => by
    rw [Str.join.eq_2]
    rw [← List.mem_singleton.mp h]
    exact hd
  | x :: y :: l, p, h, d, hd => by
    rw [Str.join.eq_3, app_cps, app_cps]
    rcases List.mem_cons.mp h with rfl | h
    · exact List.mem_append_left _ (List.mem_append_left _ hd)
    · exact List.mem_append_right _ (mem_join s (y :: l) p h d hd)
    · intro q; cases q
theorem asc_of {z : Str} (h1 : ∀ c ∈ z.cps.toList, c < 128) (h2 : z.length ≤ 1000) : asc z := by
  refine ⟨?_, h2⟩
  rw [Array.all_eq_true]
  intro i hi
  exact decide_eq_true (h1 _ (by simp))
theorem asc_part {z p : Str} {c : Nat} (h : asc z) (hp : p ∈ Txt.split z ⟨#[c]⟩) : asc p := by
  refine asc_of (fun d hd => ?_) ?_
  · have := mem_join ⟨#[c]⟩ _ p hp d hd
    rw [split_join] at this
    exact asc_mem h this
  · have := PyProof.Rows.part_short hp
    have := h.2
    omega
theorem split_val {z : Str} {c : Nat} (h : asc z) : gSplit (.str z) (.str ⟨#[c]⟩) = some (.list ((Txt.split z ⟨#[c]⟩).map PyData.str)) := by
  have h2 := h.2
  have := PyProof.Rows.split_le z ⟨#[c]⟩
  show (if _ then _ else _) = _
  rw [if_pos ⟨rfl, by omega, by omega⟩]
def allN : List Str → Option (List Nat)
  | [] => some []
  | p :: r => match nv p with
    | none => none
    | some n => match allN r with
      | none => none
      | some ns => some (n :: ns)
def cX : Option (List Nat) → List D ⊕ (Str × D)
  | none => .inr ("NoText", wrd)
  | some ns => .inl (ns.map fun n : Nat => .int (n : Int))
theorem compX_num : ∀ ps : List Str, (∀ p ∈ ps, asc p) → compX (gNl 0) X_read_number (dCons (dVar 0) dNil) [none] (ps.map PyData.str) = some (cX (allN ps))
  | [], _ => rfl
  | p :: r, h => by
    have rn := read_number (h p List.mem_cons_self)
    have ih := compX_num r fun q hq => h q (List.mem_cons_of_mem _ hq)
    rw [List.map_cons, compX, show (gNl 0) (.str p) [none] = some [some (.d (.str p))] from rfl, Option.bind_some, show (dCons (dVar 0) dNil) [some (.d (.str p))] = some [.str p] from rfl, Option.bind_some, rn]
    unfold allN
    cases nv p with
    | none => rfl
    | some n =>
      show (compX _ _ _ _ _).bind _ = _
      rw [ih]
      cases allN r <;> rfl
def rdL : Option (List Nat) → Or
  | none => .ex "NoText" wrd
  | some ns => .o (.rt (.list (ns.map fun n : Nat => .int (n : Int))))
theorem read_numbers {z : Str} {c : Nat} (h : asc z) : X_read_numbers [.str z, .str ⟨#[c]⟩] = some (rdL (allN (Txt.split z ⟨#[c]⟩))) := by
  have ty : D3.isT "str" (tyD (.str z)) = true := (by decide : D3.isT "str" "str" = true)
  have sv := split_val (c := c) h
  have C := compX_num (Txt.split z ⟨#[c]⟩) fun p hp => asc_part h hp
  have h2 := h.2
  have ll := PyProof.Rows.split_le z ⟨#[c]⟩
  have main : xRetC (fLst (dOp gSplit (dVar 0) (dVar 1))) (gNl 0) X_read_number (dCons (dVar 0) dNil) 1 [some (.d (.str z)), some (.d (.str ⟨#[c]⟩))] = some (rdL (allN (Txt.split z ⟨#[c]⟩))) := by
    unfold xRetC
    have fl : fLst (dOp gSplit (dVar 0) (dVar 1)) [some (.d (.str z)), some (.d (.str ⟨#[c]⟩))] = some ((Txt.split z ⟨#[c]⟩).map PyData.str) := by
      simp only [EV, reduceIte, Nat.reduceAdd, Nat.reduceLT, Nat.reduceLeDiff, Nat.reduceEqDiff, Int.reduceEq, Int.reduceLT, Int.reduceLE, sv]
    rw [fl, Option.bind_some, if_pos (by rw [List.length_map]; omega), show capD 1 [] [some (U.d (.str z)), some (.d (.str ⟨#[c]⟩))] = [none] from rfl, C, Option.bind_some]
    cases allN (Txt.split z ⟨#[c]⟩) <;> rfl
  unfold X_read_numbers
  have t : D3.tNot (tBool (dUn (gIs "str") (dVar 0))) [some (.d (.str z)), some (.d (.str ⟨#[c]⟩))] = some false := by
    simp only [EV, reduceIte, Nat.reduceAdd, Nat.reduceLT, Nat.reduceLeDiff, Nat.reduceEqDiff, Int.reduceEq, Int.reduceLT, Int.reduceLE, ty, Bool.not_true]
  cases q : allN (Txt.split z ⟨#[c]⟩) with
  | none =>
    rw [q] at main
    exact fx_ex rfl ((xs_nx ((xi_f t).trans (xo_rt rfl))).trans main)
  | some ns =>
    rw [q] at main
    exact fx_rt rfl ((xs_nx ((xi_f t).trans (xo_rt rfl))).trans main)
def twD : List Str → D
  | [p, q] => match nv p, nv q with
    | some a, some b => .tuple [.int (a : Int), .int (b : Int)]
    | _, _ => .none
  | _ => .none
theorem twD_no {l : List Str} (h : ¬ l.length = 2) : twD l = .none := by
  unfold twD
  split
  · exact absurd rfl h
  · rfl
theorem opD_ly (o : Option Nat) : ly 2 (opD o) := by
  cases o with
  | none => exact ⟨rfl, by decide⟩
  | some n => exact ly_int
theorem law_two {z : Str} {c : Nat} (h : asc z) : F__law_two [.str z, .str ⟨#[c]⟩] = some (twD (Txt.split z ⟨#[c]⟩)) := by
  have sv := split_val (c := c) h
  have h2 := h.2
  have ll := PyProof.Rows.split_le z ⟨#[c]⟩
  have as : ∀ p ∈ Txt.split z ⟨#[c]⟩, asc p := fun p hp => asc_part h hp
  generalize Txt.split z ⟨#[c]⟩ = ps at *
  have C := cMap (g := (gNl 0)) (c := (D3.tYes)) (e := (dCall F__law_number (dCons (dVar 0) (dNil)))) (δ := [none]) PyData.str (fun p => opD (nv p)) ps (fun p hp => by
    refine ⟨[some (.d (.str p))], rfl, rfl, ?_⟩
    have := law_number (as p hp)
    simp only [EV, reduceIte, Nat.reduceAdd, Nat.reduceLT, Nat.reduceLeDiff, Nat.reduceEqDiff, Int.reduceEq, Int.reduceLT, Int.reduceLE, this])
  have ca : ∀ a b c : Option U, capD 1 [] [a, b, c] = [none] := fun _ _ _ => rfl
  have l1 : (ps.map PyData.str).length ≤ 100000 := by rw [List.length_map]; omega
  by_cases c2 : ps.length = 2
  · obtain ⟨p, q, rfl⟩ : ∃ p q, ps = [p, q] := by
      match ps, c2 with
      | [p, q], _ => exact ⟨p, q, rfl⟩
    have gi : gIn .none (.list [opD (nv p), opD (nv q)]) = some (.bool ((nv p).isNone || (nv q).isNone)) := by
      have s2 : SeqAt.shaped (.list [opD (nv p), opD (nv q)]) = true := ly_shaped (ly_le (ly_list (lys_cons (opD_ly _) (lys_cons (opD_ly _) lys_nil))) (by decide))
      show (if (SeqAt.shaped .none && SeqAt.shaped (.list [opD (nv p), opD (nv q)])) = true then some (PyData.bool ([opD (nv p), opD (nv q)].any fun z => PyData.eqv z .none)) else none) = _
      rw [s2, show SeqAt.shaped .none = true by decide]
      cases nv p <;> cases nv q <;> rfl
    have C : compD (gNl 0) (D3.tYes) (dCall F__law_number (dCons (dVar 0) (dNil))) [none] [.str p, .str q] = some [opD (nv p), opD (nv q)] := C
    have nn : gNe (.int 2) (.int 2) = some (.bool false) := rfl
    cases e1 : nv p with
    | none =>
      have t : twD [p, q] = .none := by simp only [twD, e1]
      rw [e1] at gi C
      rw [t]
      unfold F__law_two
      simp only [EV, reduceIte, Nat.reduceAdd, Nat.reduceLT, Nat.reduceLeDiff, Nat.reduceEqDiff, Int.reduceEq, Int.reduceLT, Int.reduceLE, sv, l1, ca, C, nn, gi, List.length_cons, List.length_nil, List.map_cons, List.map_nil, Option.isNone_none, Bool.true_or]
    | some a =>
      cases e2 : nv q with
      | none =>
        have t : twD [p, q] = .none := by simp only [twD, e1, e2]
        rw [e1, e2] at gi C
        rw [t]
        unfold F__law_two
        simp only [EV, reduceIte, Nat.reduceAdd, Nat.reduceLT, Nat.reduceLeDiff, Nat.reduceEqDiff, Int.reduceEq, Int.reduceLT, Int.reduceLE, sv, l1, ca, C, nn, gi, List.length_cons, List.length_nil, List.map_cons, List.map_nil, Option.isNone_none, Option.isNone_some, Bool.false_or]
      | some b =>
        have t : twD [p, q] = .tuple [.int (a : Int), .int (b : Int)] := by simp only [twD, e1, e2]
        rw [e1, e2] at gi C
        rw [t]
        unfold F__law_two
        have f1 : flat (opD (some a)) = true := rfl
        have f2 : flat (opD (some b)) = true := rfl
        simp only [EV, reduceIte, Nat.reduceAdd, Nat.reduceLT, Nat.reduceLeDiff, Nat.reduceEqDiff, Int.reduceEq, Int.reduceLT, Int.reduceLE, sv, l1, ca, C, nn, gi, List.length_cons, List.length_nil, List.map_cons, List.map_nil, Option.isNone_some, Bool.false_or, at0, at1, f1, f2, Com.sz (show 2 ≤ 1000000 by decide)]
        rfl
  · have nn : gNe (.int (ps.length : Int)) (.int 2) = some (.bool true) := by
      show some (PyData.bool (!decide ((ps.length : Int) = 2))) = _
      rw [decide_eq_false (by omega)]
      rfl
    rw [twD_no c2]
    unfold F__law_two
    simp only [EV, reduceIte, Nat.reduceAdd, Nat.reduceLT, Nat.reduceLeDiff, Nat.reduceEqDiff, Int.reduceEq, Int.reduceLT, Int.reduceLE, sv, show ps.length ≤ 100000 by omega, ca, C, List.length_map, nn]
def txt (n : Nat) : Str := Str.ofString (toString (n : Int))
theorem nv_dig {z : Str} {n : Nat} (h : nv z = some n) : nvOk z.cps.toList = true ∧ n = NumText.digitsVal z.cps.toList := by
  unfold nv at h
  split at h
  · next q => cases h; exact ⟨q, rfl⟩
  · cases h
theorem cps_txt (n : Nat) : (txt n).cps.toList = (Nat.toDigits 10 n).map Char.toNat := W.KIN.signs_num n
theorem back_char {l : List Nat} (h : ∀ c ∈ l, c < 128) : (l.map Char.ofNat).map Char.toNat = l := by
  rw [List.map_map]
  conv => rhs; rw [← List.map_id l]
  apply List.map_congr_left
  intro c hc
  have hc := h c hc
  show (Char.ofNat c).toNat = c
  have v : c.isValidChar := .inl (by omega)
  unfold Char.ofNat
  rw [dif_pos v]
  show ((Char.ofNatAux c v).val).toNat = c
  unfold Char.ofNatAux
  show (UInt32.ofNatLT c _).toNat = c
  rfl
theorem txt_back {z : Str} {n : Nat} (h : asc z) (e : nv z = some n) : txt n = z := by
  obtain ⟨h1, rfl⟩ := nv_dig e
  obtain ⟨d1, d2, d3⟩ := nvOk_dig h1
  refine str_ext ?_
  rw [cps_txt, NumText.toDigits_digitsVal (z.cps.toList.length - 1) z.cps.toList (by omega) (all_dig d1) ?_, back_char fun c hc => asc_mem h hc]
  unfold nvOk at h1
  simp only [Bool.and_eq_true, Bool.or_eq_true, Bool.not_eq_true', decide_eq_true_eq, decide_eq_false_iff_not] at h1
  rcases h1.2.2 with q | q
  · right
    cases e : z.cps.toList with
    | nil => rw [e] at d2; simp at d2
    | cons c r =>
      refine ⟨c, r, rfl, ?_⟩
      rw [e] at q d1
      have := of_decide_eq_true (List.all_eq_true.mp d1 c List.mem_cons_self)
      have : c ≠ 48 := fun z => q (by rw [z]; rfl)
      omega
  · exact .inl (by omega)
theorem nv_lt {z : Str} {n : Nat} (h : asc z) (e : nv z = some n) : n < 10 ^ 10 := by
  obtain ⟨h1, rfl⟩ := nv_dig e
  obtain ⟨d1, d2, d3⟩ := nvOk_dig h1
  have : ∀ (l : List Nat) (a k : Nat), l.all dgt = true → a < 10 ^ k → l.foldl (fun acc c => acc * 10 + (c - 48)) a < 10 ^ (k + l.length) := fun l => by
    induction l with
    | nil => intro a k _ h; exact h
    | cons c r ih =>
      intro a k hd ha
      rw [List.all_cons, Bool.and_eq_true] at hd
      have hc := of_decide_eq_true hd.1
      have := ih (a * 10 + (c - 48)) (k + 1) hd.2 (by rw [Nat.pow_succ]; omega)
      rw [List.foldl_cons, List.length_cons]
      have e : k + (r.length + 1) = k + 1 + r.length := by omega
      rw [e]
      exact this
  have := this z.cps.toList 0 0 d1 (by decide)
  rw [Nat.zero_add] at this
  exact Nat.lt_of_lt_of_le this (Nat.pow_le_pow_right (by decide) d3)
theorem add_emp (s : Str) : s ++ (Txt.join ("" : Str) []) = s := by
  refine str_ext ?_
  rw [app_cps, show (Txt.join ("" : Str) []).cps.toList = [] from rfl, List.append_nil]
theorem shown_small {n : Nat} (h : n < 10 ^ 18) : F_shown_number [.int (n : Int)] = some (.str (txt n)) := by
  have w0 : decide ((n : Int) ≥ 1000000000000000000) = false := decide_eq_false (by omega)
  have st : gStr [.int (n : Int)] = some (.str (txt n)) := by
    show (if ((n : Int)).natAbs.log2 < 1920 then _ else none) = _
    rw [if_pos]
    · rfl
    · rw [Int.natAbs_natCast]
      have : n < 2 ^ 1920 := Nat.lt_of_lt_of_le h (by decide +kernel)
      by_cases z : n = 0
      · rw [z]; decide
      · exact (Nat.log2_lt z).mpr this
  have wh : ∀ δ : DS, sWhile (tBool (dOp gGe (dVar 2) (dC (.int 1000000000000000000)))) (sSeq (sIns 1 (dC (.int 0)) (dOp gZfill (dCall gStr (dCons (dOp gMod (dVar 2) (dC (.int 1000000000000000000))) (dNil))) (dC (.int 18)))) (sSetl 2 (dOp gDiv (dVar 2) (dC (.int 1000000000000000000))))) [some (.d (.int (n : Int))), some (.d (.list [])), some (.d (.int (n : Int)))] = some (.nx [some (.d (.int (n : Int))), some (.d (.list [])), some (.d (.int (n : Int)))]) := fun _ => by
    refine sWhile_of (n := 1) ?_
    have : (tBool (dOp gGe (dVar 2) (dC (.int 1000000000000000000)))) [some (.d (.int (n : Int))), some (.d (.list [])), some (.d (.int (n : Int)))] = some false := by
      simp only [EV, reduceIte, Nat.reduceAdd, Nat.reduceLT, Nat.reduceLeDiff, Nat.reduceEqDiff, Int.reduceEq, Int.reduceLT, Int.reduceLE, w0]
    rw [whileD, this]
    rfl
  have jn : gJoin (.str "") (.list []) = some (.str (Txt.join "" [])) := by
    show ((strsD []).bind fun ts => if JoinOk ("" : Str) ts = true then some (PyData.str (Txt.join ("" : Str) ts)) else none) = _
    rw [show strsD [] = some [] from rfl, Option.bind_some, if_pos (by decide +kernel)]
  have ad : gAddS (.str (txt n)) (.str (Txt.join "" [])) = some (.str (txt n)) := by
    have l0 : (Txt.join ("" : Str) []).length = 0 := rfl
    have ln : (txt n).length ≤ 18 := by
      rw [← len_z, cps_txt, List.length_map]
      exact (Nat.length_toDigits_le_iff (by decide) (by decide)).mpr h
    show (if _ then _ else none) = _
    rw [if_pos (by omega), add_emp]
  unfold F_shown_number
  simp only [EV, reduceIte, Nat.reduceAdd, Nat.reduceLT, Nat.reduceLeDiff, Nat.reduceEqDiff, Int.reduceEq, Int.reduceLT, Int.reduceLE, wh [], st, jn, ad, Com.sz (show 0 ≤ 1000000 by decide)]
theorem lgcd_loop : ∀ (m : Nat) (a b : Int) (x : Option U), 0 ≤ a → 0 ≤ b → b.toNat ≤ m → ∃ x' n, whileD (tBool (dOp gGt (dVar 1) (dC (.int 0)))) (sSeq (sSetl 2 (dOp gMod (dVar 0) (dVar 1))) (sSeq (sSetl 0 (dVar 1)) (sSetl 1 (dVar 2)))) n [some (.d (.int a)), some (.d (.int b)), x] = some (.nx [some (.d (.int (gcdI a b))), some (.d (.int 0)), x']) := by
  intro m
  induction m with
  | zero =>
    intro a b x ha hb hm
    obtain rfl : b = 0 := by omega
    refine ⟨x, 1, ?_⟩
    rw [whileD]
    simp only [EV, reduceIte, Nat.reduceAdd, Nat.reduceLT, Nat.reduceLeDiff, Nat.reduceEqDiff, Int.reduceEq, Int.reduceLT, Int.reduceLE, show decide ((0 : Int) > 0) = false from rfl]
    rw [gcdI_zero ha]
    rfl
  | succ m ih =>
    intro a b x ha hb hm
    by_cases h : b = 0
    · subst h
      refine ⟨x, 1, ?_⟩
      rw [whileD]
      simp only [EV, reduceIte, Nat.reduceAdd, Nat.reduceLT, Nat.reduceLeDiff, Nat.reduceEqDiff, Int.reduceEq, Int.reduceLT, Int.reduceLE, show decide ((0 : Int) > 0) = false from rfl]
      rw [gcdI_zero ha]
      rfl
    · have hb' : 0 < b := by omega
      have h1 : 0 ≤ a % b := Int.emod_nonneg _ (by omega)
      have h2 : a % b < b := Int.emod_lt_of_pos _ hb'
      obtain ⟨x', n, e⟩ := ih b (a % b) (some (.d (.int (a % b)))) hb h1 (by omega)
      refine ⟨x', n + 1, ?_⟩
      rw [whileD]
      simp only [EV, reduceIte, Nat.reduceAdd, Nat.reduceLT, Nat.reduceLeDiff, Nat.reduceEqDiff, Int.reduceEq, Int.reduceLT, Int.reduceLE, decide_eq_true (show b > 0 from hb'), Option.bind_some, modP hb']
      rw [← gcdI_step ha hb', ← e]
theorem lgcd {a b : Int} (ha : 0 ≤ a) (hb : 0 ≤ b) : F__law_divisor [.int a, .int b] = some (.int (gcdI a b)) := by
  obtain ⟨x', n, e⟩ := lgcd_loop b.toNat a b none ha hb (Nat.le_refl _)
  have e := sWhile_of e
  unfold F__law_divisor
  simp only [EV, reduceIte, Nat.reduceAdd, Nat.reduceLT, Nat.reduceLeDiff, Nat.reduceEqDiff, Int.reduceEq, Int.reduceLT, Int.reduceLE, e]
theorem whi (i : Int) : F_is_whole [.int i] = some (.bool true) := by
  unfold F_is_whole Com.F_is_whole
  rfl
theorem pair2 (a b : Int) : F_is_pair [.tuple [.int a, .int b]] = some (.bool true) := by
  have C := cMap (g := (gNl 0)) (c := (D3.tYes)) (e := (dCall F_is_whole (dCons (dVar 0) (dNil)))) (δ := [none]) PyData.int (fun _ => .bool true) [a, b] (fun x _ => ⟨[some (.d (.int x))], rfl, rfl, by simp only [EV, reduceIte, Nat.reduceAdd, Nat.reduceLT, Nat.reduceLeDiff, Nat.reduceEqDiff, Int.reduceEq, Int.reduceLT, Int.reduceLE, whi]⟩)
  have C : compD (gNl 0) (D3.tYes) (dCall F_is_whole (dCons (dVar 0) (dNil))) [none] [.int a, .int b] = some [.bool true, .bool true] := C
  have ca : ∀ a : Option U, capD 1 [] [a] = [none] := fun _ => rfl
  have fs : fSeq (dVar 0) [some (.d (.tuple [.int a, .int b]))] = some [.int a, .int b] := rfl
  have ga : gAll [.list [.bool true, .bool true]] = some (.bool true) := rfl
  have aw : F_all_whole [.tuple [.int a, .int b]] = some (.bool true) := by
    unfold F_all_whole
    simp only [EV, reduceIte, Nat.reduceAdd, Nat.reduceLT, Nat.reduceLeDiff, Nat.reduceEqDiff, Int.reduceEq, Int.reduceLT, Int.reduceLE, fs, ca, C, ga, List.length_cons, List.length_nil]
  have ty : D3.isT "tuple" (tyD (.tuple [.int a, .int b])) = true := (by decide : D3.isT "tuple" "tuple" = true)
  have tu : F_is_tuple_of [.tuple [.int a, .int b], .int 2] = some (.bool true) := by
    unfold F_is_tuple_of
    simp only [EV, reduceIte, Nat.reduceAdd, Nat.reduceLT, Nat.reduceLeDiff, Nat.reduceEqDiff, Int.reduceEq, Int.reduceLT, Int.reduceLE, ty, aw, List.length_cons, List.length_nil]
  unfold F_is_pair
  simp only [EV, reduceIte, Nat.reduceAdd, Nat.reduceLT, Nat.reduceLeDiff, Nat.reduceEqDiff, Int.reduceEq, Int.reduceLT, Int.reduceLE, tu]
theorem ratio_is {a b : Nat} (hb : 2 ≤ b) : F_is_ratio [.tuple [.int (a : Int), .int (b : Int)]] = some (.bool (decide (gcdI (a : Int) (b : Int) = 1))) := by
  have g := gcd_spec (a := (a : Int)) (b := (b : Int)) (by omega) (by omega)
  have g : F_greatest_divisor [.int (a : Int), .int (b : Int)] = _ := g
  have ab : gAbs [.int (a : Int)] = some (.int (a : Int)) := by
    show some (PyData.int (if (a : Int) < 0 then _ else _)) = _
    rw [if_neg (by omega)]
  unfold F_is_ratio
  simp only [EV, reduceIte, Nat.reduceAdd, Nat.reduceLT, Nat.reduceLeDiff, Nat.reduceEqDiff, Int.reduceEq, Int.reduceLT, Int.reduceLE, pair2, at0, at1, decide_eq_true (show (b : Int) ≥ 1 by omega), ab, g]
theorem one_part {z : Str} {c : Nat} (h : (Txt.split z ⟨#[c]⟩).length = 1) : Txt.split z ⟨#[c]⟩ = [z] := by
  obtain ⟨x, e⟩ := List.length_eq_one_iff.mp h
  have j := split_join z c
  rw [e, Str.join.eq_2] at j
  rw [e, j]
theorem notin_z {z : Str} {c : Nat} : gNotinS (.str ⟨#[c]⟩) (.str z) = some (.bool (!decide (c ∈ z.cps.toList))) := by
  show some (PyData.bool _) = _
  rw [StrLaws.found_one]
theorem more_parts {z : Str} {c : Nat} (h : c ∈ z.cps.toList) : ¬ (Txt.split z ⟨#[c]⟩).length = 1 := fun q => by
  have e := one_part q
  exact StrLaws.split_free z c z (by rw [e]; exact List.mem_singleton_self _) h
theorem split_one {z : Str} {c : Nat} (h : ¬ c ∈ z.cps.toList) : Txt.split z ⟨#[c]⟩ = [z] := by
  have f := StrLaws.found_one z c
  rw [decide_eq_false h] at f
  have e1 : Builtin.Str.occurrences z ⟨#[c]⟩ 0 z.length 1 = [] := by
    cases e : Builtin.Str.occurrences z ⟨#[c]⟩ 0 z.length 1 with
    | nil => rfl
    | cons _ _ => rw [e] at f; cases f
  have no : ∀ i, ¬ StrLaws.At z ⟨#[c]⟩ z.length i := by
    rcases StrLaws.occ_head z ⟨#[c]⟩ 1 (by decide) with ⟨_, q⟩ | ⟨i, r, q, _⟩
    · exact q
    · rw [e1] at q; cases q
  have e2 : Builtin.Str.occurrences z ⟨#[c]⟩ 0 z.length (z.length + 1) = [] := by
    rcases StrLaws.occ_head z ⟨#[c]⟩ (z.length + 1) (by omega) with ⟨q, _⟩ | ⟨i, r, q, a, _⟩
    · exact q
    · exact absurd a (no i)
  unfold Txt.split
  rw [e2]
  split <;> rfl
theorem sl_eq : ("/" : Str) = ⟨#[47]⟩ := by decide +kernel
theorem da_eq : ("-" : Str) = ⟨#[45]⟩ := by decide +kernel
def pr : List Str → Option (Nat × Nat)
  | [p, q] => match nv p, nv q with
    | some a, some b => some (a, b)
    | _, _ => none
  | _ => none
def prD : Option (Nat × Nat) → D
  | none => .none
  | some (a, b) => .tuple [.int (a : Int), .int (b : Int)]
theorem tw_pr : ∀ l : List Str, twD l = prD (pr l)
  | [] => rfl
  | [_] => rfl
  | [p, q] => by simp only [twD, pr]; cases nv p <;> cases nv q <;> rfl
  | _ :: _ :: _ :: _ => rfl
def low (a b : Nat) : Bool := decide (2 ≤ b) && decide (gcdI (a : Int) (b : Int) = 1)
def raO (z : Str) : Option (Nat × Nat) := if 47 ∈ z.cps.toList then (match pr (Txt.split z ⟨#[47]⟩) with
    | some (a, b) => if low a b = true then some (a, b) else none
    | none => none)
  else (nv z).map fun n => (n, 1)
theorem due0 {z : Str} (h : asc z) : F__law_due [.int 0, .str z] = some (opD (nv z)) := by
  have n := law_number h
  unfold F__law_due
  simp only [EV, reduceIte, Nat.reduceAdd, Nat.reduceLT, Nat.reduceLeDiff, Nat.reduceEqDiff, Int.reduceEq, Int.reduceLT, Int.reduceLE, n]
theorem due2 {z : Str} (h : asc z) : F__law_due [.int 2, .str z] = some (prD (pr (Txt.split z ⟨#[45]⟩))) := by
  have n := law_two (c := 45) h
  rw [tw_pr] at n
  unfold F__law_due
  rw [da_eq]
  simp only [EV, reduceIte, Nat.reduceAdd, Nat.reduceLT, Nat.reduceLeDiff, Nat.reduceEqDiff, Int.reduceEq, Int.reduceLT, Int.reduceLE, n]
theorem due1 {z : Str} (h : asc z) : F__law_due [.int 1, .str z] = some (prD (raO z)) := by
  have n := law_number h
  have t := law_two (c := 47) h
  rw [tw_pr] at t
  have i := notin_z (z := z) (c := 47)
  unfold F__law_due
  rw [sl_eq, da_eq]
  unfold raO
  by_cases c : 47 ∈ z.cps.toList
  · rw [if_pos c]
    rw [decide_eq_true c] at i
    cases e : pr (Txt.split z ⟨#[47]⟩) with
    | none =>
      rw [e] at t
      have t : F__law_two [.str z, .str ⟨#[47]⟩] = some .none := t
      simp only [EV, reduceIte, Nat.reduceAdd, Nat.reduceLT, Nat.reduceLeDiff, Nat.reduceEqDiff, Int.reduceEq, Int.reduceLT, Int.reduceLE, i, Bool.not_true, t]
      rfl
    | some ab =>
      obtain ⟨a, b⟩ := ab
      rw [e] at t
      have t : F__law_two [.str z, .str ⟨#[47]⟩] = some (.tuple [.int (a : Int), .int (b : Int)]) := t
      have g := lgcd (a := (a : Int)) (b := (b : Int)) (by omega) (by omega)
      have nn : isNone (.tuple [.int (a : Int), .int (b : Int)]) = false := rfl
      have ft : flat (.tuple [.int (a : Int), .int (b : Int)]) = true := rfl
      show _ = some (prD (if low a b = true then some (a, b) else none))
      unfold low
      by_cases c1 : 2 ≤ b
      · rw [decide_eq_true c1, Bool.true_and]
        by_cases c2 : gcdI (a : Int) (b : Int) = 1
        · have gn : gNe (.int (gcdI (a : Int) (b : Int))) (.int 1) = some (.bool false) := by rw [c2]; rfl
          rw [decide_eq_true c2, if_pos rfl]
          simp only [EV, reduceIte, Nat.reduceAdd, Nat.reduceLT, Nat.reduceLeDiff, Nat.reduceEqDiff, Int.reduceEq, Int.reduceLT, Int.reduceLE, i, Bool.not_true, t, nn, at0, at1, decide_eq_false (show ¬ (b : Int) < 2 by omega), g, gn, ft]
          rfl
        · have gn : gNe (.int (gcdI (a : Int) (b : Int))) (.int 1) = some (.bool true) := by
            show some (PyData.bool (!decide (gcdI (a : Int) (b : Int) = 1))) = _
            rw [decide_eq_false c2]
            rfl
          rw [decide_eq_false c2, if_neg Bool.false_ne_true]
          simp only [EV, reduceIte, Nat.reduceAdd, Nat.reduceLT, Nat.reduceLeDiff, Nat.reduceEqDiff, Int.reduceEq, Int.reduceLT, Int.reduceLE, i, Bool.not_true, t, nn, at0, at1, decide_eq_false (show ¬ (b : Int) < 2 by omega), g, gn]
          rfl
      · rw [decide_eq_false c1, Bool.false_and, if_neg Bool.false_ne_true]
        simp only [EV, reduceIte, Nat.reduceAdd, Nat.reduceLT, Nat.reduceLeDiff, Nat.reduceEqDiff, Int.reduceEq, Int.reduceLT, Int.reduceLE, i, Bool.not_true, t, nn, at0, at1, decide_eq_true (show (b : Int) < 2 by omega)]
        rfl
  · rw [if_neg c]
    rw [decide_eq_false c] at i
    cases e : nv z with
    | none =>
      rw [e] at n
      have n : F__law_number [.str z] = some .none := n
      simp only [EV, reduceIte, Nat.reduceAdd, Nat.reduceLT, Nat.reduceLeDiff, Nat.reduceEqDiff, Int.reduceEq, Int.reduceLT, Int.reduceLE, i, Bool.not_false, n, Com.sz (show 2 ≤ 1000000 by decide)]
      rfl
    | some m =>
      rw [e] at n
      have n : F__law_number [.str z] = some (.int (m : Int)) := n
      simp only [EV, reduceIte, Nat.reduceAdd, Nat.reduceLT, Nat.reduceLeDiff, Nat.reduceEqDiff, Int.reduceEq, Int.reduceLT, Int.reduceLE, i, Bool.not_false, n, Com.sz (show 2 ≤ 1000000 by decide)]
      rfl
def okX (o : Or) (r : Option (Nat × Nat)) : Prop := match r with
  | some (a, b) => o = .o (.rt (.tuple [.int (a : Int), .int (b : Int)]))
  | none => ∃ d, o = .ex "NoText" d ∧ flat d = true
theorem allN_two {p q : Str} : allN [p, q] = (pr [p, q]).map fun x => [x.1, x.2] := by
  simp only [allN, pr]
  cases nv p <;> cases nv q <;> rfl
theorem allN_len : ∀ {l : List Str} {ns : List Nat}, allN l = some ns → ns.length = l.length
  | [], _, h => by cases h; rfl
  | p :: r, ns, h => by
    unfold allN at h
    cases e : nv p with
    | none => rw [e] at h; cases h
    | some n =>
      rw [e] at h
      cases e2 : allN r with
      | none => rw [e2] at h; cases h
      | some ms =>
        rw [e2] at h
        cases h
        rw [List.length_cons, List.length_cons, allN_len e2]
theorem nights_read {z : Str} (h : asc z) : ∃ o, X_read_nights [.str z] = some o ∧ okX o (pr (Txt.split z ⟨#[45]⟩)) := by
  have rn := read_numbers (c := 45) h
  unfold X_read_nights
  rw [da_eq]
  cases e : allN (Txt.split z ⟨#[45]⟩) with
  | none =>
    rw [e] at rn
    have : pr (Txt.split z ⟨#[45]⟩) = none := by
      match hs : Txt.split z ⟨#[45]⟩ with
      | [p, q] =>
        rw [hs, allN_two] at e
        cases c : pr [p, q] with
        | none => rfl
        | some x => rw [c] at e; cases e
      | [] => rfl
      | [_] => rfl
      | _ :: _ :: _ :: _ => rfl
    rw [this]
    exact ⟨_, fx_ex rfl (xs_ex (xt_ex rfl rn)), _, rfl, rfl⟩
  | some ns =>
    rw [e] at rn
    have f1 : fl1 (.list (ns.map fun n : Nat => .int (n : Int))) = true := flats_all (fun n : Nat => PyData.int (n : Int)) (fun _ => rfl) ns
    have ll := allN_len e
    by_cases c : ns.length = 2
    · obtain ⟨p, q, hs⟩ : ∃ p q, Txt.split z ⟨#[45]⟩ = [p, q] := by
        match hs : Txt.split z ⟨#[45]⟩, (show (Txt.split z ⟨#[45]⟩).length = 2 by omega) with
        | [p, q], _ => exact ⟨p, q, rfl⟩
        | [], k => cases k
        | [_], k => cases k
        | _ :: _ :: _ :: _, k => simp at k
      rw [hs, allN_two] at e
      cases c2 : pr [p, q] with
      | none => rw [c2] at e; cases e
      | some x =>
        obtain ⟨a, b⟩ := x
        rw [c2] at e
        cases e
        rw [hs, c2]
        refine ⟨_, fx_rt rfl ((xs_nx (xt_nx rfl rn f1 (show 1 < 2 by decide))).trans ((xs_nx ((xi_f ?_).trans (xo_rt rfl))).trans (xo_rt ?_))), rfl⟩
        · rfl
        · rfl
    · have : pr (Txt.split z ⟨#[45]⟩) = none := by
        match hs : Txt.split z ⟨#[45]⟩ with
        | [p, q] => rw [hs] at ll; exact absurd ll c
        | [] => rfl
        | [_] => rfl
        | _ :: _ :: _ :: _ => rfl
      rw [this]
      have nn : gNe (.int (ns.length : Int)) (.int 2) = some (.bool true) := by
        show some (PyData.bool (!decide ((ns.length : Int) = 2))) = _
        rw [decide_eq_false (by omega)]
        rfl
      refine ⟨_, fx_ex rfl ((xs_nx (xt_nx rfl rn f1 (show 1 < 2 by decide))).trans (xs_ex ((xi_t ?_).trans rfl))), _, rfl, rfl⟩
      simp only [EV, reduceIte, Nat.reduceAdd, Nat.reduceLT, Nat.reduceLeDiff, Nat.reduceEqDiff, Int.reduceEq, Int.reduceLT, Int.reduceLE, List.length_map, nn]
theorem pair_no {l : List D} (h : ¬ l.length = 2) : F_is_pair [.tuple l] = some (.bool false) := by
  have ty : D3.isT "tuple" (tyD (.tuple l)) = true := (by decide : D3.isT "tuple" "tuple" = true)
  have tu : F_is_tuple_of [.tuple l, .int 2] = some (.bool false) := by
    unfold F_is_tuple_of
    simp only [EV, reduceIte, Nat.reduceAdd, Nat.reduceLT, Nat.reduceLeDiff, Nat.reduceEqDiff, Int.reduceEq, Int.reduceLT, Int.reduceLE, ty, decide_eq_false (show ¬ (l.length : Int) = 2 by omega)]
  unfold F_is_pair
  simp only [EV, reduceIte, Nat.reduceAdd, Nat.reduceLT, Nat.reduceLeDiff, Nat.reduceEqDiff, Int.reduceEq, Int.reduceLT, Int.reduceLE, tu]
theorem ratio_no {l : List D} (h : ¬ l.length = 2) : F_is_ratio [.tuple l] = some (.bool false) := by
  unfold F_is_ratio
  simp only [EV, reduceIte, Nat.reduceAdd, Nat.reduceLT, Nat.reduceLeDiff, Nat.reduceEqDiff, Int.reduceEq, Int.reduceLT, Int.reduceLE, pair_no h]
theorem ratio_0 (a : Int) : F_is_ratio [.tuple [.int a, .int 0]] = some (.bool false) := by
  unfold F_is_ratio
  simp only [EV, reduceIte, Nat.reduceAdd, Nat.reduceLT, Nat.reduceLeDiff, Nat.reduceEqDiff, Int.reduceEq, Int.reduceLT, Int.reduceLE, pair2, at0, at1, show decide ((0 : Int) ≥ 1) = false from rfl]
theorem ratio_1 (a : Nat) : ∃ b, F_is_ratio [.tuple [.int (a : Int), .int 1]] = some (.bool b) := by
  have g := gcd_spec (a := (a : Int)) (b := 1) (by omega) (by omega)
  have g : F_greatest_divisor [.int (a : Int), .int 1] = _ := g
  have ab : gAbs [.int (a : Int)] = some (.int (a : Int)) := by
    show some (PyData.int (if (a : Int) < 0 then _ else _)) = _
    rw [if_neg (by omega)]
  refine ⟨decide (gcdI (a : Int) 1 = 1), ?_⟩
  unfold F_is_ratio
  simp only [EV, reduceIte, Nat.reduceAdd, Nat.reduceLT, Nat.reduceLeDiff, Nat.reduceEqDiff, Int.reduceEq, Int.reduceLT, Int.reduceLE, pair2, at0, at1, show decide ((1 : Int) ≥ 1) = true from rfl, ab, g]
theorem pr_none {l : List Str} (h : ∀ ns, allN l = some ns → ¬ ns.length = 2) : pr l = none := by
  match l with
  | [p, q] =>
    cases c : pr [p, q] with
    | none => rfl
    | some x =>
      refine absurd rfl (h [x.1, x.2] ?_)
      rw [allN_two, c]
      rfl
  | [] => rfl
  | [_] => rfl
  | _ :: _ :: _ :: _ => rfl
theorem ra_none {z : Str} (h : ∀ ns, allN (Txt.split z ⟨#[47]⟩) = some ns → ¬ ns.length = 2 ∧ ¬ ns.length = 1) : raO z = none := by
  unfold raO
  by_cases c : 47 ∈ z.cps.toList
  · rw [if_pos c, pr_none fun ns e => (h ns e).1]
  · rw [if_neg c]
    cases e : nv z with
    | none => rfl
    | some n =>
      refine absurd rfl (h [n] ?_).2
      rw [split_one c]
      simp only [allN, e]
theorem ratio_read {z : Str} (h : asc z) : ∃ o, X_read_ratio [.str z] = some o ∧ okX o (raO z) := by
  have rn := read_numbers (c := 47) h
  unfold X_read_ratio
  rw [sl_eq]
  cases e : allN (Txt.split z ⟨#[47]⟩) with
  | none =>
    rw [e] at rn
    rw [ra_none fun ns q => by rw [e] at q; cases q]
    exact ⟨_, fx_ex rfl (xs_ex (xt_ex rfl rn)), _, rfl, rfl⟩
  | some ns =>
    rw [e] at rn
    have f1 : fl1 (.list (ns.map fun n : Nat => .int (n : Int))) = true := flats_all (fun n : Nat => PyData.int (n : Int)) (fun _ => rfl) ns
    have ll := allN_len e
    by_cases c1 : ns.length = 1
    · have s1 := one_part (z := z) (c := 47) (by omega)
      have c : ¬ 47 ∈ z.cps.toList := fun q => more_parts q (by omega)
      rw [s1] at e
      cases en : nv z with
      | none => simp only [allN, en] at e; cases e
      | some n =>
        simp only [allN, en] at e
        cases e
        have : raO z = some (n, 1) := by
          unfold raO
          rw [if_neg c, en]
          rfl
        rw [this]
        refine ⟨_, fx_rt rfl ((xs_nx (xt_nx rfl rn f1 (show 1 < 3 by decide))).trans ?_), rfl⟩
        unfold xSeq
        rw [xo_rt (o := .rt (.tuple [.int (n : Int), .int 1])) ?_]
        · rfl
        · simp only [EV, reduceIte, Nat.reduceAdd, Nat.reduceLT, Nat.reduceLeDiff, Nat.reduceEqDiff, Int.reduceEq, Int.reduceLT, Int.reduceLE, List.map_cons, List.map_nil, List.length_cons, List.length_nil, at0, Com.sz (show 2 ≤ 1000000 by decide)]
    · have n1 : gEq (.int (ns.length : Int)) (.int 1) = some (.bool false) := by
        show some (PyData.bool (decide ((ns.length : Int) = 1))) = _
        rw [decide_eq_false (by omega)]
      have go : ∀ (T : FX) (o : Or), T [some (.d (.str z)), some (.d (.list (ns.map fun n : Nat => .int (n : Int)))), some (.d (.tuple (ns.map fun n : Nat => .int (n : Int))))] = some o →
          xSeq (xSet 1 X_read_numbers (dCons (dVar 0) (dCons (dC (.str ⟨#[47]⟩)) dNil))) (xSeq (xOf (sIf (tBool (dOp gEq (dCall gLen (dCons (dVar 1) (dNil))) (dC (.int 1)))) (sRet (dTup (dCons (dFlat (dOp gIx (dVar 1) (dC (.int 0)))) (dCons (dC (.int 1)) (dNil))))) (sNil))) (xSeq (xOf (sSetl 2 (dUn gTupL (dVar 1)))) T)) [some (.d (.str z)), none, none] = some o := fun T o ho => by
        refine (xs_nx (xt_nx rfl rn f1 (show 1 < 3 by decide))).trans ((xs_nx (δ' := [some (.d (.str z)), some (.d (.list (ns.map fun n : Nat => .int (n : Int)))), none]) (xo_rt ?_)).trans ((xs_nx (xo_rt ?_)).trans ho))
        · show sIf _ _ _ [some (.d (.str z)), some (.d (.list (ns.map fun n : Nat => .int (n : Int)))), none] = _
          simp only [EV, reduceIte, Nat.reduceAdd, Nat.reduceLT, Nat.reduceLeDiff, Nat.reduceEqDiff, Int.reduceEq, Int.reduceLT, Int.reduceLE, List.length_map, n1]
        · rfl
      by_cases c2 : ns.length = 2
      · have c : 47 ∈ z.cps.toList := by
          by_cases q : 47 ∈ z.cps.toList
          · exact q
          · have := split_one q
            rw [this] at ll
            simp at ll
            omega
        have ep : ∃ a b, ns = [a, b] ∧ pr (Txt.split z ⟨#[47]⟩) = some (a, b) := by
          match hs : Txt.split z ⟨#[47]⟩, (show (Txt.split z ⟨#[47]⟩).length = 2 by omega) with
          | [p, q], _ =>
            rw [hs, allN_two] at e
            cases cc : pr [p, q] with
            | none => rw [cc] at e; cases e
            | some x => rw [cc] at e; cases e; exact ⟨x.1, x.2, rfl, rfl⟩
          | [], k => cases k
          | [_], k => cases k
          | _ :: _ :: _ :: _, k => simp at k
        obtain ⟨a, b, rfl, hp⟩ := ep
        have hr : raO z = if low a b = true then some (a, b) else none := by
          unfold raO
          rw [if_pos c, hp]
        rw [hr]
        unfold low
        by_cases b2 : 2 ≤ b
        · have ri := ratio_is (a := a) b2
          rw [decide_eq_true b2, Bool.true_and]
          by_cases g : gcdI (a : Int) (b : Int) = 1
          · rw [decide_eq_true g] at ri ⊢
            rw [if_pos rfl]
            refine ⟨_, fx_rt rfl (go _ _ ((xs_nx ((xi_f ?_).trans (xo_rt rfl))).trans (xo_rt rfl))), rfl⟩
            simp only [EV, reduceIte, Nat.reduceAdd, Nat.reduceLT, Nat.reduceLeDiff, Nat.reduceEqDiff, Int.reduceEq, Int.reduceLT, Int.reduceLE, List.map_cons, List.map_nil, ri, Bool.not_true, at1, decide_eq_false (show ¬ (b : Int) < 2 by omega)]
          · rw [decide_eq_false g] at ri ⊢
            rw [if_neg Bool.false_ne_true]
            refine ⟨_, fx_ex rfl (go _ _ (xs_ex ((xi_t ?_).trans rfl))), _, rfl, rfl⟩
            simp only [EV, reduceIte, Nat.reduceAdd, Nat.reduceLT, Nat.reduceLeDiff, Nat.reduceEqDiff, Int.reduceEq, Int.reduceLT, Int.reduceLE, List.map_cons, List.map_nil, ri, Bool.not_false]
        · rw [decide_eq_false b2, Bool.false_and, if_neg Bool.false_ne_true]
          refine ⟨_, fx_ex rfl (go _ _ (xs_ex ((xi_t ?_).trans rfl))), _, rfl, rfl⟩
          have : b = 0 ∨ b = 1 := by omega
          rcases this with rfl | rfl
          · have r0 := ratio_0 (a : Int)
            simp only [EV, reduceIte, Nat.reduceAdd, Nat.reduceLT, Nat.reduceLeDiff, Nat.reduceEqDiff, Int.reduceEq, Int.reduceLT, Int.reduceLE, List.map_cons, List.map_nil, Int.ofNat_zero, show ((0 : Nat) : Int) = 0 from rfl, r0, Bool.not_false]
          · obtain ⟨bb, r1⟩ := ratio_1 a
            cases bb with
            | false => simp only [EV, reduceIte, Nat.reduceAdd, Nat.reduceLT, Nat.reduceLeDiff, Nat.reduceEqDiff, Int.reduceEq, Int.reduceLT, Int.reduceLE, List.map_cons, List.map_nil, show ((1 : Nat) : Int) = 1 from rfl, r1, Bool.not_false]
            | true => simp only [EV, reduceIte, Nat.reduceAdd, Nat.reduceLT, Nat.reduceLeDiff, Nat.reduceEqDiff, Int.reduceEq, Int.reduceLT, Int.reduceLE, List.map_cons, List.map_nil, show ((1 : Nat) : Int) = 1 from rfl, r1, Bool.not_true, at1]
      · rw [ra_none fun ns' q => by rw [e] at q; cases q; exact ⟨c2, c1⟩]
        have ri := ratio_no (l := ns.map fun n : Nat => .int (n : Int)) (by rw [List.length_map]; exact c2)
        refine ⟨_, fx_ex rfl (go _ _ (xs_ex ((xi_t ?_).trans rfl))), _, rfl, rfl⟩
        simp only [EV, reduceIte, Nat.reduceAdd, Nat.reduceLT, Nat.reduceLeDiff, Nat.reduceEqDiff, Int.reduceEq, Int.reduceLT, Int.reduceLE, ri, Bool.not_false]
def rdT (d : D) : D := .tuple [.str "read", d]
def rfT : D := .tuple [.str "refused", .bool true]
noncomputable def trF : FX := xIf (tBool (dOp gEq (dVar 0) (dC (.int 0)))) (xAsg 2 X_read_number [] (dCons (dVar 1) (dNil))) (xIf (tBool (dOp gEq (dVar 0) (dC (.int 1)))) (xAsg 2 X_read_ratio [] (dCons (dVar 1) (dNil))) (xAsg 2 X_read_nights [] (dCons (dVar 1) (dNil))))
theorem read_ok {w d : D} {t : D} (hf : fl1 d = true) (h : trF [some (.d w), some (.d t), none, none, none] = some (.o (.nx [some (.d w), some (.d t), some (.d d), none, none]))) : F__law_read [w, t] = some (rdT d) := by
  have s : sTryU 3 trF ["NoText"] (fun c d => if c = "NoText" then sSeq (sSetl 4 (dOr (dC (.bool false)) (dNot (dC (.bool true))))) (sRet (dTup (dCons (dC (.str "refused")) (dCons (dAnd (dC (.bool true)) (dNot (dVar 4))) (dNil))))) else (fun _ => none)) [some (.d w), some (.d t), none, none, none] = some (.nx [some (.d w), some (.d t), some (.d d), none, none]) := by
    unfold sTryU
    rw [h]
    rfl
  unfold trF at s
  unfold F__law_read
  simp only [EV, reduceIte, Nat.reduceAdd, Nat.reduceLT, Nat.reduceLeDiff, Nat.reduceEqDiff, Int.reduceEq, Int.reduceLT, Int.reduceLE, s, hf, Com.sz (show 2 ≤ 1000000 by decide)]
  rfl
theorem read_no {w d : D} {t : D} (hf : flat d = true) (h : trF [some (.d w), some (.d t), none, none, none] = some (.ex "NoText" d)) : F__law_read [w, t] = some rfT := by
  have s : sTryU 3 trF ["NoText"] (fun c d => if c = "NoText" then sSeq (sSetl 4 (dOr (dC (.bool false)) (dNot (dC (.bool true))))) (sRet (dTup (dCons (dC (.str "refused")) (dCons (dAnd (dC (.bool true)) (dNot (dVar 4))) (dNil))))) else (fun _ => none)) [some (.d w), some (.d t), none, none, none] = some (.rt rfT) := by
    unfold sTryU
    rw [h, Option.bind_some]
    show (if ("NoText" : Str) ∈ (["NoText"] : List Str) ∧ flat d = true then _ else none) = _
    rw [if_pos ⟨List.mem_singleton_self _, hf⟩]
    have q : (if ("NoText" : Str) = "NoText" then sSeq (sSetl 4 (dOr (dC (.bool false)) (dNot (dC (.bool true))))) (sRet (dTup (dCons (dC (.str "refused")) (dCons (dAnd (dC (.bool true)) (dNot (dVar 4))) (dNil))))) else (fun _ => none)) [some (.d w), some (.d t), none, none, none] = some (.rt rfT) := by
      rw [if_pos rfl]
      simp only [EV, reduceIte, Nat.reduceAdd, Nat.reduceLT, Nat.reduceLeDiff, Nat.reduceEqDiff, Int.reduceEq, Int.reduceLT, Int.reduceLE, Bool.not_true, Bool.not_false, Com.sz (show 2 ≤ 1000000 by decide)]
      rfl
    show (Option.bind ((if ("NoText" : Str) = "NoText" then sSeq (sSetl 4 (dOr (dC (.bool false)) (dNot (dC (.bool true))))) (sRet (dTup (dCons (dC (.str "refused")) (dCons (dAnd (dC (.bool true)) (dNot (dVar 4))) (dNil))))) else (fun _ => none)) [some (.d w), some (.d t), none, none, none]) _) = _
    rw [q]
    rfl
  unfold trF at s
  unfold F__law_read
  simp only [EV, reduceIte, Nat.reduceAdd, Nat.reduceLT, Nat.reduceLeDiff, Nat.reduceEqDiff, Int.reduceEq, Int.reduceLT, Int.reduceLE, s]
theorem xa_nx {j : Nat} {F : List D → Option Or} {fa : FA} {δ : DS} {ds : List D} {d : D} (hf : fa δ = some ds) (e : F ds = some (.o (.rt d))) (hd : fl1 d = true) (hj : j < δ.length) : xAsg j F [] fa δ = some (.o (.nx (δ.set j (some (.d d))))) := by
  unfold xAsg
  rw [hf, Option.bind_some, List.append_nil, e]
  exact if_pos ⟨hd, hj⟩
theorem xa_ex {j : Nat} {F : List D → Option Or} {fa : FA} {δ : DS} {ds : List D} {c : Str} {d : D} (hf : fa δ = some ds) (e : F ds = some (.ex c d)) : xAsg j F [] fa δ = some (.ex c d) := by
  unfold xAsg
  rw [hf, Option.bind_some, List.append_nil, e]
theorem lread0 {z : Str} (h : asc z) : F__law_read [.int 0, .str z] = some (match nv z with
    | some n => rdT (.int (n : Int))
    | none => rfT) := by
  have r := read_number h
  cases e : nv z with
  | none =>
    rw [e] at r
    refine read_no (d := wrd) rfl ?_
    unfold trF
    exact (xi_t rfl).trans (xa_ex rfl r)
  | some n =>
    rw [e] at r
    refine read_ok (d := .int (n : Int)) rfl ?_
    unfold trF
    exact (xi_t rfl).trans (xa_nx rfl r rfl (show 2 < 5 by decide))
def prT : Option (Nat × Nat) → D
  | some (a, b) => rdT (.tuple [.int (a : Int), .int (b : Int)])
  | none => rfT
theorem lread1 {z : Str} (h : asc z) : F__law_read [.int 1, .str z] = some (prT (raO z)) := by
  obtain ⟨o, r, ho⟩ := ratio_read h
  cases e : raO z with
  | none =>
    rw [e] at ho
    obtain ⟨d, rfl, fd⟩ := ho
    refine read_no fd ?_
    unfold trF
    exact (xi_f rfl).trans ((xi_t rfl).trans (xa_ex rfl r))
  | some x =>
    obtain ⟨a, b⟩ := x
    rw [e] at ho
    have ho : o = .o (.rt (.tuple [.int (a : Int), .int (b : Int)])) := ho
    subst ho
    refine read_ok (d := .tuple [.int (a : Int), .int (b : Int)]) rfl ?_
    unfold trF
    exact (xi_f rfl).trans ((xi_t rfl).trans (xa_nx rfl r rfl (show 2 < 5 by decide)))
theorem lread2 {z : Str} (h : asc z) : F__law_read [.int 2, .str z] = some (prT (pr (Txt.split z ⟨#[45]⟩))) := by
  obtain ⟨o, r, ho⟩ := nights_read h
  cases e : pr (Txt.split z ⟨#[45]⟩) with
  | none =>
    rw [e] at ho
    obtain ⟨d, rfl, fd⟩ := ho
    refine read_no fd ?_
    unfold trF
    exact (xi_f rfl).trans ((xi_f rfl).trans (xa_ex rfl r))
  | some x =>
    obtain ⟨a, b⟩ := x
    rw [e] at ho
    have ho : o = .o (.rt (.tuple [.int (a : Int), .int (b : Int)])) := ho
    subst ho
    refine read_ok (d := .tuple [.int (a : Int), .int (b : Int)]) rfl ?_
    unfold trF
    exact (xi_f rfl).trans ((xi_f rfl).trans (xa_nx rfl r rfl (show 2 < 5 by decide)))
theorem len_txt {n : Nat} (h : n < 10 ^ 18) : (txt n).length ≤ 18 := by
  rw [← len_z, cps_txt, List.length_map]
  exact (Nat.length_toDigits_le_iff (by decide) (by decide)).mpr h
theorem emp_app (s : Str) : Str.empty ++ s = s := by
  refine str_ext ?_
  rw [app_cps]
  rfl
theorem shown_n {a b : Nat} (ha : a < 10 ^ 18) (hb : b < 10 ^ 18) : F_shown_nights [.tuple [.int (a : Int), .int (b : Int)]] = some (.str (txt a ++ ⟨#[45]⟩ ++ txt b)) := by
  have s1 := shown_small ha
  have s2 := shown_small hb
  have l1 := len_txt ha
  have l2 := len_txt hb
  have f : gFmt ⟨#[45]⟩ (.str (txt a)) (.str (txt b)) = some (.str (txt a ++ ⟨#[45]⟩ ++ txt b)) := by
    show (if _ then _ else none) = _
    rw [if_pos ⟨by omega, by omega, by decide⟩, emp_app]
  unfold F_shown_nights
  rw [da_eq]
  simp only [EV, reduceIte, Nat.reduceAdd, Nat.reduceLT, Nat.reduceLeDiff, Nat.reduceEqDiff, Int.reduceEq, Int.reduceLT, Int.reduceLE, at0, at1, s1, s2, f]
theorem shown_r {a b : Nat} (ha : a < 10 ^ 18) (hb : b < 10 ^ 18) (b1 : ¬ b = 1) : F_shown_ratio [.tuple [.int (a : Int), .int (b : Int)]] = some (.str (txt a ++ ⟨#[47]⟩ ++ txt b)) := by
  have s1 := shown_small ha
  have s2 := shown_small hb
  have l1 := len_txt ha
  have l2 := len_txt hb
  have f : gFmt ⟨#[47]⟩ (.str (txt a)) (.str (txt b)) = some (.str (txt a ++ ⟨#[47]⟩ ++ txt b)) := by
    show (if _ then _ else none) = _
    rw [if_pos ⟨by omega, by omega, by decide⟩, emp_app]
  unfold F_shown_ratio
  rw [sl_eq]
  simp only [EV, reduceIte, Nat.reduceAdd, Nat.reduceLT, Nat.reduceLeDiff, Nat.reduceEqDiff, Int.reduceEq, Int.reduceLT, Int.reduceLE, at0, at1, s1, s2, f, decide_eq_false (show ¬ (b : Int) = 1 by omega)]
theorem shown_1 {a : Nat} (ha : a < 10 ^ 18) : F_shown_ratio [.tuple [.int (a : Int), .int 1]] = some (.str (txt a)) := by
  have s1 := shown_small ha
  have ft : flat (.str (txt a)) = true := rfl
  unfold F_shown_ratio
  simp only [EV, reduceIte, Nat.reduceAdd, Nat.reduceLT, Nat.reduceLeDiff, Nat.reduceEqDiff, Int.reduceEq, Int.reduceLT, Int.reduceLE, at0, at1, s1, ft]
theorem pr_back {z : Str} {c a b : Nat} (h : asc z) (e : pr (Txt.split z ⟨#[c]⟩) = some (a, b)) : txt a ++ ⟨#[c]⟩ ++ txt b = z ∧ a < 10 ^ 18 ∧ b < 10 ^ 18 := by
  have as : ∀ p ∈ Txt.split z ⟨#[c]⟩, asc p := fun p hp => asc_part h hp
  have j := split_join z c
  match hs : Txt.split z ⟨#[c]⟩ with
  | [p, q] =>
    rw [hs] at e as j
    simp only [pr] at e
    cases e1 : nv p with
    | none => rw [e1] at e; cases e
    | some x =>
      cases e2 : nv q with
      | none => rw [e1, e2] at e; cases e
      | some y =>
        rw [e1, e2] at e
        cases e
        have ap := as p (by simp)
        have aq := as q (by simp)
        have := nv_lt ap e1
        have := nv_lt aq e2
        refine ⟨?_, by omega, by omega⟩
        rw [txt_back ap e1, txt_back aq e2]
        rw [Str.join.eq_3 _ _ _ (by intro q; cases q), Str.join.eq_2] at j
        exact j
  | [] => rw [hs] at e; cases e
  | [_] => rw [hs] at e; cases e
  | _ :: _ :: _ :: _ => rw [hs] at e; cases e
theorem kinds0 (n : Int) : F__law_kinds [.int 0, .int n] = some (.bool true) := by
  unfold F__law_kinds Com.F__law_kinds
  rfl
theorem ne_none {d : D} (h : ly 50 d) : gNe d d = some (.bool false) := by
  have e := Com.eq_self (ly_le h (show 50 ≤ 60 by decide))
  unfold gEq at e
  unfold gNe
  split at e
  · next q =>
    rw [if_pos q]
    have : PyData.eqv d d = true := by simpa using e
    rw [this]
    rfl
  · cases e
theorem asked0 {z : Str} (h : asc z) (a b c d : Option U) : (sSeq (sSetl 2 (dCall F__law_due (dCons (dVar 1) (dCons (dVar 0) (dNil))))) (sSeq (sAsg (dCall F__law_read (dCons (dVar 1) (dCons (dVar 0) (dNil)))) (gTn 2 (gsCons (gNl 3) (gsCons (gNl 4) (gsNil))))) (sIf (tBool (dUn gIsN (dVar 2))) (sIf (D3.tOr (tBool (dOp gNe (dVar 3) (dC (.str "refused")))) (D3.tNot (tBool (dVar 4)))) (sRet (dC (.bool false))) (sNil)) (sIf (D3.tOr (tBool (dOp gNe (dVar 3) (dC (.str "read")))) (D3.tOr (D3.tNot (tBool (dCall F__law_kinds (dCons (dVar 1) (dCons (dVar 4) (dNil)))))) (tBool (dOp gNe (dVar 4) (dVar 2))))) (sRet (dC (.bool false))) (sIf (D3.tOr (D3.tAnd (tBool (dOp gEq (dVar 1) (dC (.int 1)))) (tBool (dOp gNe (dCall F_shown_ratio (dCons (dVar 4) (dNil))) (dVar 0)))) (D3.tAnd (tBool (dOp gEq (dVar 1) (dC (.int 2)))) (tBool (dOp gNe (dCall F_shown_nights (dCons (dVar 4) (dNil))) (dVar 0))))) (sRet (dC (.bool false))) (sNil)))))) [some (.d (.str z)), some (.d (.int 0)), b, c, d] = some (.nx [some (.d (.str z)), some (.d (.int 0)), some (.d (opD (nv z))), some (.d (match nv z with
    | some _ => .str "read"
    | none => .str "refused")), some (.d (match nv z with
    | some n => .int (n : Int)
    | none => .bool true))]) := by
  have du := due0 h
  have re := lread0 h
  cases e : nv z with
  | none =>
    rw [e] at du re
    have du : F__law_due [.int 0, .str z] = some .none := du
    have re : F__law_read [.int 0, .str z] = some (.tuple [.str "refused", .bool true]) := re
    have n1 : gNe (.str "refused") (.str "refused") = some (.bool false) := ne_none (ly_le (ly_str ⟨by decide +kernel, by decide +kernel⟩) (by decide))
    have nn : isNone .none = true := rfl
    simp only [EV, reduceIte, Nat.reduceAdd, Nat.reduceLT, Nat.reduceLeDiff, Nat.reduceEqDiff, Int.reduceEq, Int.reduceLT, Int.reduceLE, du, re, nn, n1, Bool.not_true, List.length_cons, List.length_nil]
    rfl
  | some n =>
    rw [e] at du re
    have du : F__law_due [.int 0, .str z] = some (.int (n : Int)) := du
    have re : F__law_read [.int 0, .str z] = some (.tuple [.str "read", .int (n : Int)]) := re
    have n1 : gNe (.str "read") (.str "read") = some (.bool false) := ne_none (ly_le (ly_str ⟨by decide +kernel, by decide +kernel⟩) (by decide))
    have nn : isNone (.int (n : Int)) = false := rfl
    have n2 : gNe (.int (n : Int)) (.int (n : Int)) = some (.bool false) := ne_none ly_int
    simp only [EV, reduceIte, Nat.reduceAdd, Nat.reduceLT, Nat.reduceLeDiff, Nat.reduceEqDiff, Int.reduceEq, Int.reduceLT, Int.reduceLE, du, re, nn, n1, n2, kinds0, Bool.not_true, List.length_cons, List.length_nil]
    rfl
theorem kinds2 (w : Int) (hw : ¬ w = 0) (a b : Int) : F__law_kinds [.int w, .tuple [.int a, .int b]] = some (.bool true) := by
  have w1 : ∀ i : Int, Com.F__law_whole [.int i] = some (.bool true) := fun i => by unfold Com.F__law_whole; rfl
  have ty : D3.isT "tuple" (tyD (.tuple [.int a, .int b])) = true := (by decide : D3.isT "tuple" "tuple" = true)
  unfold F__law_kinds Com.F__law_kinds
  simp only [EV, reduceIte, Nat.reduceAdd, Nat.reduceLT, Nat.reduceLeDiff, Nat.reduceEqDiff, Int.reduceEq, Int.reduceLT, Int.reduceLE, decide_eq_false hw, ty, at0, at1, w1, List.length_cons, List.length_nil]
def wdD : Option (Nat × Nat) → D
  | some _ => .str "read"
  | none => .str "refused"
def fdD : Option (Nat × Nat) → D
  | some (a, b) => .tuple [.int (a : Int), .int (b : Int)]
  | none => .bool true
theorem asked2 {z : Str} (h : asc z) (b c d : Option U) : (sSeq (sSetl 2 (dCall F__law_due (dCons (dVar 1) (dCons (dVar 0) (dNil))))) (sSeq (sAsg (dCall F__law_read (dCons (dVar 1) (dCons (dVar 0) (dNil)))) (gTn 2 (gsCons (gNl 3) (gsCons (gNl 4) (gsNil))))) (sIf (tBool (dUn gIsN (dVar 2))) (sIf (D3.tOr (tBool (dOp gNe (dVar 3) (dC (.str "refused")))) (D3.tNot (tBool (dVar 4)))) (sRet (dC (.bool false))) (sNil)) (sIf (D3.tOr (tBool (dOp gNe (dVar 3) (dC (.str "read")))) (D3.tOr (D3.tNot (tBool (dCall F__law_kinds (dCons (dVar 1) (dCons (dVar 4) (dNil)))))) (tBool (dOp gNe (dVar 4) (dVar 2))))) (sRet (dC (.bool false))) (sIf (D3.tOr (D3.tAnd (tBool (dOp gEq (dVar 1) (dC (.int 1)))) (tBool (dOp gNe (dCall F_shown_ratio (dCons (dVar 4) (dNil))) (dVar 0)))) (D3.tAnd (tBool (dOp gEq (dVar 1) (dC (.int 2)))) (tBool (dOp gNe (dCall F_shown_nights (dCons (dVar 4) (dNil))) (dVar 0))))) (sRet (dC (.bool false))) (sNil)))))) [some (.d (.str z)), some (.d (.int 2)), b, c, d] = some (.nx [some (.d (.str z)), some (.d (.int 2)), some (.d (prD (pr (Txt.split z ⟨#[45]⟩)))), some (.d (wdD (pr (Txt.split z ⟨#[45]⟩)))), some (.d (fdD (pr (Txt.split z ⟨#[45]⟩))))]) := by
  have du := due2 h
  have re := lread2 h
  cases e : pr (Txt.split z ⟨#[45]⟩) with
  | none =>
    rw [e] at du re
    have du : F__law_due [.int 2, .str z] = some .none := du
    have re : F__law_read [.int 2, .str z] = some (.tuple [.str "refused", .bool true]) := re
    have n1 : gNe (.str "refused") (.str "refused") = some (.bool false) := ne_none (ly_le (ly_str ⟨by decide +kernel, by decide +kernel⟩) (by decide))
    have nn : isNone .none = true := rfl
    simp only [EV, reduceIte, Nat.reduceAdd, Nat.reduceLT, Nat.reduceLeDiff, Nat.reduceEqDiff, Int.reduceEq, Int.reduceLT, Int.reduceLE, du, re, nn, n1, Bool.not_true, List.length_cons, List.length_nil]
    rfl
  | some x =>
    obtain ⟨p, q⟩ := x
    obtain ⟨pb, hp, hq⟩ := pr_back h e
    rw [e] at du re
    have du : F__law_due [.int 2, .str z] = some (.tuple [.int (p : Int), .int (q : Int)]) := du
    have re : F__law_read [.int 2, .str z] = some (.tuple [.str "read", .tuple [.int (p : Int), .int (q : Int)]]) := re
    have n1 : gNe (.str "read") (.str "read") = some (.bool false) := ne_none (ly_le (ly_str ⟨by decide +kernel, by decide +kernel⟩) (by decide))
    have nn : isNone (.tuple [.int (p : Int), .int (q : Int)]) = false := rfl
    have n2 : gNe (.tuple [.int (p : Int), .int (q : Int)]) (.tuple [.int (p : Int), .int (q : Int)]) = some (.bool false) := ne_none (ly_le (ly_tup (n := 2) (lys_cons ly_int (lys_cons ly_int lys_nil))) (by decide))
    have sn := shown_n hp hq
    rw [pb] at sn
    have n3 : gNe (.str z) (.str z) = some (.bool false) := ne_none (ly_le (ly_str h) (by decide))
    simp only [EV, reduceIte, Nat.reduceAdd, Nat.reduceLT, Nat.reduceLeDiff, Nat.reduceEqDiff, Int.reduceEq, Int.reduceLT, Int.reduceLE, du, re, nn, n1, n2, kinds2 2 (by decide), sn, n3, Bool.not_true, List.length_cons, List.length_nil]
    rfl
theorem ra_back {z : Str} {a b : Nat} (h : asc z) (e : raO z = some (a, b)) : F_shown_ratio [.tuple [.int (a : Int), .int (b : Int)]] = some (.str z) := by
  unfold raO at e
  by_cases c : 47 ∈ z.cps.toList
  · rw [if_pos c] at e
    cases e2 : pr (Txt.split z ⟨#[47]⟩) with
    | none => rw [e2] at e; cases e
    | some x =>
      obtain ⟨p, q⟩ := x
      rw [e2] at e
      have e : (if low p q = true then some (p, q) else none) = some (a, b) := e
      split at e
      · next l =>
        cases e
        obtain ⟨pb, hp, hq⟩ := pr_back h e2
        unfold low at l
        rw [Bool.and_eq_true] at l
        have l1 := of_decide_eq_true l.1
        rw [shown_r hp hq (by omega), pb]
      · cases e
  · rw [if_neg c] at e
    cases e2 : nv z with
    | none => rw [e2] at e; cases e
    | some n =>
      rw [e2] at e
      have e : some (n, 1) = some (a, b) := e
      obtain ⟨rfl, rfl⟩ : n = a ∧ 1 = b := by simpa using e
      have := nv_lt h e2
      have s := shown_1 (a := n) (by omega)
      rw [txt_back h e2] at s
      exact s
theorem asked1 {z : Str} (h : asc z) (b c d : Option U) : (sSeq (sSetl 2 (dCall F__law_due (dCons (dVar 1) (dCons (dVar 0) (dNil))))) (sSeq (sAsg (dCall F__law_read (dCons (dVar 1) (dCons (dVar 0) (dNil)))) (gTn 2 (gsCons (gNl 3) (gsCons (gNl 4) (gsNil))))) (sIf (tBool (dUn gIsN (dVar 2))) (sIf (D3.tOr (tBool (dOp gNe (dVar 3) (dC (.str "refused")))) (D3.tNot (tBool (dVar 4)))) (sRet (dC (.bool false))) (sNil)) (sIf (D3.tOr (tBool (dOp gNe (dVar 3) (dC (.str "read")))) (D3.tOr (D3.tNot (tBool (dCall F__law_kinds (dCons (dVar 1) (dCons (dVar 4) (dNil)))))) (tBool (dOp gNe (dVar 4) (dVar 2))))) (sRet (dC (.bool false))) (sIf (D3.tOr (D3.tAnd (tBool (dOp gEq (dVar 1) (dC (.int 1)))) (tBool (dOp gNe (dCall F_shown_ratio (dCons (dVar 4) (dNil))) (dVar 0)))) (D3.tAnd (tBool (dOp gEq (dVar 1) (dC (.int 2)))) (tBool (dOp gNe (dCall F_shown_nights (dCons (dVar 4) (dNil))) (dVar 0))))) (sRet (dC (.bool false))) (sNil)))))) [some (.d (.str z)), some (.d (.int 1)), b, c, d] = some (.nx [some (.d (.str z)), some (.d (.int 1)), some (.d (prD (raO z))), some (.d (wdD (raO z))), some (.d (fdD (raO z)))]) := by
  have du := due1 h
  have re := lread1 h
  cases e : raO z with
  | none =>
    rw [e] at du re
    have du : F__law_due [.int 1, .str z] = some .none := du
    have re : F__law_read [.int 1, .str z] = some (.tuple [.str "refused", .bool true]) := re
    have n1 : gNe (.str "refused") (.str "refused") = some (.bool false) := ne_none (ly_le (ly_str ⟨by decide +kernel, by decide +kernel⟩) (by decide))
    have nn : isNone .none = true := rfl
    simp only [EV, reduceIte, Nat.reduceAdd, Nat.reduceLT, Nat.reduceLeDiff, Nat.reduceEqDiff, Int.reduceEq, Int.reduceLT, Int.reduceLE, du, re, nn, n1, Bool.not_true, List.length_cons, List.length_nil]
    rfl
  | some x =>
    obtain ⟨p, q⟩ := x
    have sn := ra_back h e
    rw [e] at du re
    have du : F__law_due [.int 1, .str z] = some (.tuple [.int (p : Int), .int (q : Int)]) := du
    have re : F__law_read [.int 1, .str z] = some (.tuple [.str "read", .tuple [.int (p : Int), .int (q : Int)]]) := re
    have n1 : gNe (.str "read") (.str "read") = some (.bool false) := ne_none (ly_le (ly_str ⟨by decide +kernel, by decide +kernel⟩) (by decide))
    have nn : isNone (.tuple [.int (p : Int), .int (q : Int)]) = false := rfl
    have n2 : gNe (.tuple [.int (p : Int), .int (q : Int)]) (.tuple [.int (p : Int), .int (q : Int)]) = some (.bool false) := ne_none (ly_le (ly_tup (n := 2) (lys_cons ly_int (lys_cons ly_int lys_nil))) (by decide))
    have n3 : gNe (.str z) (.str z) = some (.bool false) := ne_none (ly_le (ly_str h) (by decide))
    simp only [EV, reduceIte, Nat.reduceAdd, Nat.reduceLT, Nat.reduceLeDiff, Nat.reduceEqDiff, Int.reduceEq, Int.reduceLT, Int.reduceLE, du, re, nn, n1, n2, kinds2 1 (by decide), sn, n3, Bool.not_true, List.length_cons, List.length_nil]
    rfl
theorem asked_gen {z : Str} (h : asc z) : F__law_asked [.str z] = some (.bool true) := by
  have rr : qRng1 (some [.int 3]) = some [.int 0, .int 1, .int 2] := rfl
  have f : forD (gNl 1) (sSeq (sSetl 2 (dCall F__law_due (dCons (dVar 1) (dCons (dVar 0) (dNil))))) (sSeq (sAsg (dCall F__law_read (dCons (dVar 1) (dCons (dVar 0) (dNil)))) (gTn 2 (gsCons (gNl 3) (gsCons (gNl 4) (gsNil))))) (sIf (tBool (dUn gIsN (dVar 2))) (sIf (D3.tOr (tBool (dOp gNe (dVar 3) (dC (.str "refused")))) (D3.tNot (tBool (dVar 4)))) (sRet (dC (.bool false))) (sNil)) (sIf (D3.tOr (tBool (dOp gNe (dVar 3) (dC (.str "read")))) (D3.tOr (D3.tNot (tBool (dCall F__law_kinds (dCons (dVar 1) (dCons (dVar 4) (dNil)))))) (tBool (dOp gNe (dVar 4) (dVar 2))))) (sRet (dC (.bool false))) (sIf (D3.tOr (D3.tAnd (tBool (dOp gEq (dVar 1) (dC (.int 1)))) (tBool (dOp gNe (dCall F_shown_ratio (dCons (dVar 4) (dNil))) (dVar 0)))) (D3.tAnd (tBool (dOp gEq (dVar 1) (dC (.int 2)))) (tBool (dOp gNe (dCall F_shown_nights (dCons (dVar 4) (dNil))) (dVar 0))))) (sRet (dC (.bool false))) (sNil)))))) [.int 0, .int 1, .int 2] [some (.d (.str z)), none, none, none, none] = some (.nx [some (.d (.str z)), some (.d (.int 2)), some (.d (prD (pr (Txt.split z ⟨#[45]⟩)))), some (.d (wdD (pr (Txt.split z ⟨#[45]⟩)))), some (.d (fdD (pr (Txt.split z ⟨#[45]⟩))))]) := by
    have nx : ∀ {g : FG} {b : FS} {d : D} {r : List D} {δ δ1 δ' : DS}, g d δ = some δ1 → b δ1 = some (.nx δ') → forD g b (d :: r) δ = forD g b r δ' := fun h1 h2 => by
      rw [forD, h1, Option.bind_some, h2]
      rfl
    exact (nx rfl (asked0 h none none none none)).trans ((nx rfl (asked1 h _ _ _)).trans ((nx rfl (asked2 h _ _ _)).trans rfl))
  unfold F__law_asked
  simp only [EV, reduceIte, Nat.reduceAdd, Nat.reduceLT, Nat.reduceLeDiff, Nat.reduceEqDiff, Int.reduceEq, Int.reduceLT, Int.reduceLE, rr, f]
def pad : Nat → Nat → List Char
  | 0, _ => []
  | k + 1, b => pad k (b / 10) ++ [Nat.digitChar (b % 10)]
theorem dig_cut {n : Nat} (h : 10 ≤ n) : Nat.toDigits 10 n = Nat.toDigits 10 (n / 10) ++ [Nat.digitChar (n % 10)] := by
  have hm : n % 10 < 10 := Nat.mod_lt n (by decide)
  have t : Nat.toDigits 10 (n / 10) ++ Nat.toDigits 10 (n % 10) = Nat.toDigits 10 (10 * (n / 10) + n % 10) := Nat.toDigits_append_toDigits (by decide) (by omega) hm
  rw [Nat.div_add_mod] at t
  rw [← t, Nat.toDigits_of_lt_base hm]
theorem dig_pad : ∀ (k a b : Nat), 0 < a → b < 10 ^ k → Nat.toDigits 10 (a * 10 ^ k + b) = Nat.toDigits 10 a ++ pad k b
  | 0, a, b, _, hb => by
    obtain rfl : b = 0 := by simpa using hb
    simp [pad]
  | k + 1, a, b, ha, hb => by
    have hb' : b < 10 ^ k * 10 := by rw [← Nat.pow_succ]; exact hb
    have e : a * 10 ^ (k + 1) = a * 10 ^ k * 10 := by rw [Nat.pow_succ, Nat.mul_assoc]
    have p : 1 ≤ a * 10 ^ k := Nat.mul_pos ha (Nat.pow_pos (by decide))
    have ih := dig_pad k a (b / 10) ha (by omega)
    rw [e, dig_cut (by omega), show (a * 10 ^ k * 10 + b) / 10 = a * 10 ^ k + b / 10 by omega, show (a * 10 ^ k * 10 + b) % 10 = b % 10 by omega, ih, pad, List.append_assoc]
theorem pad_0 : ∀ k : Nat, pad k 0 = List.replicate k '0'
  | 0 => rfl
  | k + 1 => by
    rw [pad, show 0 / 10 = 0 from rfl, pad_0 k, List.replicate_succ']
    rfl
theorem pad_eq : ∀ (k b : Nat), b < 10 ^ (k + 1) → pad (k + 1) b = List.replicate (k + 1 - (Nat.toDigits 10 b).length) '0' ++ Nat.toDigits 10 b
  | 0, b, h => by
    have h : b < 10 := by simpa using h
    rw [Nat.toDigits_of_lt_base h, pad, pad, Nat.mod_eq_of_lt h]
    rfl
  | k + 1, b, h => by
    have h' : b < 10 ^ (k + 1) * 10 := by rw [← Nat.pow_succ]; exact h
    by_cases c : b < 10
    · rw [Nat.toDigits_of_lt_base c, pad, Nat.mod_eq_of_lt c, show b / 10 = 0 by omega, pad_0]
      rfl
    · have ih := pad_eq k (b / 10) (by omega)
      rw [pad, ih, dig_cut (n := b) (by omega), List.length_append, List.append_assoc, List.length_singleton]
      congr 2
      omega
theorem txt_len (n : Nat) : (txt n).length = (Nat.toDigits 10 n).length := by rw [← len_z, cps_txt, List.length_map]
theorem txt_dig (n : Nat) : ∀ c ∈ (txt n).cps.toList, 48 ≤ c ∧ c ≤ 57 := fun c hc => by
  rw [cps_txt] at hc
  obtain ⟨ch, hch, e⟩ := List.mem_map.mp hc
  have r := PyProof.Rows.digit_range (Nat.isDigit_of_mem_toDigits (by decide) (by decide) hch)
  rw [← e]
  exact r
theorem zf_cps {b : Nat} (h : b < 10 ^ 18) : (Txt.zfill (txt b) 18).cps.toList = (pad 18 b).map Char.toNat := by
  rw [pad_eq 17 b h, List.map_append, ← cps_txt, List.map_replicate, ← txt_len]
  have l := len_txt h
  unfold Txt.zfill
  split
  · next c =>
    rw [show 17 + 1 - (txt b).length = 0 by omega]
    rfl
  · next c =>
    unfold PySem.zfilled
    have pd : (Builtin.Str.padded (txt b) ((18 : Int).toNat - (txt b).length) 0 48).cps.toList = List.replicate (17 + 1 - (txt b).length) 48 ++ (txt b).cps.toList := by
      unfold Builtin.Str.padded
      simp
    have nn : ∀ c, (txt b).cps[0]? = some c → c ≠ 43 ∧ c ≠ 45 := fun c hc => by
      have := txt_dig b c (by
        rw [← Array.getElem?_toList] at hc
        exact List.mem_of_getElem? hc)
      omega
    split
    · next q => exact absurd rfl (nn _ q).1
    · next q => exact absurd rfl (nn _ q).2
    · exact pd
theorem zf_len {b : Nat} (h : b < 10 ^ 18) : (Txt.zfill (txt b) 18).length = 18 := by
  have : ∀ k b, (pad k b).length = k := fun k => by
    induction k with
    | zero => intro b; rfl
    | succ k ih => intro b; rw [pad, List.length_append, ih]; rfl
  rw [← len_z, zf_cps h, List.length_map, this]
theorem txt_cut {r : Nat} (h : 10 ^ 18 ≤ r) : txt r = txt (r / 10 ^ 18) ++ Txt.zfill (txt (r % 10 ^ 18)) 18 := by
  have hm : r % 10 ^ 18 < 10 ^ 18 := Nat.mod_lt _ (by decide)
  refine str_ext ?_
  rw [app_cps, zf_cps hm, cps_txt, cps_txt, ← List.map_append, ← dig_pad 18 _ _ (Nat.div_pos h (by decide)) hm]
  congr 2
  omega
theorem str_n {n : Nat} (h : n < 10 ^ 100) : gStr [.int (n : Int)] = some (.str (txt n)) := by
  show (if ((n : Int)).natAbs.log2 < 1920 then _ else none) = _
  rw [if_pos]
  · rfl
  · rw [Int.natAbs_natCast]
    have : n < 2 ^ 1920 := Nat.lt_of_lt_of_le h (by decide +kernel)
    by_cases z : n = 0
    · rw [z]; decide
    · exact (Nat.log2_lt z).mpr this
theorem app_asc (a b c : Str) : a ++ b ++ c = a ++ (b ++ c) := str_ext (by simp only [app_cps, List.append_assoc])
def jn (ps : List Str) : Str := Str.join ("" : Str) ps
theorem jn_cons (p : Str) (ps : List Str) : jn (p :: ps) = p ++ jn ps := by
  refine str_ext ?_
  unfold jn
  cases ps with
  | nil =>
    rw [Str.join.eq_2, Str.join.eq_1, app_cps, show Str.empty.cps.toList = [] from rfl, List.append_nil]
  | cons q r =>
    rw [Str.join.eq_3 _ _ _ (by intro z; cases z), app_cps, app_cps, app_cps, show ("" : Str).cps.toList = [] by decide +kernel, List.append_nil]
theorem join_of {ps : List Str} (h : ∀ p ∈ ps, p.length ≤ 18) (hl : ps.length ≤ 1000) : gJoin (.str "") (.list (ps.map PyData.str)) = some (.str (jn ps)) := by
  have s : ∀ ps : List Str, (∀ p ∈ ps, p.length ≤ 18) → (ps.map (·.length)).sum ≤ ps.length * 18 := fun ps => by
    induction ps with
    | nil => intro _; exact Nat.le_refl _
    | cons p r ih =>
      intro h
      have := ih fun q hq => h q (List.mem_cons_of_mem _ hq)
      have := h p List.mem_cons_self
      rw [List.map_cons, List.sum_cons, List.length_cons]
      omega
  have s := s ps h
  show ((strsD (ps.map PyData.str)).bind fun ts => if JoinOk ("" : Str) ts = true then some (PyData.str (Txt.join ("" : Str) ts)) else none) = _
  rw [strs_map, Option.bind_some, if_pos (PyProof.Rows.joinOk_of (by rw [show ("" : Str).length = 0 by decide +kernel]; omega))]
  show some (PyData.str (Builtin.Str.glued _ _)) = _
  rw [StrLaws.glued_eq_join]
  rfl
theorem shown_loop (a : Option U) : ∀ (m r : Nat) (ps : List Str), r < 10 ^ (18 * (m + 1)) → r < 10 ^ 100 → ps.length + m ≤ 20 → (∀ p ∈ ps, p.length ≤ 18) →
    ∃ (k r' : Nat) (qs : List Str), whileD (tBool (dOp gGe (dVar 2) (dC (.int 1000000000000000000)))) (sSeq (sIns 1 (dC (.int 0)) (dOp gZfill (dCall gStr (dCons (dOp gMod (dVar 2) (dC (.int 1000000000000000000))) (dNil))) (dC (.int 18)))) (sSetl 2 (dOp gDiv (dVar 2) (dC (.int 1000000000000000000))))) k [a, some (.d (.list (ps.map PyData.str))), some (.d (.int (r : Int)))] = some (.nx [a, some (.d (.list (qs.map PyData.str))), some (.d (.int (r' : Int)))]) ∧ r' < 10 ^ 18 ∧ qs.length ≤ 20 ∧ (∀ p ∈ qs, p.length ≤ 18) ∧ txt r' ++ jn qs = txt r ++ jn ps := by
  have stop : ∀ (r : Nat) (ps : List Str), r < 10 ^ 18 → whileD (tBool (dOp gGe (dVar 2) (dC (.int 1000000000000000000)))) (sSeq (sIns 1 (dC (.int 0)) (dOp gZfill (dCall gStr (dCons (dOp gMod (dVar 2) (dC (.int 1000000000000000000))) (dNil))) (dC (.int 18)))) (sSetl 2 (dOp gDiv (dVar 2) (dC (.int 1000000000000000000))))) 1 [a, some (.d (.list (ps.map PyData.str))), some (.d (.int (r : Int)))] = some (.nx [a, some (.d (.list (ps.map PyData.str))), some (.d (.int (r : Int)))]) := fun r ps h => by
    have w0 : decide ((r : Int) ≥ 1000000000000000000) = false := decide_eq_false (by omega)
    have : (tBool (dOp gGe (dVar 2) (dC (.int 1000000000000000000)))) [a, some (.d (.list (ps.map PyData.str))), some (.d (.int (r : Int)))] = some false := by
      simp only [EV, reduceIte, Nat.reduceAdd, Nat.reduceLT, Nat.reduceLeDiff, Nat.reduceEqDiff, Int.reduceEq, Int.reduceLT, Int.reduceLE, w0]
    rw [whileD, this]
    rfl
  intro m
  induction m with
  | zero =>
    intro r ps h h1 hl hp
    exact ⟨1, r, ps, stop r ps h, h, by omega, hp, rfl⟩
  | succ m ih =>
    intro r ps h h1 hl hp
    by_cases c : r < 10 ^ 18
    · exact ⟨1, r, ps, stop r ps c, c, by omega, hp, rfl⟩
    · have hm : r % 10 ^ 18 < 10 ^ 18 := Nat.mod_lt _ (by decide)
      have hd : r / 10 ^ 18 < 10 ^ (18 * (m + 1)) := by
        rw [Nat.div_lt_iff_lt_mul (by decide), ← Nat.pow_add]
        exact h
      obtain ⟨k, r', qs, e, h2, h3, h4, h5⟩ := ih (r / 10 ^ 18) (Txt.zfill (txt (r % 10 ^ 18)) 18 :: ps) hd (Nat.lt_of_le_of_lt (Nat.div_le_self _ _) h1) (by rw [List.length_cons]; omega) fun p hq => by
        rcases List.mem_cons.mp hq with rfl | hq
        · exact Nat.le_of_eq (zf_len hm)
        · exact hp p hq
      refine ⟨k + 1, r', qs, ?_, h2, h3, h4, ?_⟩
      · have w1 : decide ((r : Int) ≥ 1000000000000000000) = true := decide_eq_true (by omega)
        have t : (tBool (dOp gGe (dVar 2) (dC (.int 1000000000000000000)))) [a, some (.d (.list (ps.map PyData.str))), some (.d (.int (r : Int)))] = some true := by
          simp only [EV, reduceIte, Nat.reduceAdd, Nat.reduceLT, Nat.reduceLeDiff, Nat.reduceEqDiff, Int.reduceEq, Int.reduceLT, Int.reduceLE, w1]
        have m1 : (r : Int) % 1000000000000000000 = ((r % 10 ^ 18 : Nat) : Int) := by omega
        have m2 : (r : Int) / 1000000000000000000 = ((r / 10 ^ 18 : Nat) : Int) := by omega
        have st := str_n (n := r % 10 ^ 18) (Nat.lt_of_lt_of_le hm (by decide +kernel))
        have zf : gZfill (.str (txt (r % 10 ^ 18))) (.int 18) = some (.str (Txt.zfill (txt (r % 10 ^ 18)) 18)) := by
          show (if PadOk 18 = true then some (PyData.str (Txt.zfill (txt (r % 10 ^ 18)) 18)) else none) = _
          rw [if_pos (by decide +kernel)]
        have is : insD 0 (.str (Txt.zfill (txt (r % 10 ^ 18)) 18)) (ps.map PyData.str) = some ((Txt.zfill (txt (r % 10 ^ 18)) 18 :: ps).map PyData.str) := by
          unfold insD
          rw [if_pos ⟨by rw [List.length_map]; omega, by decide, by decide⟩]
          have : insK (ps.map PyData.str).length 0 = 0 := by
            unfold insK
            simp
          rw [this]
          rfl
        have b : (sSeq (sIns 1 (dC (.int 0)) (dOp gZfill (dCall gStr (dCons (dOp gMod (dVar 2) (dC (.int 1000000000000000000))) (dNil))) (dC (.int 18)))) (sSetl 2 (dOp gDiv (dVar 2) (dC (.int 1000000000000000000))))) [a, some (.d (.list (ps.map PyData.str))), some (.d (.int (r : Int)))] = some (.nx [a, some (.d (.list ((Txt.zfill (txt (r % 10 ^ 18)) 18 :: ps).map PyData.str))), some (.d (.int ((r / 10 ^ 18 : Nat) : Int)))]) := by
          simp only [EV, reduceIte, Nat.reduceAdd, Nat.reduceLT, Nat.reduceLeDiff, Nat.reduceEqDiff, Int.reduceEq, Int.reduceLT, Int.reduceLE, modP (show (0 : Int) < 1000000000000000000 by decide), divP (show (0 : Int) < 1000000000000000000 by decide) (show (1000000000000000000 : Int) < 18446744073709551616 by decide), m1, m2, st, zf, v_ins, v_ins_s, qM_s is]
        rw [whileD, t, Option.bind_some, b]
        exact e
      · rw [h5, jn_cons, ← app_asc, ← txt_cut (by omega)]
theorem shown_any {n : Nat} (h : n < 10 ^ 90) : F_shown_number [.int (n : Int)] = some (.str (txt n)) := by
  obtain ⟨k, r, qs, e, h2, h3, h4, h5⟩ := shown_loop (some (.d (.int (n : Int)))) 4 n [] h (Nat.lt_of_lt_of_le h (by decide +kernel)) (by decide) (fun _ z => nomatch z)
  have e := sWhile_of e
  have e : sWhile (tBool (dOp gGe (dVar 2) (dC (.int 1000000000000000000)))) (sSeq (sIns 1 (dC (.int 0)) (dOp gZfill (dCall gStr (dCons (dOp gMod (dVar 2) (dC (.int 1000000000000000000))) (dNil))) (dC (.int 18)))) (sSetl 2 (dOp gDiv (dVar 2) (dC (.int 1000000000000000000))))) [some (.d (.int (n : Int))), some (.d (.list [])), some (.d (.int (n : Int)))] = _ := e
  have st := str_n (n := r) (Nat.lt_of_lt_of_le h2 (by decide +kernel))
  have j := join_of h4 (by omega)
  have h5 : txt r ++ jn qs = txt n := by
    rw [h5]
    refine str_ext ?_
    rw [app_cps, show (jn []).cps.toList = [] from rfl, List.append_nil]
  have ad : gAddS (.str (txt r)) (.str (jn qs)) = some (.str (txt n)) := by
    have l1 : (txt n).length ≤ 90 := by
      rw [txt_len]
      exact (Nat.length_toDigits_le_iff (by decide) (by decide)).mpr h
    rw [← h5, XW.len_app] at l1
    show (if _ then _ else none) = _
    rw [if_pos (by omega), h5]
  unfold F_shown_number
  simp only [EV, reduceIte, Nat.reduceAdd, Nat.reduceLT, Nat.reduceLeDiff, Nat.reduceEqDiff, Int.reduceEq, Int.reduceLT, Int.reduceLE, e, st, j, ad, Com.sz (show 0 ≤ 1000000 by decide)]
theorem len_txB {n : Nat} (h : n < 10 ^ 90) : (txt n).length ≤ 90 := by
  rw [← len_z, cps_txt, List.length_map]
  exact (Nat.length_toDigits_le_iff (by decide) (by decide)).mpr h
theorem shown_nB {a b : Nat} (ha : a < 10 ^ 90) (hb : b < 10 ^ 90) : F_shown_nights [.tuple [.int (a : Int), .int (b : Int)]] = some (.str (txt a ++ ⟨#[45]⟩ ++ txt b)) := by
  have s1 := shown_any ha
  have s2 := shown_any hb
  have l1 := len_txB ha
  have l2 := len_txB hb
  have f : gFmt ⟨#[45]⟩ (.str (txt a)) (.str (txt b)) = some (.str (txt a ++ ⟨#[45]⟩ ++ txt b)) := by
    show (if _ then _ else none) = _
    rw [if_pos ⟨by omega, by omega, by decide⟩, emp_app]
  unfold F_shown_nights
  rw [da_eq]
  simp only [EV, reduceIte, Nat.reduceAdd, Nat.reduceLT, Nat.reduceLeDiff, Nat.reduceEqDiff, Int.reduceEq, Int.reduceLT, Int.reduceLE, at0, at1, s1, s2, f]
theorem shown_rB {a b : Nat} (ha : a < 10 ^ 90) (hb : b < 10 ^ 90) (b1 : ¬ b = 1) : F_shown_ratio [.tuple [.int (a : Int), .int (b : Int)]] = some (.str (txt a ++ ⟨#[47]⟩ ++ txt b)) := by
  have s1 := shown_any ha
  have s2 := shown_any hb
  have l1 := len_txB ha
  have l2 := len_txB hb
  have f : gFmt ⟨#[47]⟩ (.str (txt a)) (.str (txt b)) = some (.str (txt a ++ ⟨#[47]⟩ ++ txt b)) := by
    show (if _ then _ else none) = _
    rw [if_pos ⟨by omega, by omega, by decide⟩, emp_app]
  unfold F_shown_ratio
  rw [sl_eq]
  simp only [EV, reduceIte, Nat.reduceAdd, Nat.reduceLT, Nat.reduceLeDiff, Nat.reduceEqDiff, Int.reduceEq, Int.reduceLT, Int.reduceLE, at0, at1, s1, s2, f, decide_eq_false (show ¬ (b : Int) = 1 by omega)]
theorem shown_1B {a : Nat} (ha : a < 10 ^ 90) : F_shown_ratio [.tuple [.int (a : Int), .int 1]] = some (.str (txt a)) := by
  have s1 := shown_any ha
  have ft : flat (.str (txt a)) = true := rfl
  unfold F_shown_ratio
  simp only [EV, reduceIte, Nat.reduceAdd, Nat.reduceLT, Nat.reduceLeDiff, Nat.reduceEqDiff, Int.reduceEq, Int.reduceLT, Int.reduceLE, at0, at1, s1, ft]
theorem pow6 : gPow (.int 10) (.int 6) = some (.int 1000000) := rfl
theorem lshown {ns : List Int} {i : Int} (h0 : 0 ≤ i) : F__law_shown [.list (ns.map .int), .int i] = some (.bool true) := by
  obtain ⟨δ', e, t, b, x, ht, hb, rfl⟩ := for_inv (g := (gNl 4)) (b := (sSeq (sSetl 2 (dOp gAdd (dOp gMul (dVar 2) (dOp gPow (dC (.int 10)) (dC (.int 6)))) (dOp gMul (dCall F__law_part (dCons (dVar 0) (dCons (dVar 1) (dCons (dOp gAdd (dC (.int 43)) (dVar 4)) (dCons (dOp gPow (dC (.int 10)) (dC (.int 6))) (dNil)))))) (dCall gInt (dCons (dOr (dOp gGt (dVar 4) (dC (.int 5))) (dOp gEq (dOp gMod (dVar 1) (dC (.int 2))) (dC (.int 0)))) (dNil)))))) (sSetl 3 (dOp gAdd (dOp gMul (dVar 3) (dOp gPow (dC (.int 10)) (dC (.int 6)))) (dCall F__law_part (dCons (dVar 0) (dCons (dVar 1) (dCons (dC (.int 53)) (dCons (dOp gPow (dC (.int 10)) (dC (.int 6))) (dNil))))))))))
    (fun j δ => ∃ (t b : Nat) (x : Option U), t < 10 ^ (6 * j) ∧ b < 10 ^ (6 * j) ∧ δ = [some (.d (.list (ns.map .int))), some (.d (.int i)), some (.d (.int (t : Int))), some (.d (.int (b : Int))), x, none, none, none])
    (rngD 0 10) [some (.d (.list (ns.map .int))), some (.d (.int i)), some (.d (.int 0)), some (.d (.int 0)), none, none, none, none] ⟨0, 0, none, by decide, by decide, rfl⟩ (by
    rintro j d δ hd ⟨t, b, x, ht, hb, rfl⟩
    obtain ⟨hj, rfl⟩ := rng_get hd
    have p1 := part_spec (ns := ns) (i := i) (k := 43 + (j : Int)) (m := 1000000) h0 (by omega) (by omega) (by decide)
    have p2 := part_spec (ns := ns) (i := i) (k := 53) (m := 1000000) h0 (by decide) (by decide) (by decide)
    have r1 := partF_range ns i (43 + (j : Int)) (m := 1000000) (by decide)
    have r2 := partF_range ns i 53 (m := 1000000) (by decide)
    generalize partF ns i (43 + (j : Int)) 1000000 = a1 at *
    generalize partF ns i 53 1000000 = a2 at *
    obtain ⟨a1, rfl⟩ := Int.eq_ofNat_of_zero_le r1.1
    obtain ⟨a2, rfl⟩ := Int.eq_ofNat_of_zero_le r2.1
    have pw : 10 ^ (6 * (j + 1)) = 10 ^ (6 * j) * 1000000 := by rw [show 6 * (j + 1) = 6 * j + 6 by omega, Nat.pow_add]
    have p1 : F__law_part [.list (ns.map .int), .int i, .int (43 + (j : Int)), .int 1000000] = some (.int (a1 : Int)) := p1
    have p2 : F__law_part [.list (ns.map .int), .int i, .int 53, .int 1000000] = some (.int (a2 : Int)) := p2
    have big : ∀ y : Int, gMul (.int y) (.int 1000000) = some (.int (y * 1000000)) := fun y => mulR (by decide) (by decide)
    have m1 : gMul (.int (a1 : Int)) (.int 1) = some (.int (a1 : Int)) := by rw [mulR (by decide) (by decide), Int.mul_one]
    have m0 : gMul (.int (a1 : Int)) (.int 0) = some (.int 0) := by rw [mulR (by decide) (by decide), Int.mul_zero]
    have i1 : gInt [.bool true] = some (.int 1) := rfl
    have i0 : gInt [.bool false] = some (.int 0) := rfl
    have md : gMod (.int i) (.int 2) = some (.int (i % 2)) := modP (by decide)
    have w : ∀ q : Nat, (sSeq (sSetl 2 (dOp gAdd (dOp gMul (dVar 2) (dOp gPow (dC (.int 10)) (dC (.int 6)))) (dOp gMul (dCall F__law_part (dCons (dVar 0) (dCons (dVar 1) (dCons (dOp gAdd (dC (.int 43)) (dVar 4)) (dCons (dOp gPow (dC (.int 10)) (dC (.int 6))) (dNil)))))) (dCall gInt (dCons (dOr (dOp gGt (dVar 4) (dC (.int 5))) (dOp gEq (dOp gMod (dVar 1) (dC (.int 2))) (dC (.int 0)))) (dNil)))))) (sSetl 3 (dOp gAdd (dOp gMul (dVar 3) (dOp gPow (dC (.int 10)) (dC (.int 6)))) (dCall F__law_part (dCons (dVar 0) (dCons (dVar 1) (dCons (dC (.int 53)) (dCons (dOp gPow (dC (.int 10)) (dC (.int 6))) (dNil))))))))) [some (.d (.list (ns.map .int))), some (.d (.int i)), some (.d (.int (t : Int))), some (.d (.int (b : Int))), some (.d (.int (j : Int))), none, none, none] = some (.nx [some (.d (.list (ns.map .int))), some (.d (.int i)), some (.d (.int ((t : Int) * 1000000 + (q : Int)))), some (.d (.int ((b : Int) * 1000000 + (a2 : Int)))), some (.d (.int (j : Int))), none, none, none]) → q < 1000000 → ∃ δ1 δ', (gNl 4) (.int (j : Int)) [some (.d (.list (ns.map .int))), some (.d (.int i)), some (.d (.int (t : Int))), some (.d (.int (b : Int))), x, none, none, none] = some δ1 ∧ ((sSeq (sSetl 2 (dOp gAdd (dOp gMul (dVar 2) (dOp gPow (dC (.int 10)) (dC (.int 6)))) (dOp gMul (dCall F__law_part (dCons (dVar 0) (dCons (dVar 1) (dCons (dOp gAdd (dC (.int 43)) (dVar 4)) (dCons (dOp gPow (dC (.int 10)) (dC (.int 6))) (dNil)))))) (dCall gInt (dCons (dOr (dOp gGt (dVar 4) (dC (.int 5))) (dOp gEq (dOp gMod (dVar 1) (dC (.int 2))) (dC (.int 0)))) (dNil)))))) (sSetl 3 (dOp gAdd (dOp gMul (dVar 3) (dOp gPow (dC (.int 10)) (dC (.int 6)))) (dCall F__law_part (dCons (dVar 0) (dCons (dVar 1) (dCons (dC (.int 53)) (dCons (dOp gPow (dC (.int 10)) (dC (.int 6))) (dNil))))))))) δ1 = some (.nx δ') ∨ (sSeq (sSetl 2 (dOp gAdd (dOp gMul (dVar 2) (dOp gPow (dC (.int 10)) (dC (.int 6)))) (dOp gMul (dCall F__law_part (dCons (dVar 0) (dCons (dVar 1) (dCons (dOp gAdd (dC (.int 43)) (dVar 4)) (dCons (dOp gPow (dC (.int 10)) (dC (.int 6))) (dNil)))))) (dCall gInt (dCons (dOr (dOp gGt (dVar 4) (dC (.int 5))) (dOp gEq (dOp gMod (dVar 1) (dC (.int 2))) (dC (.int 0)))) (dNil)))))) (sSetl 3 (dOp gAdd (dOp gMul (dVar 3) (dOp gPow (dC (.int 10)) (dC (.int 6)))) (dCall F__law_part (dCons (dVar 0) (dCons (dVar 1) (dCons (dC (.int 53)) (dCons (dOp gPow (dC (.int 10)) (dC (.int 6))) (dNil))))))))) δ1 = some (.ct δ')) ∧ ∃ (t b : Nat) (x : Option U), t < 10 ^ (6 * (j + 1)) ∧ b < 10 ^ (6 * (j + 1)) ∧ δ' = [some (.d (.list (ns.map .int))), some (.d (.int i)), some (.d (.int (t : Int))), some (.d (.int (b : Int))), x, none, none, none] := fun q eb hq => by
      have g1 : (gNl 4) (.int (j : Int)) [some (.d (.list (ns.map .int))), some (.d (.int i)), some (.d (.int (t : Int))), some (.d (.int (b : Int))), x, none, none, none] = some [some (.d (.list (ns.map .int))), some (.d (.int i)), some (.d (.int (t : Int))), some (.d (.int (b : Int))), some (.d (.int (j : Int))), none, none, none] := rfl
      have g2 := @Or.inl _ ((sSeq (sSetl 2 (dOp gAdd (dOp gMul (dVar 2) (dOp gPow (dC (.int 10)) (dC (.int 6)))) (dOp gMul (dCall F__law_part (dCons (dVar 0) (dCons (dVar 1) (dCons (dOp gAdd (dC (.int 43)) (dVar 4)) (dCons (dOp gPow (dC (.int 10)) (dC (.int 6))) (dNil)))))) (dCall gInt (dCons (dOr (dOp gGt (dVar 4) (dC (.int 5))) (dOp gEq (dOp gMod (dVar 1) (dC (.int 2))) (dC (.int 0)))) (dNil)))))) (sSetl 3 (dOp gAdd (dOp gMul (dVar 3) (dOp gPow (dC (.int 10)) (dC (.int 6)))) (dCall F__law_part (dCons (dVar 0) (dCons (dVar 1) (dCons (dC (.int 53)) (dCons (dOp gPow (dC (.int 10)) (dC (.int 6))) (dNil))))))))) [some (.d (.list (ns.map .int))), some (.d (.int i)), some (.d (.int (t : Int))), some (.d (.int (b : Int))), some (.d (.int (j : Int))), none, none, none] = some (.ct [some (.d (.list (ns.map .int))), some (.d (.int i)), some (.d (.int ((t : Int) * 1000000 + (q : Int)))), some (.d (.int ((b : Int) * 1000000 + (a2 : Int)))), some (.d (.int (j : Int))), none, none, none])) eb
      refine ⟨_, _, g1, g2, ?_⟩
      refine ⟨t * 1000000 + q, b * 1000000 + a2, some (.d (.int (j : Int))), ?_, ?_, ?_⟩
      · rw [pw]
        clear eb p1 p2 m1 m0
        generalize 10 ^ (6 * j) = Z at ht
        omega
      · rw [pw]
        clear eb p1 p2 m1 m0
        generalize 10 ^ (6 * j) = Z at hb
        omega
      rw [Int.natCast_add, Int.natCast_mul, Int.natCast_add, Int.natCast_mul]
      rfl
    by_cases c : (j : Int) > 5
    · exact w a1 (by simp only [EV, reduceIte, Nat.reduceAdd, Nat.reduceLT, Nat.reduceLeDiff, Nat.reduceEqDiff, Int.reduceEq, Int.reduceLT, Int.reduceLE, pow6, big, p1, p2, decide_eq_true c, i1, m1]) (by omega)
    · by_cases c2 : i % 2 = 0
      · exact w a1 (by simp only [EV, reduceIte, Nat.reduceAdd, Nat.reduceLT, Nat.reduceLeDiff, Nat.reduceEqDiff, Int.reduceEq, Int.reduceLT, Int.reduceLE, pow6, big, p1, p2, decide_eq_false c, md, decide_eq_true c2, i1, m1]) (by omega)
      · exact w 0 (by simp only [EV, reduceIte, Nat.reduceAdd, Nat.reduceLT, Nat.reduceLeDiff, Nat.reduceEqDiff, Int.reduceEq, Int.reduceLT, Int.reduceLE, pow6, big, p1, p2, decide_eq_false c, md, decide_eq_false c2, i0, m0]) (by omega))
  rw [show (rngD 0 10).length = 10 from rfl] at ht hb
  have P : (10 : Nat) ^ 60 < 10 ^ 90 := by decide +kernel
  have ht : t < 10 ^ 60 := ht
  have hb : b < 10 ^ 60 := hb
  generalize hg : t.gcd (b + 1) = g
  have g1 : 0 < g := by rw [← hg]; exact Nat.gcd_pos_of_pos_right _ (by omega)
  have gb : g ≤ b + 1 := by rw [← hg]; exact Nat.gcd_le_right _ (by omega)
  have gd := lgcd (a := (t : Int)) (b := ((b + 1 : Nat) : Int)) (by omega) (by omega)
  rw [gcdI_nat, hg] at gd
  have gd : F__law_divisor [.int (t : Int), .int ((b : Int) + 1)] = some (.int (g : Int)) := gd
  have mx : gMax2 [.int 1, .int (g : Int)] = some (.int (g : Int)) := by
    show some (PyData.int (if (g : Int) > 1 then (g : Int) else 1)) = _
    by_cases c : (g : Int) > 1
    · rw [if_pos c]
    · rw [if_neg c, show (g : Int) = 1 by omega]
  have big : (g : Int).natAbs < 2 ^ 9000 := by
    rw [Int.natAbs_natCast]
    exact Nat.lt_of_lt_of_le (show g < 10 ^ 90 by omega) (by decide +kernel)
  have d1 : gDiv (.int (t : Int)) (.int (g : Int)) = some (.int ((t / g : Nat) : Int)) := divB (by omega) big
  have d2 : gDiv (.int ((b : Int) + 1)) (.int (g : Int)) = some (.int (((b + 1) / g : Nat) : Int)) := divB (by omega) big
  have hA : t / g < 10 ^ 90 := by have := Nat.div_le_self t g; omega
  have hB : (b + 1) / g < 10 ^ 90 := by have := Nat.div_le_self (b + 1) g; omega
  have hB1 : 1 ≤ (b + 1) / g := Nat.div_pos gb g1
  generalize t / g = A at *
  generalize (b + 1) / g = B at *
  have st : ∀ {n : Nat}, n < 10 ^ 90 → gStr [.int (n : Int)] = some (.str (txt n)) := fun h => str_n (Nat.lt_of_lt_of_le h (by decide +kernel))
  have sA := st hA
  have sB := st hB
  have st1 := st (show t < 10 ^ 90 by omega)
  have sb1 := st (show b < 10 ^ 90 by omega)
  have lA := len_txB hA
  have lB := len_txB hB
  have lt := len_txB (show t < 10 ^ 90 by omega)
  have lb := len_txB (show b < 10 ^ 90 by omega)
  have ad : ∀ {x y : Str}, x.length ≤ 1000 → y.length ≤ 1000 → gAddS (.str x) (.str y) = some (.str (x ++ y)) := fun h1 h2 => by
    show (if _ then _ else none) = _
    rw [if_pos (by omega)]
  have l2 : ∀ (x : Str) (c : Nat), x.length ≤ 90 → (x ++ (⟨#[c]⟩ : Str)).length ≤ 91 := fun x c h => by rw [XW.len_app]; show x.length + 1 ≤ 91; omega
  have a1 := ad (x := txt A) (y := ⟨#[47]⟩) (by omega) (by show 1 ≤ 1000; decide)
  have a2 := ad (x := txt A ++ ⟨#[47]⟩) (y := txt B) (by have := l2 (txt A) 47 lA; omega) (by omega)
  have a3 := ad (x := txt t) (y := ⟨#[45]⟩) (by omega) (by show 1 ≤ 1000; decide)
  have a4 := ad (x := txt t ++ ⟨#[45]⟩) (y := txt b) (by have := l2 (txt t) 45 lt; omega) (by omega)
  have as : ∀ z : Str, (∀ c ∈ z.cps.toList, c < 128) → z.length ≤ 1000 → ly 2 (.str z) := fun z h1 h2 => ly_str (asc_of h1 h2)
  have dl : ∀ n : Nat, ∀ c ∈ (txt n).cps.toList, c < 128 := fun n c hc => by have := txt_dig n c hc; omega
  have dm : ∀ (n m k : Nat), k < 128 → ∀ c ∈ (txt n ++ ⟨#[k]⟩ ++ txt m).cps.toList, c < 128 := fun n m k hk c hc => by
    rw [app_cps, app_cps] at hc
    rcases List.mem_append.mp hc with hc | hc
    · rcases List.mem_append.mp hc with hc | hc
      · exact dl n c hc
      · rw [List.mem_singleton.mp hc]; exact hk
    · exact dl m c hc
  have ne : ∀ z : Str, (∀ c ∈ z.cps.toList, c < 128) → z.length ≤ 1000 → gNe (.str z) (.str z) = some (.bool false) := fun z h1 h2 => ne_none (ly_le (as z h1 h2) (by decide))
  have eq : gEq (.str (txt t ++ ⟨#[45]⟩ ++ txt b)) (.str (txt t ++ ⟨#[45]⟩ ++ txt b)) = some (.bool true) := Com.eq_self (ly_le (as _ (dm t b 45 (by decide)) (by rw [XW.len_app]; have := l2 (txt t) 45 lt; omega)) (by decide))
  have n1 := ne (txt t) (dl t) (by omega)
  have s1 := shown_1B (a := t) (by omega)
  have sn := shown_nB (a := t) (b := b) (by omega) (by omega)
  have rr : qRng1 (some [.int 10]) = some (rngD 0 10) := rfl
  unfold F__law_shown
  rw [sl_eq, da_eq]
  by_cases c : B = 1
  · rw [show (B : Int) = 1 by omega] at d2
    have s2 := shown_1B hA
    have n2 := ne (txt A) (dl A) (by omega)
    have gt : decide ((1 : Int) > 1) = false := rfl
    simp only [EV, reduceIte, Nat.reduceAdd, Nat.reduceLT, Nat.reduceLeDiff, Nat.reduceEqDiff, Int.reduceEq, Int.reduceLT, Int.reduceLE, rr, e, gd, mx, d1, d2, at0, at1, sA, gt, s2, n2, s1, st1, n1, sn, sb1, a3, a4, eq, Com.sz (show 2 ≤ 1000000 by decide)]
  · have s2 := shown_rB hA hB c
    have n2 := ne _ (dm A B 47 (by decide)) (by rw [XW.len_app]; exact Nat.le_trans (Nat.add_le_add (l2 (txt A) 47 lA) lB) (by decide))
    have gt : decide ((B : Int) > 1) = true := decide_eq_true (Int.ofNat_lt.mpr (Nat.lt_of_le_of_ne hB1 (Ne.symm c)))
    simp only [EV, reduceIte, Nat.reduceAdd, Nat.reduceLT, Nat.reduceLeDiff, Nat.reduceEqDiff, Int.reduceEq, Int.reduceLT, Int.reduceLE, rr, e, gd, mx, d1, d2, at0, at1, sA, sB, gt, a1, a2, s2, n2, s1, st1, n1, sn, sb1, a3, a4, eq, Com.sz (show 2 ≤ 1000000 by decide)]
def sh (z : Str) : Prop := (∀ c ∈ z.cps.toList, c < 128) ∧ z.length ≤ 100
theorem sh_asc {z : Str} (h : sh z) : asc z := asc_of h.1 (by have := h.2; omega)
theorem app_in {a b : Str} (ha : ∀ c ∈ a.cps.toList, c < 128) (hb : ∀ c ∈ b.cps.toList, c < 128) : ∀ c ∈ (a ++ b).cps.toList, c < 128 := fun c hc => by
  rw [app_cps] at hc
  rcases List.mem_append.mp hc with hc | hc
  · exact ha c hc
  · exact hb c hc
theorem sl_in {z : Str} (h : ∀ c ∈ z.cps.toList, c < 128) (lo hi : Option Int) : ∀ c ∈ (Txt.slice z lo hi).cps.toList, c < 128 := by
  unfold Txt.slice
  split
  · exact h
  · intro c hc
    obtain ⟨k, _, hk⟩ := List.mem_filterMap.mp (show c ∈ List.filterMap _ _ from hc)
    rw [← Array.getElem?_toList] at hk
    exact h c (List.mem_of_getElem? hk)
theorem one_in {c : Nat} (h : c < 128) : ∀ d ∈ (⟨#[c]⟩ : Str).cps.toList, d < 128 := fun d hd => by rw [List.mem_singleton.mp hd]; exact h
theorem add_s {x y : Str} (h1 : x.length ≤ 1000) (h2 : y.length ≤ 1000) : gAddS (.str x) (.str y) = some (.str (x ++ y)) := by
  show (if _ then _ else none) = _
  rw [if_pos (by omega)]
theorem txt_in (n : Nat) : ∀ c ∈ (txt n).cps.toList, c < 128 := fun c hc => by have := txt_dig n c hc; omega
theorem figs {ns : List Int} {i k : Int} (h0 : 0 ≤ i) (hk : 0 ≤ k) (hk2 : k ≤ 900) : ∃ n : Nat, n < 10 ^ 10 ∧ F__law_figures [.list (ns.map .int), .int i, .int k] = some (.str (txt n)) := by
  have p0 := part_spec (ns := ns) (i := i) (k := k) (m := 10) h0 hk (by omega) (by decide)
  have r0 := partF_range ns i k (m := 10) (by decide)
  generalize partF ns i k 10 = s at *
  obtain ⟨s, rfl⟩ := Int.eq_ofNat_of_zero_le r0.1
  have p0 : F__law_part [.list (ns.map .int), .int i, .int k, .int 10] = some (.int (s : Int)) := p0
  obtain ⟨δ', e, n, x, hn, rfl⟩ := for_inv (g := (gNl 5)) (b := (sSetl 4 (dOp gAdd (dOp gMul (dC (.int 10)) (dVar 4)) (dCall F__law_part (dCons (dVar 0) (dCons (dVar 1) (dCons (dOp gAdd (dOp gAdd (dVar 2) (dC (.int 1))) (dVar 5)) (dCons (dC (.int 10)) (dNil)))))))))
    (fun j δ => ∃ (n : Nat) (x : Option U), n < 10 ^ j ∧ δ = [some (.d (.list (ns.map .int))), some (.d (.int i)), some (.d (.int k)), some (.d (.int (1 + (s : Int)))), some (.d (.int (n : Int))), x])
    (rngD 0 (1 + (s : Int))) [some (.d (.list (ns.map .int))), some (.d (.int i)), some (.d (.int k)), some (.d (.int (1 + (s : Int)))), some (.d (.int 0)), none] ⟨0, none, by decide, rfl⟩ (by
    rintro j d δ hd ⟨n, x, hn, rfl⟩
    obtain ⟨hj, rfl⟩ := rng_get hd
    have p1 := part_spec (ns := ns) (i := i) (k := k + 1 + (j : Int)) (m := 10) h0 (by omega) (by omega) (by decide)
    have r1 := partF_range ns i (k + 1 + (j : Int)) (m := 10) (by decide)
    generalize partF ns i (k + 1 + (j : Int)) 10 = a at *
    obtain ⟨a, rfl⟩ := Int.eq_ofNat_of_zero_le r1.1
    have p1 : F__law_part [.list (ns.map .int), .int i, .int (k + 1 + (j : Int)), .int 10] = some (.int (a : Int)) := p1
    have ml : gMul (.int 10) (.int (n : Int)) = some (.int (10 * (n : Int))) := mulL (by decide) (by decide)
    have eb : (sSetl 4 (dOp gAdd (dOp gMul (dC (.int 10)) (dVar 4)) (dCall F__law_part (dCons (dVar 0) (dCons (dVar 1) (dCons (dOp gAdd (dOp gAdd (dVar 2) (dC (.int 1))) (dVar 5)) (dCons (dC (.int 10)) (dNil)))))))) [some (.d (.list (ns.map .int))), some (.d (.int i)), some (.d (.int k)), some (.d (.int (1 + (s : Int)))), some (.d (.int (n : Int))), some (.d (.int (j : Int)))] = some (.nx [some (.d (.list (ns.map .int))), some (.d (.int i)), some (.d (.int k)), some (.d (.int (1 + (s : Int)))), some (.d (.int (10 * (n : Int) + (a : Int)))), some (.d (.int (j : Int)))]) := by
      simp only [EV, reduceIte, Nat.reduceAdd, Nat.reduceLT, Nat.reduceLeDiff, Nat.reduceEqDiff, Int.reduceEq, Int.reduceLT, Int.reduceLE, ml, p1]
    refine ⟨_, _, rfl, .inl eb, 10 * n + a, some (.d (.int (j : Int))), ?_, ?_⟩
    · rw [Nat.pow_succ]; omega
    · rw [Int.natCast_add, Int.natCast_mul]; rfl)
  have ll : (rngD 0 (1 + (s : Int))).length ≤ 10 := by
    have : (rngD 0 (1 + (s : Int))).length = s + 1 := by simp [rngD]; omega
    omega
  have hn : n < 10 ^ 10 := Nat.lt_of_lt_of_le hn (Nat.pow_le_pow_right (by decide) ll)
  refine ⟨n, hn, ?_⟩
  have st := str_n (n := n) (Nat.lt_of_lt_of_le hn (by decide +kernel))
  have rr : qRng1 (some [.int (1 + (s : Int))]) = some (rngD 0 (1 + (s : Int))) := rng1 (by omega) (by omega)
  unfold F__law_figures
  simp only [EV, reduceIte, Nat.reduceAdd, Nat.reduceLT, Nat.reduceLeDiff, Nat.reduceEqDiff, Int.reduceEq, Int.reduceLT, Int.reduceLE, p0, rr, e, st]
theorem slS {z : Str} (h : z.length ≤ 1000) {lo hi : FO} {f : FE} {δ : DS} {a b : Option Int} (hf : f δ = some (.str z)) (ha : lo δ = some a) (hb : hi δ = some b) : dSlS f lo hi δ = some (.str (Txt.slice z a b)) := by
  have := Txt.slice_le z a b
  unfold dSlS
  rw [hf, Option.bind_some, ha, Option.bind_some, hb, Option.bind_some]
  show (if _ then _ else none) = _
  rw [if_pos (by omega)]
theorem ix_in {z : Str} (h : ∀ c ∈ z.cps.toList, c < 128) (hl : z.length ≤ 1000) {q : Nat} (hq : q < z.length) : ∃ c : Nat, c < 128 ∧ gIxS (.str z) (.int (q : Int)) = some (.str ⟨#[c]⟩) := by
  rw [← len_z] at hq
  refine ⟨z.cps.toList[q], h _ (List.getElem_mem hq), ?_⟩
  show (if _ then _ else _) = _
  rw [if_pos (by omega)]
  have : L2.atI z.cps.toList (q : Int) = some z.cps.toList[q] := by
    unfold L2.atI L2.ixN
    rw [if_pos (by omega), if_pos (by omega)]
    show z.cps.toList[((q : Int)).toNat]? = _
    rw [Int.toNat_natCast]
    exact List.getElem?_eq_getElem hq
  rw [this]
  rfl
theorem spoilt {ns : List Int} {i : Int} {z : Str} (h0 : 0 ≤ i) (h : sh z) : ∃ y : Str, asc y ∧ F__law_spoilt [.list (ns.map .int), .int i, .str z] = some (.str y) := by
  have hz := h.2
  have ln := ln_z (sh_asc h)
  rw [len_z] at ln
  have p0 := part_spec (ns := ns) (i := i) (k := 40) (m := (z.length : Int) + 1) h0 (by decide) (by decide) (by omega)
  have p1 := part_spec (ns := ns) (i := i) (k := 41) (m := 17) h0 (by decide) (by decide) (by decide)
  have p2 := part_spec (ns := ns) (i := i) (k := 42) (m := 3) h0 (by decide) (by decide) (by decide)
  have r1 := partF_range ns i 41 (m := 17) (by decide)
  have r2 := partF_range ns i 42 (m := 3) (by decide)
  generalize partF ns i 40 ((z.length : Int) + 1) = p at *
  generalize partF ns i 41 17 = q at *
  generalize partF ns i 42 3 = w at *
  obtain ⟨q, rfl⟩ := Int.eq_ofNat_of_zero_le r1.1
  obtain ⟨c, c1, hc⟩ := ix_in (z := "0123456789-/ +.xO") (q := q) (by decide +kernel) (by decide +kernel) (Nat.lt_of_lt_of_eq (show q < 17 by omega) (by decide +kernel))
  have p0 : F__law_part [.list (ns.map .int), .int i, .int 40, .int ((z.length : Int) + 1)] = some (.int p) := p0
  have p1 : F__law_part [.list (ns.map .int), .int i, .int 41, .int 17] = some (.int (q : Int)) := p1
  have p2 : F__law_part [.list (ns.map .int), .int i, .int 42, .int 3] = some (.int w) := p2
  have S := fun a b => sl_in h.1 a b
  have L := fun a b => Txt.slice_le z a b
  have o := one_in c1
  have lo : (⟨#[c]⟩ : Str).length = 1 := rfl
  have sl : ∀ (lo hi : FO) (a b : Option Int) (δ : DS), dVar 2 δ = some (.str z) → lo δ = some a → hi δ = some b → dSlS (dVar 2) lo hi δ = some (.str (Txt.slice z a b)) := fun lo hi a b δ h1 h2 h3 => slS (by omega) h1 h2 h3
  have y : ∃ y : Str, asc y ∧ (if w = 0 then some (PyData.str (Txt.slice z none (some p) ++ ⟨#[c]⟩ ++ Txt.slice z (some p) none)) else if w = 1 then some (.str (Txt.slice z none (some p) ++ Txt.slice z (some (p + 1)) none)) else some (.str (Txt.slice z none (some p) ++ ⟨#[c]⟩ ++ Txt.slice z (some (p + 1)) none))) = some (.str y) := by
    have l1 := L none (some p)
    have l2 := L (some p) none
    have l3 := L (some (p + 1)) none
    split
    · exact ⟨_, asc_of (app_in (app_in (S _ _) o) (S _ _)) (by rw [XW.len_app, XW.len_app]; omega), rfl⟩
    · split
      · exact ⟨_, asc_of (app_in (S _ _) (S _ _)) (by rw [XW.len_app]; omega), rfl⟩
      · exact ⟨_, asc_of (app_in (app_in (S _ _) o) (S _ _)) (by rw [XW.len_app, XW.len_app]; omega), rfl⟩
  obtain ⟨y, hy, e⟩ := y
  refine ⟨y, hy, ?_⟩
  rw [← e]
  generalize hs1 : Txt.slice z none (some p) = s1 at *
  generalize hs2 : Txt.slice z (some p) none = s2 at *
  generalize hs3 : Txt.slice z (some (p + 1)) none = s3 at *
  have l1 : s1.length ≤ 100 := by rw [← hs1]; have := L none (some p); omega
  have l2 : s2.length ≤ 100 := by rw [← hs2]; have := L (some p) none; omega
  have l3 : s3.length ≤ 100 := by rw [← hs3]; have := L (some (p + 1)) none; omega
  have a1 := add_s (x := s1) (y := ⟨#[c]⟩) (by omega) (by omega)
  have a2 := add_s (x := s1 ++ ⟨#[c]⟩) (y := s2) (by rw [XW.len_app]; omega) (by omega)
  have a3 := add_s (x := s1 ++ ⟨#[c]⟩) (y := s3) (by rw [XW.len_app]; omega) (by omega)
  have a4 := add_s (x := s1) (y := s3) (by omega) (by omega)
  have d1 : ∀ {t0 t1 t3 t5 t6 : Option U}, dSlS (dVar 2) oNone (oPart (dVar 4)) [t0, t1, some (.d (.str z)), t3, some (.d (.int p)), t5, t6] = some (.str s1) := by
    intros; rw [← hs1]; exact sl _ _ none (some p) _ rfl rfl rfl
  have d2 : ∀ {t0 t1 t3 t5 t6 : Option U}, dSlS (dVar 2) (oPart (dVar 4)) oNone [t0, t1, some (.d (.str z)), t3, some (.d (.int p)), t5, t6] = some (.str s2) := by
    intros; rw [← hs2]; exact sl _ _ (some p) none _ rfl rfl rfl
  have d3 : ∀ {t0 t1 t3 t5 t6 : Option U}, dSlS (dVar 2) (oPart (dOp gAdd (dVar 4) (dC (.int 1)))) oNone [t0, t1, some (.d (.str z)), t3, some (.d (.int p)), t5, t6] = some (.str s3) := by
    intros; rw [← hs3]; exact sl _ _ (some (p + 1)) none _ rfl rfl rfl
  unfold F__law_spoilt
  by_cases c0 : w = 0
  · subst c0
    simp only [EV, reduceIte, Nat.reduceAdd, Nat.reduceLT, Nat.reduceLeDiff, Nat.reduceEqDiff, Int.reduceEq, Int.reduceLT, Int.reduceLE, ln, p0, p1, p2, hc, d1, d2, a1, a2]
  · by_cases c1 : w = 1
    · subst c1
      simp only [EV, reduceIte, Nat.reduceAdd, Nat.reduceLT, Nat.reduceLeDiff, Nat.reduceEqDiff, Int.reduceEq, Int.reduceLT, Int.reduceLE, ln, p0, p1, p2, hc, d1, d3, a4]
    · rw [if_neg c0, if_neg c1]
      simp only [EV, reduceIte, Nat.reduceAdd, Nat.reduceLT, Nat.reduceLeDiff, Nat.reduceEqDiff, Int.reduceEq, Int.reduceLT, Int.reduceLE, ln, p0, p1, p2, hc, d1, d3, a1, a3, decide_eq_false c0, decide_eq_false c1]
theorem odd_read {d : D} (h : D3.isT "str" (tyD d) = false) : F__law_read [.int 0, d] = some rfT ∧ F__law_read [.int 1, d] = some rfT ∧ F__law_read [.int 2, d] = some rfT := by
  have n : F_is_number_text [d] = some (.bool false) := by
    unfold F_is_number_text
    simp only [EV, reduceIte, Nat.reduceAdd, Nat.reduceLT, Nat.reduceLeDiff, Nat.reduceEqDiff, Int.reduceEq, Int.reduceLT, Int.reduceLE, h, Bool.not_false]
  have r0 : X_read_number [d] = some (.ex "NoText" wrd) := by
    unfold X_read_number
    have t : D3.tNot (tBool (dCall F_is_number_text (dCons (dVar 0) (dNil)))) [some (.d d)] = some true := by
      simp only [EV, reduceIte, Nat.reduceAdd, Nat.reduceLT, Nat.reduceLeDiff, Nat.reduceEqDiff, Int.reduceEq, Int.reduceLT, Int.reduceLE, n, Bool.not_false]
    exact fx_ex rfl (xs_ex ((xi_t t).trans rfl))
  have rs : ∀ k : D, X_read_numbers [d, k] = some (.ex "NoText" (.str "only a text can be read")) := fun k => by
    unfold X_read_numbers
    have t : D3.tNot (tBool (dUn (gIs "str") (dVar 0))) [some (.d d), some (.d k)] = some true := by
      simp only [EV, reduceIte, Nat.reduceAdd, Nat.reduceLT, Nat.reduceLeDiff, Nat.reduceEqDiff, Int.reduceEq, Int.reduceLT, Int.reduceLE, h, Bool.not_false]
    exact fx_ex rfl (xs_ex ((xi_t t).trans rfl))
  refine ⟨read_no (d := wrd) rfl ?_, read_no (d := .str "only a text can be read") rfl ?_, read_no (d := .str "only a text can be read") rfl ?_⟩
  · unfold trF
    exact (xi_t rfl).trans (xa_ex rfl r0)
  · unfold trF
    refine (xi_f rfl).trans ((xi_t rfl).trans (xa_ex (ds := [d]) rfl ?_))
    unfold X_read_ratio
    exact fx_ex rfl (xs_ex (xt_ex rfl (rs _)))
  · unfold trF
    refine (xi_f rfl).trans ((xi_f rfl).trans (xa_ex (ds := [d]) rfl ?_))
    unfold X_read_nights
    exact fx_ex rfl (xs_ex (xt_ex rfl (rs _)))
theorem comp_strs {g : FG} {c : FT} {e : FE} {δ : DS} {p : Str → Prop} : ∀ l : List D, (∀ d ∈ l, ∃ δ1 y, g d δ = some δ1 ∧ c δ1 = some true ∧ e δ1 = some (.str y) ∧ p y) → ∃ ts : List Str, compD g c e δ l = some (ts.map PyData.str) ∧ ts.length = l.length ∧ ∀ t ∈ ts, p t
  | [], _ => ⟨[], rfl, rfl, fun _ h => nomatch h⟩
  | d :: r, h => by
    obtain ⟨δ1, y, e1, e2, e3, hy⟩ := h d List.mem_cons_self
    obtain ⟨ts, e4, hl, ht⟩ := comp_strs r fun x hx => h x (List.mem_cons_of_mem _ hx)
    refine ⟨y :: ts, ?_, by rw [List.length_cons, List.length_cons, hl], fun t z => ?_⟩
    · rw [compD, e1, Option.bind_some, e2, Option.bind_some, if_pos rfl, e3, Option.bind_some, e4]
      rfl
    · rcases List.mem_cons.mp z with rfl | z
      · exact hy
      · exact ht t z
theorem jn_in : ∀ {ts : List Str}, (∀ t ∈ ts, (∀ c ∈ t.cps.toList, c < 128) ∧ t.length = 1) → (∀ c ∈ (jn ts).cps.toList, c < 128) ∧ (jn ts).length = ts.length
  | [], _ => ⟨(fun c h => nomatch (show c ∈ ([] : List Nat) from h)), rfl⟩
  | t :: r, h => by
    have a := h t List.mem_cons_self
    have b := jn_in (ts := r) fun x hx => h x (List.mem_cons_of_mem _ hx)
    rw [jn_cons]
    refine ⟨app_in a.1 b.1, ?_⟩
    rw [XW.len_app, a.2, b.2, List.length_cons]
    omega
theorem few {ns : List Int} {i : Int} (h0 : 0 ≤ i) : ∃ y : Str, asc y ∧ ∀ a b c d e f g : Option U, dOp gJoin (dC (.str "")) (dComp (fRng1 (dCons (dCall F__law_part (dCons (dVar 0) (dCons (dVar 1) (dCons (dC (.int 32)) (dCons (dC (.int 6)) (dNil)))))) (dNil))) (gNl 0) (D3.tYes) (dOp gIxS (dC (.str "01-/5 ")) (dCall F__law_part (dCons (dVar 1) (dCons (dVar 2) (dCons (dOp gAdd (dC (.int 26)) (dVar 0)) (dCons (dC (.int 6)) (dNil))))))) 1 [0, 1]) [some (.d (.list (ns.map .int))), some (.d (.int i)), a, b, c, d, e, f, g] = some (.str y) := by
  have p0 := part_spec (ns := ns) (i := i) (k := 32) (m := 6) h0 (by decide) (by decide) (by decide)
  have r0 := partF_range ns i 32 (m := 6) (by decide)
  generalize partF ns i 32 6 = s at *
  have p0 : F__law_part [.list (ns.map .int), .int i, .int 32, .int 6] = some (.int s) := p0
  have rr : qRng1 (some [.int s]) = some (rngD 0 s) := rng1 (by omega) (by omega)
  have ll : (rngD 0 s).length = (s - 0).toNat := rngD_len 0 s
  obtain ⟨ts, e, hl, ht⟩ := comp_strs (g := (gNl 0)) (c := (D3.tYes)) (e := (dOp gIxS (dC (.str "01-/5 ")) (dCall F__law_part (dCons (dVar 1) (dCons (dVar 2) (dCons (dOp gAdd (dC (.int 26)) (dVar 0)) (dCons (dC (.int 6)) (dNil)))))))) (δ := [none, some (.d (.list (ns.map .int))), some (.d (.int i))]) (p := fun t => (∀ c ∈ t.cps.toList, c < 128) ∧ t.length = 1) (rngD 0 s) (fun d hd => by
    obtain ⟨j, hj⟩ := List.getElem?_of_mem hd
    obtain ⟨hj, rfl⟩ := rng_get hj
    have p1 := part_spec (ns := ns) (i := i) (k := 26 + (j : Int)) (m := 6) h0 (by omega) (by omega) (by decide)
    have r1 := partF_range ns i (26 + (j : Int)) (m := 6) (by decide)
    generalize partF ns i (26 + (j : Int)) 6 = q at *
    obtain ⟨q, rfl⟩ := Int.eq_ofNat_of_zero_le r1.1
    have p1 : F__law_part [.list (ns.map .int), .int i, .int (26 + (j : Int)), .int 6] = some (.int (q : Int)) := p1
    obtain ⟨c, c1, hc⟩ := ix_in (z := "01-/5 ") (q := q) (by decide +kernel) (by decide +kernel) (Nat.lt_of_lt_of_eq (show q < 6 by omega) (by decide +kernel))
    exact ⟨[some (.d (.int (j : Int))), some (.d (.list (ns.map .int))), some (.d (.int i))], ⟨#[c]⟩, rfl, rfl, by simp only [EV, reduceIte, Nat.reduceAdd, Nat.reduceLT, Nat.reduceLeDiff, Nat.reduceEqDiff, Int.reduceEq, Int.reduceLT, Int.reduceLE, p1, hc], one_in c1, rfl⟩)
  have J := jn_in ht
  refine ⟨jn ts, asc_of J.1 (by rw [J.2]; omega), fun a b c d e' f g => ?_⟩
  have j := join_of (ps := ts) (fun p hp => by rw [(ht p hp).2]; decide) (by omega)
  have ca : ∀ a b c d e f g : Option U, capD 1 [0, 1] [some (.d (.list (ns.map .int))), some (.d (.int i)), a, b, c, d, e, f, g] = [none, some (.d (.list (ns.map .int))), some (.d (.int i))] := fun _ _ _ _ _ _ _ => rfl
  simp only [EV, reduceIte, Nat.reduceAdd, Nat.reduceLT, Nat.reduceLeDiff, Nat.reduceEqDiff, Int.reduceEq, Int.reduceLT, Int.reduceLE, p0, rr, ca, e, j, show (rngD 0 s).length ≤ 100000 by omega]
theorem txt_sh {n : Nat} (h : n < 10 ^ 10) : sh (txt n) ∧ (txt n).length ≤ 10 := by
  have l : (txt n).length ≤ 10 := by
    rw [txt_len]
    exact (Nat.length_toDigits_le_iff (by decide) (by decide)).mpr h
  exact ⟨⟨txt_in n, by omega⟩, l⟩
theorem two_sh {n m : Nat} {k : Nat} (hn : n < 10 ^ 10) (hm : m < 10 ^ 10) (hk : k < 128) : sh (txt n ++ ⟨#[k]⟩ ++ txt m) ∧ gAddS (.str (txt n)) (.str ⟨#[k]⟩) = some (.str (txt n ++ ⟨#[k]⟩)) ∧ gAddS (.str (txt n ++ ⟨#[k]⟩)) (.str (txt m)) = some (.str (txt n ++ ⟨#[k]⟩ ++ txt m)) := by
  have a := (txt_sh hn).2
  have b := (txt_sh hm).2
  have o : (⟨#[k]⟩ : Str).length = 1 := rfl
  refine ⟨⟨app_in (app_in (txt_in n) (one_in hk)) (txt_in m), ?_⟩, add_s (by omega) (by omega), add_s ?_ (by omega)⟩
  · rw [XW.len_app, XW.len_app]; omega
  · rw [XW.len_app]; omega
theorem inner {ns : List Int} {i : Int} (h0 : 0 ≤ i) (ts : List Str) (h : ∀ t ∈ ts, sh t) (a b c x d e f : Option U) : ∃ x', forD (gNl 5) (sIf (D3.tOr (D3.tNot (tBool (dCall F__law_asked (dCons (dVar 5) (dNil))))) (D3.tNot (tBool (dCall F__law_asked (dCons (dCall F__law_spoilt (dCons (dVar 0) (dCons (dVar 1) (dCons (dVar 5) (dNil))))) (dNil)))))) (sRet (dC (.bool false))) (sNil)) (ts.map PyData.str) [some (.d (.list (ns.map .int))), some (.d (.int i)), a, b, c, x, d, e, f] = some (.nx [some (.d (.list (ns.map .int))), some (.d (.int i)), a, b, c, x', d, e, f]) := by
  obtain ⟨δ', e1, x', rfl⟩ := for_inv (g := (gNl 5)) (b := (sIf (D3.tOr (D3.tNot (tBool (dCall F__law_asked (dCons (dVar 5) (dNil))))) (D3.tNot (tBool (dCall F__law_asked (dCons (dCall F__law_spoilt (dCons (dVar 0) (dCons (dVar 1) (dCons (dVar 5) (dNil))))) (dNil)))))) (sRet (dC (.bool false))) (sNil))) (fun _ δ => ∃ x, δ = [some (.d (.list (ns.map .int))), some (.d (.int i)), a, b, c, x, d, e, f]) (ts.map PyData.str) _ ⟨x, rfl⟩ (by
    rintro j w δ hd ⟨x, rfl⟩
    obtain ⟨z, hz, rfl⟩ := List.mem_map.mp (List.mem_of_getElem? hd)
    have hz := h z hz
    obtain ⟨y, hy, sp⟩ := spoilt (ns := ns) h0 hz
    have a1 := asked_gen (sh_asc hz)
    have a2 := asked_gen hy
    have eb : (sIf (D3.tOr (D3.tNot (tBool (dCall F__law_asked (dCons (dVar 5) (dNil))))) (D3.tNot (tBool (dCall F__law_asked (dCons (dCall F__law_spoilt (dCons (dVar 0) (dCons (dVar 1) (dCons (dVar 5) (dNil))))) (dNil)))))) (sRet (dC (.bool false))) (sNil)) [some (.d (.list (ns.map .int))), some (.d (.int i)), a, b, c, some (.d (.str z)), d, e, f] = some (.nx [some (.d (.list (ns.map .int))), some (.d (.int i)), a, b, c, some (.d (.str z)), d, e, f]) := by
      simp only [EV, reduceIte, Nat.reduceAdd, Nat.reduceLT, Nat.reduceLeDiff, Nat.reduceEqDiff, Int.reduceEq, Int.reduceLT, Int.reduceLE, a1, sp, a2, Bool.not_true]
    exact ⟨_, _, rfl, .inl eb, _, rfl⟩)
  exact ⟨x', e1⟩
theorem outer {ns : List Int} {i : Int} (h0 : 0 ≤ i) (a b c d e f g : Option U) : ∃ a' b' c' d' e', (sSeq (sSetl 2 (dCall F__law_figures (dCons (dVar 0) (dCons (dVar 1) (dCons (dC (.int 0)) (dNil)))))) (sSeq (sSetl 3 (dCall F__law_figures (dCons (dVar 0) (dCons (dVar 1) (dCons (dC (.int 12)) (dNil)))))) (sSeq (sSetl 4 (dOp gAddS (dOp gAddS (dCall gStr (dCons (dCall F__law_part (dCons (dVar 0) (dCons (dVar 1) (dCons (dC (.int 24)) (dCons (dC (.int 13)) (dNil)))))) (dNil))) (dC (.str "/"))) (dCall gStr (dCons (dCall F__law_part (dCons (dVar 0) (dCons (dVar 1) (dCons (dC (.int 25)) (dCons (dC (.int 13)) (dNil)))))) (dNil))))) (sSeq (sFor (fLst (dLst (dCons (dVar 2) (dCons (dOp gAddS (dOp gAddS (dVar 2) (dC (.str "/"))) (dVar 3)) (dCons (dOp gAddS (dOp gAddS (dVar 2) (dC (.str "-"))) (dVar 3)) (dCons (dVar 4) (dCons (dOp gAddS (dOp gAddS (dVar 2) (dC (.str "-"))) (dVar 2)) (dNil)))))))) (gNl 5) (sIf (D3.tOr (D3.tNot (tBool (dCall F__law_asked (dCons (dVar 5) (dNil))))) (D3.tNot (tBool (dCall F__law_asked (dCons (dCall F__law_spoilt (dCons (dVar 0) (dCons (dVar 1) (dCons (dVar 5) (dNil))))) (dNil)))))) (sRet (dC (.bool false))) (sNil))) (sSeq (sSetl 6 (dOp gJoin (dC (.str "")) (dComp (fRng1 (dCons (dCall F__law_part (dCons (dVar 0) (dCons (dVar 1) (dCons (dC (.int 32)) (dCons (dC (.int 6)) (dNil)))))) (dNil))) (gNl 0) (D3.tYes) (dOp gIxS (dC (.str "01-/5 ")) (dCall F__law_part (dCons (dVar 1) (dCons (dVar 2) (dCons (dOp gAdd (dC (.int 26)) (dVar 0)) (dCons (dC (.int 6)) (dNil))))))) 1 [0, 1]))) (sIf (D3.tOr (D3.tNot (tBool (dCall F__law_asked (dCons (dVar 6) (dNil))))) (D3.tNot (tBool (dCall F__law_shown (dCons (dVar 0) (dCons (dVar 1) (dNil))))))) (sRet (dC (.bool false))) (sNil))))))) [some (.d (.list (ns.map .int))), some (.d (.int i)), a, b, c, d, e, f, g] = some (.nx [some (.d (.list (ns.map .int))), some (.d (.int i)), a', b', c', d', e', f, g]) := by
  obtain ⟨n, hn, f1⟩ := figs (ns := ns) (k := 0) h0 (by decide) (by decide)
  obtain ⟨m, hm, f2⟩ := figs (ns := ns) (k := 12) h0 (by decide) (by decide)
  have p1 := part_spec (ns := ns) (i := i) (k := 24) (m := 13) h0 (by decide) (by decide) (by decide)
  have p2 := part_spec (ns := ns) (i := i) (k := 25) (m := 13) h0 (by decide) (by decide) (by decide)
  have r1 := partF_range ns i 24 (m := 13) (by decide)
  have r2 := partF_range ns i 25 (m := 13) (by decide)
  generalize partF ns i 24 13 = q at *
  generalize partF ns i 25 13 = r at *
  obtain ⟨q, rfl⟩ := Int.eq_ofNat_of_zero_le r1.1
  obtain ⟨r, rfl⟩ := Int.eq_ofNat_of_zero_le r2.1
  have p1 : F__law_part [.list (ns.map .int), .int i, .int 24, .int 13] = some (.int (q : Int)) := p1
  have p2 : F__law_part [.list (ns.map .int), .int i, .int 25, .int 13] = some (.int (r : Int)) := p2
  have hq : q < 10 ^ 10 := by omega
  have hr : r < 10 ^ 10 := by omega
  have st : ∀ {n : Nat}, n < 10 ^ 10 → gStr [.int (n : Int)] = some (.str (txt n)) := fun h => str_n (Nat.lt_of_lt_of_le h (by decide +kernel))
  have sq := st hq
  have sr := st hr
  obtain ⟨t1, a1, b1⟩ := two_sh hn hm (show 47 < 128 by decide)
  obtain ⟨t2, a2, b2⟩ := two_sh hn hm (show 45 < 128 by decide)
  obtain ⟨t3, a3, b3⟩ := two_sh hq hr (show 47 < 128 by decide)
  obtain ⟨t4, a4, b4⟩ := two_sh hn hn (show 45 < 128 by decide)
  obtain ⟨y, hy, fw⟩ := few (ns := ns) h0
  obtain ⟨x', il⟩ := inner (ns := ns) h0 [txt n, txt n ++ ⟨#[47]⟩ ++ txt m, txt n ++ ⟨#[45]⟩ ++ txt m, txt q ++ ⟨#[47]⟩ ++ txt r, txt n ++ ⟨#[45]⟩ ++ txt n] (fun t ht => by
    simp only [List.mem_cons, List.not_mem_nil, or_false] at ht
    rcases ht with rfl | rfl | rfl | rfl | rfl
    · exact (txt_sh hn).1
    · exact t1
    · exact t2
    · exact t3
    · exact t4) (some (.d (.str (txt n)))) (some (.d (.str (txt m)))) (some (.d (.str (txt q ++ ⟨#[47]⟩ ++ txt r)))) d e f g
  have il : forD (gNl 5) (sIf (D3.tOr (D3.tNot (tBool (dCall F__law_asked (dCons (dVar 5) (dNil))))) (D3.tNot (tBool (dCall F__law_asked (dCons (dCall F__law_spoilt (dCons (dVar 0) (dCons (dVar 1) (dCons (dVar 5) (dNil))))) (dNil)))))) (sRet (dC (.bool false))) (sNil)) [.str (txt n), .str (txt n ++ ⟨#[47]⟩ ++ txt m), .str (txt n ++ ⟨#[45]⟩ ++ txt m), .str (txt q ++ ⟨#[47]⟩ ++ txt r), .str (txt n ++ ⟨#[45]⟩ ++ txt n)] _ = _ := il
  have as := asked_gen hy
  have ls := lshown (ns := ns) h0
  refine ⟨some (.d (.str (txt n))), some (.d (.str (txt m))), some (.d (.str (txt q ++ ⟨#[47]⟩ ++ txt r))), x', some (.d (.str y)), ?_⟩
  rw [sl_eq, da_eq]
  have fw := fw (some (.d (.str (txt n)))) (some (.d (.str (txt m)))) (some (.d (.str (txt q ++ ⟨#[47]⟩ ++ txt r)))) x' e f g
  simp only [fw, EV, reduceIte, Nat.reduceAdd, Nat.reduceLT, Nat.reduceLeDiff, Nat.reduceEqDiff, f1, f2, p1, p2, sq, sr, a1, b1, a2, b2, a3, b3, b4, il, Com.sz (show 5 ≤ 1000000 by decide), as, ls, Bool.not_true, List.length_cons, List.length_nil]
theorem law_true (ns : List Int) (hn : ns.length ≤ 63) : F_law [.list (ns.map .int)] = some (.bool true) := by
  generalize hN : (if (if (ns.length : Int) < 20 then (ns.length : Int) else 20) > 3 then (if (ns.length : Int) < 20 then (ns.length : Int) else 20) else 3) = N
  have hN1 : 0 ≤ N ∧ N ≤ 20 := by rw [← hN]; split <;> split <;> omega
  have rr : qRng1 (some [.int N]) = some (rngD 0 N) := rng1 (by omega) (by omega)
  obtain ⟨δ', e, a, b, c, d, e', f, rfl⟩ := for_inv (g := (gNl 1)) (b := (sSeq (sSetl 2 (dCall F__law_figures (dCons (dVar 0) (dCons (dVar 1) (dCons (dC (.int 0)) (dNil)))))) (sSeq (sSetl 3 (dCall F__law_figures (dCons (dVar 0) (dCons (dVar 1) (dCons (dC (.int 12)) (dNil)))))) (sSeq (sSetl 4 (dOp gAddS (dOp gAddS (dCall gStr (dCons (dCall F__law_part (dCons (dVar 0) (dCons (dVar 1) (dCons (dC (.int 24)) (dCons (dC (.int 13)) (dNil)))))) (dNil))) (dC (.str "/"))) (dCall gStr (dCons (dCall F__law_part (dCons (dVar 0) (dCons (dVar 1) (dCons (dC (.int 25)) (dCons (dC (.int 13)) (dNil)))))) (dNil))))) (sSeq (sFor (fLst (dLst (dCons (dVar 2) (dCons (dOp gAddS (dOp gAddS (dVar 2) (dC (.str "/"))) (dVar 3)) (dCons (dOp gAddS (dOp gAddS (dVar 2) (dC (.str "-"))) (dVar 3)) (dCons (dVar 4) (dCons (dOp gAddS (dOp gAddS (dVar 2) (dC (.str "-"))) (dVar 2)) (dNil)))))))) (gNl 5) (sIf (D3.tOr (D3.tNot (tBool (dCall F__law_asked (dCons (dVar 5) (dNil))))) (D3.tNot (tBool (dCall F__law_asked (dCons (dCall F__law_spoilt (dCons (dVar 0) (dCons (dVar 1) (dCons (dVar 5) (dNil))))) (dNil)))))) (sRet (dC (.bool false))) (sNil))) (sSeq (sSetl 6 (dOp gJoin (dC (.str "")) (dComp (fRng1 (dCons (dCall F__law_part (dCons (dVar 0) (dCons (dVar 1) (dCons (dC (.int 32)) (dCons (dC (.int 6)) (dNil)))))) (dNil))) (gNl 0) (D3.tYes) (dOp gIxS (dC (.str "01-/5 ")) (dCall F__law_part (dCons (dVar 1) (dCons (dVar 2) (dCons (dOp gAdd (dC (.int 26)) (dVar 0)) (dCons (dC (.int 6)) (dNil))))))) 1 [0, 1]))) (sIf (D3.tOr (D3.tNot (tBool (dCall F__law_asked (dCons (dVar 6) (dNil))))) (D3.tNot (tBool (dCall F__law_shown (dCons (dVar 0) (dCons (dVar 1) (dNil))))))) (sRet (dC (.bool false))) (sNil))))))))
    (fun _ δ => ∃ a b c d e f : Option U, δ = [some (.d (.list (ns.map .int))), a, b, c, d, e, f, none, none])
    (rngD 0 N) [some (.d (.list (ns.map .int))), none, none, none, none, none, none, none, none] ⟨_, _, _, _, _, _, rfl⟩ (by
    rintro j w δ hd ⟨a, b, c, d, e, f, rfl⟩
    obtain ⟨hj, rfl⟩ := rng_get hd
    obtain ⟨a', b', c', d', e', h⟩ := outer (ns := ns) (i := (j : Int)) (by omega) b c d e f none none
    exact ⟨_, _, rfl, .inl h, _, _, _, _, _, _, rfl⟩)
  have p := part_spec (ns := ns) (i := 0) (k := 33) (m := 7) (by decide) (by decide) (by decide) (by decide)
  have r := partF_range ns 0 33 (m := 7) (by decide)
  generalize partF ns 0 33 7 = q at *
  obtain ⟨q, rfl⟩ := Int.eq_ofNat_of_zero_le r.1
  have p : F__law_part [.list (ns.map .int), .int 0, .int 33, .int 7] = some (.int (q : Int)) := p
  have o : ∃ w, gIx (.list [.none, .int 5, .bool true, .tuple [.int 1, .int 2], .list [.str "1"], .dict [], .tuple [.str "1", .str "2"]]) (.int (q : Int)) = some w ∧ D3.isT "str" (tyD w) = false := by
    have : q < 7 := by omega
    match q, this with
    | 0, _ => exact ⟨_, rfl, by decide⟩
    | 1, _ => exact ⟨_, rfl, by decide⟩
    | 2, _ => exact ⟨_, rfl, by decide⟩
    | 3, _ => exact ⟨_, rfl, by decide⟩
    | 4, _ => exact ⟨_, rfl, by decide⟩
    | 5, _ => exact ⟨_, rfl, by decide⟩
    | 6, _ => exact ⟨_, rfl, by decide⟩
  obtain ⟨w, ow, os⟩ := o
  obtain ⟨o0, o1, o2⟩ := odd_read os
  have nn : gNe rfT rfT = some (.bool false) := ne_none (ly_le (ly_tup (n := 2) (lys_cons (ly_str ⟨by decide +kernel, by decide +kernel⟩) (lys_cons ⟨rfl, by decide⟩ lys_nil))) (by decide))
  unfold rfT at o0 o1 o2 nn
  have r3 : qRng1 (some [.int 3]) = some [.int 0, .int 1, .int 2] := rng1 (k := 3) (by decide) (by decide)
  have nx : ∀ {g : FG} {b : FS} {d : D} {r : List D} {δ δ1 δ' : DS}, g d δ = some δ1 → b δ1 = some (.nx δ') → forD g b (d :: r) δ = forD g b r δ' := fun h1 h2 => by
    rw [forD, h1, Option.bind_some, h2]
    rfl
  have l3 : forD (gNl 8) (sIf (tBool (dOp gNe (dCall F__law_read (dCons (dVar 8) (dCons (dVar 7) (dNil)))) (dTup (dCons (dC (.str "refused")) (dCons (dC (.bool true)) (dNil)))))) (sRet (dC (.bool false))) (sNil)) [.int 0, .int 1, .int 2] [some (.d (.list (ns.map .int))), a, b, c, d, e', f, some (.d w), none] = some (.nx [some (.d (.list (ns.map .int))), a, b, c, d, e', f, some (.d w), some (.d (.int 2))]) := by
    have t2 : 2 ≤ 1000000 := by decide
    have e0 : (sIf (tBool (dOp gNe (dCall F__law_read (dCons (dVar 8) (dCons (dVar 7) (dNil)))) (dTup (dCons (dC (.str "refused")) (dCons (dC (.bool true)) (dNil)))))) (sRet (dC (.bool false))) (sNil)) [some (.d (.list (ns.map .int))), a, b, c, d, e', f, some (.d w), some (.d (.int 0))] = some (.nx [some (.d (.list (ns.map .int))), a, b, c, d, e', f, some (.d w), some (.d (.int 0))]) := by simp only [EV, reduceIte, Nat.reduceAdd, Nat.reduceLT, Nat.reduceLeDiff, Nat.reduceEqDiff, Int.reduceEq, Int.reduceLT, Int.reduceLE, o0, nn, Com.sz t2]
    have e1 : (sIf (tBool (dOp gNe (dCall F__law_read (dCons (dVar 8) (dCons (dVar 7) (dNil)))) (dTup (dCons (dC (.str "refused")) (dCons (dC (.bool true)) (dNil)))))) (sRet (dC (.bool false))) (sNil)) [some (.d (.list (ns.map .int))), a, b, c, d, e', f, some (.d w), some (.d (.int 1))] = some (.nx [some (.d (.list (ns.map .int))), a, b, c, d, e', f, some (.d w), some (.d (.int 1))]) := by simp only [EV, reduceIte, Nat.reduceAdd, Nat.reduceLT, Nat.reduceLeDiff, Nat.reduceEqDiff, Int.reduceEq, Int.reduceLT, Int.reduceLE, o1, nn, Com.sz t2]
    have e2 : (sIf (tBool (dOp gNe (dCall F__law_read (dCons (dVar 8) (dCons (dVar 7) (dNil)))) (dTup (dCons (dC (.str "refused")) (dCons (dC (.bool true)) (dNil)))))) (sRet (dC (.bool false))) (sNil)) [some (.d (.list (ns.map .int))), a, b, c, d, e', f, some (.d w), some (.d (.int 2))] = some (.nx [some (.d (.list (ns.map .int))), a, b, c, d, e', f, some (.d w), some (.d (.int 2))]) := by simp only [EV, reduceIte, Nat.reduceAdd, Nat.reduceLT, Nat.reduceLeDiff, Nat.reduceEqDiff, Int.reduceEq, Int.reduceLT, Int.reduceLE, o2, nn, Com.sz t2]
    exact (nx rfl e0).trans ((nx rfl e1).trans ((nx rfl e2).trans rfl))
  have z0 := asked_gen (z := "") ⟨by decide +kernel, by decide +kernel⟩
  have z1 := asked_gen (z := "0") ⟨by decide +kernel, by decide +kernel⟩
  have z2 := asked_gen (z := "1234567890") ⟨by decide +kernel, by decide +kernel⟩
  have z3 := asked_gen (z := "12345678901") ⟨by decide +kernel, by decide +kernel⟩
  unfold F_law
  simp only [EV, reduceIte, Nat.reduceAdd, Nat.reduceLT, Nat.reduceLeDiff, Nat.reduceEqDiff, Int.reduceEq, Int.reduceLT, Int.reduceLE, List.length_map, hN, rr, e, p, ow, r3, l3, z0, z1, z2, z3, Com.sz (show 7 ≤ 1000000 by decide), Com.sz (show 2 ≤ 1000000 by decide), Com.sz (show 1 ≤ 1000000 by decide), List.length_cons, List.length_nil]
end K91
namespace K91
open PySem PySem.Spec PyProof.Rows L2 My D3 XC
def top (i : Nat) : Stmt := PySem.Challenge.pw_nightbook_k91_texts_read.main.body.getD i (.Pass ⟨0, 0, 0, 0⟩)
section
seal PE PT PW PA PS PSs PG PGs PI PO PTs
variable {P : Program} {w : World} {K : PySem.W.Frag} {mg : Str → Option Value} {base : Heap} {n : Nat} {fld : Addr → Str}
theorem ok_is_whole (D : Dg K mg "is_whole" (top 7) ["thing"]) (B : Bl mg) : Has P w K mg base (n + 1) "is_whole" ["thing"] (spD K F_is_whole) := by
  have sc : FnScope ["thing"] ["thing"] (defScope (top 7)) := fsc
  exact dg_ok (fl := [.A]) D sc (by decide) (by decide) fun f cdv A outer s H E hr => dss_one (ds_ret (c_FC_R (de_and (c_FC_P (de_isi (T := "int") (by decide) (vP 0) (by rfl) B.isinstance_ (by rfl) B.int_ PyProof.Rows.boot_int)) (de_one (de_not (c_FC_P (de_isi (T := "bool") (by decide) (vP 0) (by rfl) B.isinstance_ (by rfl) B.bool_ PyProof.Rows.boot_bool)))))))
theorem ok_all_whole (D : Dg K mg "all_whole" (top 8) ["things"]) (B : Bl mg) (his_whole : Has P w K mg base n "is_whole" ["thing"] (spD K F_is_whole)) : Has P w K mg base (n + 1) "all_whole" ["things"] (spD K F_all_whole) := by
  have sc : FnScope ["things"] ["things"] (defScope (top 8)) := fsc
  exact dg_ok (fl := [.A]) D sc (by decide) (by decide) fun f cdv A outer s H E hr => dss_one (ds_ret (c_FC_R (de_blt (call_allL rfl) b_all (by rfl) B.all_ (show bootBuiltins "all" = some (.builtin "all") by decide +kernel) (dq (c_FC_P (de_comp (L := []) (fl' := [.A]) rfl ["thing"] [] [] (di_seq (vB 0)) (fun _ _ _ _ _ => gN' (i := 0) (show (["thing"] : List Str).Nodup by decide +kernel)) (fun _ _ _ _ _ => pts_yes) (fun _ _ _ _ _ => de_call his_whole hr (dq (vP 0) dz)))) dz))))
theorem ok_is_tuple_of (D : Dg K mg "is_tuple_of" (top 9) ["thing", "many"]) (B : Bl mg) (hall_whole : Has P w K mg base n "all_whole" ["things"] (spD K F_all_whole)) : Has P w K mg base (n + 1) "is_tuple_of" ["thing", "many"] (spD K F_is_tuple_of) := by
  have sc : FnScope ["thing", "many"] ["thing", "many"] (defScope (top 9)) := fsc
  exact dg_ok (fl := [.A, .A]) D sc (by decide) (by decide) fun f cdv A outer s H E hr => dss_one (ds_ret (c_C_R (de_and (c_FC_P (de_isi (T := "tuple") (by decide) (vP 0) (by rfl) B.isinstance_ (by rfl) B.tuple_ PyProof.Rows.boot_tuple)) (de_and (c_FC_P (de_cmp (op_eqD hr.units) b_eq (c_FC_P (de_blt call_len_seq b_len (by rfl) B.len_ PySem.boot_len (dq (vP 0) dz))) (vP 1) (nomark _))) (de_one (de_call hall_whole hr (dq (vP 0) dz)))))))
theorem ok_is_pair (D : Dg K mg "is_pair" (top 10) ["thing"]) (B : Bl mg) (his_tuple_of : Has P w K mg base n "is_tuple_of" ["thing", "many"] (spD K F_is_tuple_of)) : Has P w K mg base (n + 1) "is_pair" ["thing"] (spD K F_is_pair) := by
  have sc : FnScope ["thing"] ["thing"] (defScope (top 10)) := fsc
  exact dg_ok (fl := [.A]) D sc (by decide) (by decide) fun f cdv A outer s H E hr => dss_one (ds_ret (c_C_R (de_call his_tuple_of hr (dq (vP 0) (dq iP dz)))))
theorem ok_greatest_divisor (D : Dg K mg "greatest_divisor" (top 12) ["one", "other"]) (B : Bl mg) : Has P w K mg base (n + 1) "greatest_divisor" ["one", "other"] (spD K F_greatest_divisor) := by
  have sc : FnScope ["one", "other", "rest"] ["one", "other"] (defScope (top 12)) := fsc
  exact dg_ok (fl := [.A, .A, .A]) D sc (by decide) (by decide) fun f cdv A outer s H E hr => dss_cons (ds_while PassesOwn.never (dt_cmp (op_neD hr.units) b_ne (vP 1) iP (nomark _)) (dss_cons (sA (i := 2) sc.nd (c_FC_A (de_op op_modN b_mod (vP 0) (vP 1))))
    (dss_cons (sA (i := 0) sc.nd (vA 1))
    (dss_one (sA (i := 1) sc.nd (vA 2))))))
    (dss_one (ds_ret (c_FC_R (c_flat (vP 0)))))
theorem ok_is_ratio (D : Dg K mg "is_ratio" (top 13) ["thing"]) (B : Bl mg) (his_pair : Has P w K mg base n "is_pair" ["thing"] (spD K F_is_pair)) (hgreatest_divisor : Has P w K mg base n "greatest_divisor" ["one", "other"] (spD K F_greatest_divisor)) : Has P w K mg base (n + 1) "is_ratio" ["thing"] (spD K F_is_ratio) := by
  have sc : FnScope ["thing"] ["thing"] (defScope (top 13)) := fsc
  exact dg_ok (fl := [.A]) D sc (by decide) (by decide) fun f cdv A outer s H E hr => dss_one (ds_ret (c_FC_R (de_and (c_C_P (de_call his_pair hr (dq (vP 0) dz))) (de_and (c_FC_P (de_cmp op_ge b_ge (c_A_P (dx (vB 0) iP)) iP (nomark _))) (de_one (de_cmp (op_eqD hr.units) b_eq (c_C_P (de_call hgreatest_divisor hr (dq (c_FC_P (de_blt call_abs b_abs (by rfl) B.abs_ PyProof.Rows.boot_abs (dq (c_A_P (dx (vB 0) iP)) dz))) (dq (c_A_P (dx (vB 0) iP)) dz)))) iP (nomark _)))))))
theorem ok_is_number_text (D : Dg K mg "is_number_text" (top 19) ["thing"]) (B : Bl mg) (gFIGURES : ∃ t, mg "FIGURES" = some (.str "0123456789" t)) (gMOST_FIGURES : ∃ t, mg "MOST_FIGURES" = some (.int 10 t)) : Has P w K mg base (n + 1) "is_number_text" ["thing"] (spD K F_is_number_text) := by
  have sc : FnScope ["thing"] ["thing"] (defScope (top 19)) := fsc
  exact dg_ok (fl := [.A]) D sc (by decide) (by decide) fun f cdv A outer s H E hr => dss_cons (ds_if (dt_w (dw_or (dt_not (dt_val (c_FC_P (de_isi (T := "str") (by decide) (vP 0) (by rfl) B.isinstance_ (by rfl) B.str_ PyProof.Rows.boot_str)))) (dw_or1 (dt_not (dt_chain op_le op_le b_le b_le iP (c_FC_P (de_blt call_len_str XW.b_lenS (by rfl) B.len_ PySem.boot_len (dq (vP 0) dz))) (c_FC_P (de_glob gMOST_FIGURES))))))) (dss_one (ds_ret (c_FC_R (de_bl)))) (dss_nil))
    (dss_one (ds_ret (c_FC_R (de_and (c_FC_P (de_blt (call_allL rfl) b_all (by rfl) B.all_ (show bootBuiltins "all" = some (.builtin "all") by decide +kernel) (dq (c_FC_P (de_comp (L := []) (fl' := [.A]) rfl ["sign"] [] [] (XW.di_str (vP 0)) (fun _ _ _ _ _ => gN' (i := 0) (show (["sign"] : List Str).Nodup by decide +kernel)) (fun _ _ _ _ _ => pts_yes) (fun _ _ _ _ _ => c_FC_C (de_cmp op_in_str XW.b_inS (vP 0) (c_FC_P (XW.de_globS gFIGURES)) (by with_unfolding_all rfl))))) dz))) (de_one (de_or (c_FC_P (de_cmp (op_neD hr.units) b_ne (c_FC_P (XW.de_ixS (vP 0) iP (fun _ _ => rfl))) (c_FC_P (de_str)) (nomark _))) (de_one (de_cmp (op_eqD hr.units) b_eq (vP 0) (c_FC_P (de_str)) (nomark _)))))))))
theorem okX_read_number (D : Dg K mg "read_number" (top 20) ["text"]) (B : Bl mg) (his_number_text : Has P w K mg base (n + 2) "is_number_text" ["thing"] (spD K F_is_number_text)) (zNoText : ExcG K mg fld "NoText" "text" "InnError") : HasX P w K mg base fld (n + 3) "read_number" ["text"] (spX K mg X_read_number) [] := by
  have sc : FnScope ["text"] ["text"] (defScope (top 20)) := fsc
  exact dgX_ok (fl := [.A]) D sc (by decide) (by decide) fun f cdv A outer s H E hr => dxs_cons (dx_if (dt_not (dt_val (c_C_P (de_call his_number_text hr (dq (vP 0) dz))))) (dxs_one (dx_raise zNoText.fly hr (c_FC_P (de_str)))) (dxs_of (dss_nil)))
    (dxs_one (dx_of (ds_ret (c_FC_R (XW.de_intS (dq (vP 0) dz) (by rfl) B.int_)))))
theorem okX_read_numbers (D : Dg K mg "read_numbers" (top 21) ["text", "between"]) (B : Bl mg) (xread_number : HasX P w K mg base fld (n + 2) "read_number" ["text"] (spX K mg X_read_number) []) (zNoText : ExcG K mg fld "NoText" "text" "InnError") : HasX P w K mg base fld (n + 3) "read_numbers" ["text", "between"] (spX K mg X_read_numbers) [] := by
  have sc : FnScope ["text", "between"] ["text", "between"] (defScope (top 21)) := fsc
  exact dgX_ok (fl := [.A, .A]) D sc (by decide) (by decide) fun f cdv A outer s H E hr => dxs_cons (dx_if (dt_not (dt_val (c_FC_P (de_isi (T := "str") (by decide) (vP 0) (by rfl) B.isinstance_ (by rfl) B.str_ PyProof.Rows.boot_str)))) (dxs_one (dx_raise zNoText.fly hr (c_FC_P (de_str)))) (dxs_of (dss_nil)))
    (dxs_one (dx_retC (L := []) (fl' := [.A]) xread_number hr ["part"] (di_list (c_A_B (c_FC_A (XW.de_mt1 PySem.F.slot_str_split PySem.F.type_str_split XW.mt_split XW.m_split XW.s_split (vP 0) (vP 1))))) (fun _ _ _ _ _ => gN' (i := 0) (show (["part"] : List Str).Nodup by decide +kernel)) (fun _ _ _ _ _ => dq (vP 0) dz)))
theorem okX_read_ratio (D : Dg K mg "read_ratio" (top 22) ["text"]) (B : Bl mg) (his_ratio : Has P w K mg base (n + 2) "is_ratio" ["thing"] (spD K F_is_ratio)) (xread_numbers : HasX P w K mg base fld (n + 2) "read_numbers" ["text", "between"] (spX K mg X_read_numbers) []) (zNoText : ExcG K mg fld "NoText" "text" "InnError") : HasX P w K mg base fld (n + 3) "read_ratio" ["text"] (spX K mg X_read_ratio) [] := by
  have sc : FnScope ["text", "numbers", "told"] ["text"] (defScope (top 22)) := fsc
  exact dgX_ok (fl := [.A, .O, .A]) D sc (by decide) (by decide) fun f cdv A outer s H E hr => dxs_cons (dx_setE (j := 1) xread_numbers hr (dq (vP 0) (dq (c_FC_P (de_str)) dz)) rfl sc.nd rfl (Or.inl rfl))
    (dxs_cons (dx_of (ds_if (dt_cmp (op_eqD hr.units) b_eq (c_FC_P (de_blt call_len_seq b_len (by rfl) B.len_ PySem.boot_len (dq (c_B_P (de_var 1)) dz))) iP (nomark _)) (dss_one (ds_ret (de_tup rfl (dq (c_FC_R (c_flat (c_A_P (dx (de_var 1) iP)))) (dq (c_FC_R (de_int)) dz))))) (dss_nil)))
    (dxs_cons (dx_of (sA (i := 2) sc.nd (de_tupL (de_var 1) (by rfl) B.tuple_)))
    (dxs_cons (dx_if (dt_w (dw_or (dt_not (dt_val (c_C_P (de_call his_ratio hr (dq (vP 2) dz))))) (dw_or1 (dt_cmp op_lt b_lt (c_A_P (dx (vB 2) iP)) iP (nomark _))))) (dxs_one (dx_raise zNoText.fly hr (c_FC_P (de_str)))) (dxs_of (dss_nil)))
    (dxs_one (dx_of (ds_ret (c_FC_R (c_flat (vP 2)))))))))
theorem okX_read_nights (D : Dg K mg "read_nights" (top 23) ["text"]) (B : Bl mg) (xread_numbers : HasX P w K mg base fld (n + 2) "read_numbers" ["text", "between"] (spX K mg X_read_numbers) []) (zNoText : ExcG K mg fld "NoText" "text" "InnError") : HasX P w K mg base fld (n + 3) "read_nights" ["text"] (spX K mg X_read_nights) [] := by
  have sc : FnScope ["text", "numbers"] ["text"] (defScope (top 23)) := fsc
  exact dgX_ok (fl := [.A, .O]) D sc (by decide) (by decide) fun f cdv A outer s H E hr => dxs_cons (dx_setE (j := 1) xread_numbers hr (dq (vP 0) (dq (c_FC_P (de_str)) dz)) rfl sc.nd rfl (Or.inl rfl))
    (dxs_cons (dx_if (dt_cmp (op_neD hr.units) b_ne (c_FC_P (de_blt call_len_seq b_len (by rfl) B.len_ PySem.boot_len (dq (c_B_P (de_var 1)) dz))) iP (nomark _)) (dxs_one (dx_raise zNoText.fly hr (c_FC_P (de_str)))) (dxs_of (dss_nil)))
    (dxs_one (dx_of (ds_ret (c_FC_R (c_flat (c_A_P (de_tupL (de_var 1) (by rfl) B.tuple_))))))))
theorem ok_shown_number (D : Dg K mg "shown_number" (top 24) ["number"]) (B : Bl mg) (gPIECE : ∃ t, mg "PIECE" = some (.int 1000000000000000000 t)) (gPIECE_FIGURES : ∃ t, mg "PIECE_FIGURES" = some (.int 18 t)) : Has P w K mg base (n + 1) "shown_number" ["number"] (spD K F_shown_number) := by
  have sc : FnScope ["number", "pieces", "rest"] ["number"] (defScope (top 24)) := fsc
  exact dg_ok (fl := [.A, .O, .A]) D sc (by decide) (by decide) fun f cdv A outer s H E hr => dss_cons (ds_setO (i := 1) rfl sc.nd rfl (by first | exact Or.inl rfl | exact Or.inr rfl) (c_FC_F (de_lstC dz)))
    (dss_cons (sA (i := 2) sc.nd (vA 0))
    (dss_cons (ds_while PassesOwn.never (dt_cmp op_ge b_ge (vP 2) (c_FC_P (de_glob gPIECE)) (nomark _)) (dss_cons (ds_ins (i := 1) rfl iP (c_FC_A (XW.de_mt1 PySem.F.slot_str_zfill PySem.F.type_str_zfill XW.mt_zfill XW.m_zfill XW.s_zfill (c_FC_P (XN.de_strc (dq (c_FC_P (de_op op_modN b_mod (vP 2) (c_FC_P (de_glob gPIECE)))) dz) (by rfl) B.str_)) (c_FC_P (de_glob gPIECE_FIGURES)))) rfl)
    (dss_one (sA (i := 2) sc.nd (c_FC_A (de_op op_divG b_div (vP 2) (c_FC_P (de_glob gPIECE))))))))
    (dss_one (ds_ret (c_FC_R (de_op op_add_str XW.b_addS (c_FC_P (XN.de_strc (dq (vP 2) dz) (by rfl) B.str_)) (c_FC_P (XW.de_mt1 PySem.F.slot_str_join PySem.F.type_str_join XW.mt_join XW.m_join XW.s_join (c_FC_P (de_str)) (c_B_P (de_var 1))))))))))
theorem ok_shown_ratio (D : Dg K mg "shown_ratio" (top 25) ["ratio"]) (B : Bl mg) (hshown_number : Has P w K mg base n "shown_number" ["number"] (spD K F_shown_number)) : Has P w K mg base (n + 1) "shown_ratio" ["ratio"] (spD K F_shown_ratio) := by
  have sc : FnScope ["ratio", "top", "bottom"] ["ratio"] (defScope (top 25)) := fsc
  exact dg_ok (fl := [.A, .A, .A]) D sc (by decide) (by decide) fun f cdv A outer s H E hr => dss_cons (sA (i := 1) sc.nd (c_C_A (de_call hshown_number hr (dq (c_A_P (dx (vB 0) iP)) dz))))
    (dss_cons (ds_if (dt_cmp (op_eqD hr.units) b_eq (c_A_P (dx (vB 0) iP)) iP (nomark _)) (dss_one (ds_ret (c_FC_R (c_flat (vP 1))))) (dss_nil))
    (dss_cons (sA (i := 2) sc.nd (c_C_A (de_call hshown_number hr (dq (c_A_P (dx (vB 0) iP)) dz))))
    (dss_one (ds_ret (c_FC_R (XW.de_fmt (vP 1) (vP 2)))))))
theorem ok_shown_nights (D : Dg K mg "shown_nights" (top 26) ["nights"]) (B : Bl mg) (hshown_number : Has P w K mg base n "shown_number" ["number"] (spD K F_shown_number)) : Has P w K mg base (n + 1) "shown_nights" ["nights"] (spD K F_shown_nights) := by
  have sc : FnScope ["nights", "first", "behind"] ["nights"] (defScope (top 26)) := fsc
  exact dg_ok (fl := [.A, .A, .A]) D sc (by decide) (by decide) fun f cdv A outer s H E hr => dss_cons (sA (i := 1) sc.nd (c_C_A (de_call hshown_number hr (dq (c_A_P (dx (vB 0) iP)) dz))))
    (dss_cons (sA (i := 2) sc.nd (c_C_A (de_call hshown_number hr (dq (c_A_P (dx (vB 0) iP)) dz))))
    (dss_one (ds_ret (c_FC_R (XW.de_fmt (vP 1) (vP 2))))))
theorem ok__law_cell (D : Dg K mg "_law_cell" (top 28) ["_law_script", "_law_at"]) (B : Bl mg) : Has P w K mg base (n + 1) "_law_cell" ["_law_script", "_law_at"] (spD K F__law_cell) := by
  have sc : FnScope ["_law_script", "_law_at"] ["_law_script", "_law_at"] (defScope (top 28)) := fsc
  exact dg_ok (fl := [.A, .A]) D sc (by decide) (by decide) fun f cdv A outer s H E hr => dss_cons (ds_if (dt_cmp op_lt b_lt (vP 1) (c_FC_P (de_blt call_len_seq b_len (by rfl) B.len_ PySem.boot_len (dq (vP 0) dz))) (nomark _)) (dss_one (ds_ret (c_FC_R (de_op op_modN b_mod (c_A_P (dx (vB 0) (vP 1))) iP)))) (dss_nil))
    (dss_cons (ds_if (dt_cmp (op_eqD hr.units) b_eq (vP 0) (c_FC_P (de_lstC dz)) (nomark _)) (dss_one (ds_ret (c_FC_R (de_op op_add b_add (c_FC_P (de_op op_mulG b_mul iP (vP 1))) iP)))) (dss_nil))
    (dss_one (ds_ret (c_FC_R (de_op op_add b_add (c_FC_P (de_op op_modN b_mod (c_A_P (dx (vB 0) (c_FC_P (de_op op_modN b_mod (c_FC_P (de_op op_mulG b_mul (vP 1) iP)) (c_FC_P (de_blt call_len_seq b_len (by rfl) B.len_ PySem.boot_len (dq (vP 0) dz))))))) iP)) (c_FC_P (de_op op_mulG b_mul iP (vP 1))))))))
theorem ok__law_part (D : Dg K mg "_law_part" (top 29) ["_law_script", "_law_at", "_law_k", "_law_many"]) (B : Bl mg) (h_law_cell : Has P w K mg base n "_law_cell" ["_law_script", "_law_at"] (spD K F__law_cell)) : Has P w K mg base (n + 1) "_law_part" ["_law_script", "_law_at", "_law_k", "_law_many"] (spD K F__law_part) := by
  have sc : FnScope ["_law_script", "_law_at", "_law_k", "_law_many", "_law_number_here", "_law_j"] ["_law_script", "_law_at", "_law_k", "_law_many"] (defScope (top 29)) := fsc
  exact dg_ok (fl := [.A, .A, .A, .A, .A, .A]) D sc (by decide) (by decide) fun f cdv A outer s H E hr => dss_cons (ds_if (dt_w (dw_and (dt_cmp op_lt b_lt (vP 1) (c_FC_P (de_blt call_len_seq b_len (by rfl) B.len_ PySem.boot_len (dq (vP 0) dz))) (nomark _)) (dw_and1 (dt_cmp op_ge b_ge (c_A_P (dx (vB 0) (vP 1))) (c_FC_P (de_op op_pow b_pow iP iP)) (nomark _))))) (dss_cons (sA (i := 4) sc.nd (dx (vB 0) (vP 1)))
    (dss_cons (ds_for (L := []) PassesOwn.never rfl (di_range1 (by rfl) B.range_ (da_of (dq (vP 2) dz))) (gN' (i := 5) sc.nd) (dss_one (sA (i := 4) sc.nd (c_FC_A (de_op op_divG b_div (vP 4) iP)))))
    (dss_one (ds_if (dt_cmp op_gt b_gt (vP 4) iP (nomark _)) (dss_one (ds_ret (c_FC_R (de_op op_modN b_mod (c_FC_P (de_op op_modN b_mod (vP 4) iP)) (vP 3))))) (dss_nil))))) (dss_nil))
    (dss_cons (sA (i := 4) sc.nd (c_FC_A (de_op op_modN b_mod (c_FC_P (de_op op_mulG b_mul (c_FC_P (de_op op_add b_add (c_FC_P (de_op op_add b_add (c_C_P (de_call h_law_cell hr (dq (vP 0) (dq (vP 1) dz)))) (c_FC_P (de_op op_mulG b_mul iP (vP 1))))) iP)) (c_FC_P (de_op op_add b_add iP (c_FC_P (de_op op_mulG b_mul iP (vP 2))))))) iP)))
    (dss_cons (sA (i := 4) sc.nd (c_FC_A (de_op op_add b_add (c_FC_P (de_op op_modN b_mod (c_FC_P (de_op op_mulG b_mul (vP 4) (vP 4))) iP)) iP)))
    (dss_one (ds_ret (c_FC_R (de_op op_modN b_mod (c_FC_P (de_op op_divG b_div (c_FC_P (de_op op_modN b_mod (c_FC_P (de_op op_mulG b_mul (vP 4) (vP 4))) iP)) iP)) (vP 3)))))))
theorem ok__law_whole (D : Dg K mg "_law_whole" (top 30) ["_law_found"]) (B : Bl mg) : Has P w K mg base (n + 1) "_law_whole" ["_law_found"] (spD K F__law_whole) := by
  have sc : FnScope ["_law_found"] ["_law_found"] (defScope (top 30)) := fsc
  exact dg_ok (fl := [.A]) D sc (by decide) (by decide) fun f cdv A outer s H E hr => dss_one (ds_ret (c_FC_R (de_and (c_FC_P (de_isi (T := "int") (by decide) (vP 0) (by rfl) B.isinstance_ (by rfl) B.int_ PyProof.Rows.boot_int)) (de_one (de_not (c_FC_P (de_isi (T := "bool") (by decide) (vP 0) (by rfl) B.isinstance_ (by rfl) B.bool_ PyProof.Rows.boot_bool)))))))
theorem ok__law_number (D : Dg K mg "_law_number" (top 31) ["_law_text"]) (B : Bl mg) : Has P w K mg base (n + 1) "_law_number" ["_law_text"] (spD K F__law_number) := by
  have sc : FnScope ["_law_text", "_law_number_here", "_law_sign"] ["_law_text"] (defScope (top 31)) := fsc
  exact dg_ok (fl := [.A, .A, .A]) D sc (by decide) (by decide) fun f cdv A outer s H E hr => dss_cons (ds_if (dt_w (dw_or (dt_not (dt_chain op_le op_le b_le b_le iP (c_FC_P (de_blt call_len_str XW.b_lenS (by rfl) B.len_ PySem.boot_len (dq (vP 0) dz))) iP)) (dw_or1 (dt_w (dw_and (dt_cmp (op_eqD hr.units) b_eq (c_FC_P (XW.de_ixS (vP 0) iP (fun _ _ => rfl))) (c_FC_P (de_str)) (nomark _)) (dw_and1 (dt_cmp op_gt b_gt (c_FC_P (de_blt call_len_str XW.b_lenS (by rfl) B.len_ PySem.boot_len (dq (vP 0) dz))) iP (nomark _)))))))) (dss_one (ds_ret (c_FC_R (de_non)))) (dss_nil))
    (dss_cons (sA (i := 1) sc.nd (c_FC_A (de_int)))
    (dss_cons (ds_for (L := []) PassesOwn.never rfl (XW.di_str (vP 0)) (gN' (i := 2) sc.nd) (dss_cons (ds_if (dt_cmp op_notin_str XW.b_notinS (vP 2) (c_FC_P (de_str)) (by with_unfolding_all rfl)) (dss_one (ds_ret (c_FC_R (de_non)))) (dss_nil))
    (dss_one (sA (i := 1) sc.nd (c_FC_A (de_op op_add b_add (c_FC_P (de_op op_mulG b_mul iP (vP 1))) (c_FC_P (XW.de_mt1 PySem.F.slot_str_index PySem.F.type_str_index XW.mt_index XW.m_index XW.s_index (c_FC_P (de_str)) (vP 2)))))))))
    (dss_one (ds_ret (c_FC_R (c_flat (vP 1)))))))
theorem ok__law_divisor (D : Dg K mg "_law_divisor" (top 32) ["_law_one", "_law_other"]) (B : Bl mg) : Has P w K mg base (n + 1) "_law_divisor" ["_law_one", "_law_other"] (spD K F__law_divisor) := by
  have sc : FnScope ["_law_one", "_law_other", "_law_rest"] ["_law_one", "_law_other"] (defScope (top 32)) := fsc
  exact dg_ok (fl := [.A, .A, .A]) D sc (by decide) (by decide) fun f cdv A outer s H E hr => dss_cons (ds_while PassesOwn.never (dt_cmp op_gt b_gt (vP 1) iP (nomark _)) (dss_cons (sA (i := 2) sc.nd (c_FC_A (de_op op_modN b_mod (vP 0) (vP 1))))
    (dss_cons (sA (i := 0) sc.nd (vA 1))
    (dss_one (sA (i := 1) sc.nd (vA 2))))))
    (dss_one (ds_ret (c_FC_R (c_flat (vP 0)))))
theorem ok__law_two (D : Dg K mg "_law_two" (top 33) ["_law_text", "_law_sign"]) (B : Bl mg) (h_law_number : Has P w K mg base n "_law_number" ["_law_text"] (spD K F__law_number)) : Has P w K mg base (n + 1) "_law_two" ["_law_text", "_law_sign"] (spD K F__law_two) := by
  have sc : FnScope ["_law_text", "_law_sign", "_law_parts"] ["_law_text", "_law_sign"] (defScope (top 33)) := fsc
  exact dg_ok (fl := [.A, .A, .A]) D sc (by decide) (by decide) fun f cdv A outer s H E hr => dss_cons (ds_setCA (i := 2) (L := []) (fl' := [.A]) rfl sc.nd rfl rfl rfl ["_law_part_here"] [] [] (di_list (c_A_B (c_FC_A (XW.de_mt1 PySem.F.slot_str_split PySem.F.type_str_split XW.mt_split XW.m_split XW.s_split (vP 0) (vP 1))))) (fun _ _ _ _ _ => gN' (i := 0) (show (["_law_part_here"] : List Str).Nodup by decide +kernel)) (fun _ _ _ _ _ => pts_yes) (fun _ _ _ _ _ => de_call h_law_number hr (dq (vP 0) dz)))
    (dss_cons (ds_if (dt_w (dw_or (dt_cmp (op_neD hr.units) b_ne (c_FC_P (de_blt call_len_seq b_len (by rfl) B.len_ PySem.boot_len (dq (vP 2) dz))) iP (nomark _)) (dw_or1 (dt_cmp (op_inD hr.units) b_in (c_FC_P (de_non)) (vP 2) (by with_unfolding_all rfl))))) (dss_one (ds_ret (c_FC_R (de_non)))) (dss_nil))
    (dss_one (ds_ret (de_tup rfl (dq (c_FC_R (c_flat (c_A_P (dx (vB 2) iP)))) (dq (c_FC_R (c_flat (c_A_P (dx (vB 2) iP)))) dz))))))
theorem ok__law_due (D : Dg K mg "_law_due" (top 34) ["_law_way", "_law_text"]) (B : Bl mg) (h_law_number : Has P w K mg base n "_law_number" ["_law_text"] (spD K F__law_number)) (h_law_divisor : Has P w K mg base n "_law_divisor" ["_law_one", "_law_other"] (spD K F__law_divisor)) (h_law_two : Has P w K mg base n "_law_two" ["_law_text", "_law_sign"] (spD K F__law_two)) : Has P w K mg base (n + 1) "_law_due" ["_law_way", "_law_text"] (spD K F__law_due) := by
  have sc : FnScope ["_law_way", "_law_text", "_law_number_here", "_law_found"] ["_law_way", "_law_text"] (defScope (top 34)) := fsc
  exact dg_ok (fl := [.A, .A, .A, .A]) D sc (by decide) (by decide) fun f cdv A outer s H E hr => dss_cons (ds_if (dt_cmp (op_eqD hr.units) b_eq (vP 0) iP (nomark _)) (dss_one (ds_ret (c_C_R (de_call h_law_number hr (dq (vP 1) dz))))) (dss_nil))
    (dss_cons (ds_if (dt_cmp (op_eqD hr.units) b_eq (vP 0) iP (nomark _)) (dss_one (ds_ret (c_C_R (de_call h_law_two hr (dq (vP 1) (dq (c_FC_P (de_str)) dz)))))) (dss_nil))
    (dss_cons (ds_if (dt_cmp op_notin_str XW.b_notinS (c_FC_P (de_str)) (vP 1) (by with_unfolding_all rfl)) (dss_cons (sA (i := 2) sc.nd (c_C_A (de_call h_law_number hr (dq (vP 1) dz))))
    (dss_one (ds_ret (c_FC_R (c_flat (c_A_P (dx (c_A_B (c_F_A (de_lstA (dq (c_FC_A (de_non)) (dq (de_tup rfl (dq (vA 2) (dq (c_FC_A (de_int)) dz))) dz))))) (c_FC_P (de_intc (dq (c_FC_P (de_notN (vP 2))) dz) (by rfl) B.int_))))))))) (dss_nil))
    (dss_cons (sA (i := 3) sc.nd (c_C_A (de_call h_law_two hr (dq (vP 1) (dq (c_FC_P (de_str)) dz)))))
    (dss_cons (ds_if (dt_w (dw_or (dt_isN (vP 3)) (dw_or (dt_cmp op_lt b_lt (c_A_P (dx (vB 3) iP)) iP (nomark _)) (dw_or1 (dt_cmp (op_neD hr.units) b_ne (c_C_P (de_call h_law_divisor hr (dq (c_A_P (dx (vB 3) iP)) (dq (c_A_P (dx (vB 3) iP)) dz)))) iP (nomark _)))))) (dss_one (ds_ret (c_FC_R (de_non)))) (dss_nil))
    (dss_one (ds_ret (c_FC_R (c_flat (vP 3)))))))))
theorem ok__law_read (D : Dg K mg "_law_read" (top 35) ["_law_way", "_law_text"]) (B : Bl mg) (xread_nights : HasX P w K mg base fld n "read_nights" ["text"] (spX K mg X_read_nights) []) (xread_number : HasX P w K mg base fld n "read_number" ["text"] (spX K mg X_read_number) []) (xread_ratio : HasX P w K mg base fld n "read_ratio" ["text"] (spX K mg X_read_ratio) []) (sNoText : SuiU K mg fld "NoText" "text" "InnError" [("NoBook", false), ("NoNumber", false), ("NoRow", false), ("NoText", true)]) (vValueError : mg "ValueError" = none) : Has P w K mg base (n + 1) "_law_read" ["_law_way", "_law_text"] (spD K F__law_read) := by
  have sc : FnScope ["_law_way", "_law_text", "_law_found", "e", "_law_other"] ["_law_way", "_law_text"] (defScope (top 35)) := fsc
  exact dg_ok (fl := [.A, .A, .O, .A, .A]) D sc (by decide) (by decide) fun f cdv A outer s H E hr => dss_cons (ds_tryU (i := 3) (cs := ["NoText"]) (fS := fun c d => if c = "NoText" then sSeq (sSetl 4 (dOr (dC (.bool false)) (dNot (dC (.bool true))))) (sRet (dTup (dCons (dC (.str "refused")) (dCons (dAnd (dC (.bool true)) (dNot (dVar 4))) (dNil))))) else (fun _ => none)) (dxe_if (dt_cmp (op_eqD hr.units) b_eq (vP 0) iP (nomark _)) (dxe_asg (j := 2) (dd := []) xread_number (fun H => .nil) hr (dq (vP 1) dz) rfl rfl (Or.inl rfl) sc.nd) (dxe_if (dt_cmp (op_eqD hr.units) b_eq (vP 0) iP (nomark _)) (dxe_asg (j := 2) (dd := []) xread_ratio (fun H => .nil) hr (dq (vP 1) dz) rfl rfl (Or.inl rfl) sc.nd) (dxe_asg (j := 2) (dd := []) xread_nights (fun H => .nil) hr (dq (vP 1) dz) rfl rfl (Or.inl rfl) sc.nd))) (List.forall_mem_cons.mpr ⟨suiteU_mk (i := 3) (g := fun d => sSeq (sSetl 4 (dOr (dC (.bool false)) (dNot (dC (.bool true))))) (sRet (dTup (dCons (dC (.str "refused")) (dCons (dAnd (dC (.bool true)) (dNot (dVar 4))) (dNil)))))) true sNoText B.isinstance_ rfl (fun d => by rw [if_pos rfl]) (fun a oa xd od v d C hc hoa hod hnc S hfd => uss_cons (us_setA (j := 4) (show (3 : Nat) ≠ 4 by decide) rfl sc.nd rfl (by first | exact Or.inl rfl | exact Or.inr rfl) (u_FC_A (ue_or (ue_et (z := ⟨_, a, v, d⟩) ((suT_mk (a := a) (dx := xd) (od := od) sNoText hc hoa hod hnc B.isinstance_ rfl).is _ ["NoBook", "NoNumber", "NoRow"] _ (by repeat (first | exact trivial | refine ⟨rfl, ?_⟩)) (by repeat (first | exact List.forall_mem_nil _ | refine List.forall_mem_cons.mpr ⟨⟨_, (by first | exact List.mem_cons_self | decide), rfl, rfl, by decide⟩, ?_⟩)) (by decide) _ _ _ _)) (ue_one (ue_not (ue_et (z := ⟨_, a, v, d⟩) (S.isv vValueError rfl _ _ _ _))))))) (uss_one (us_ret (ue_tup rfl (ub_cons rfl (ue_of (c_FC_R (de_str))) (ub_cons rfl (u_FC_R (ue_and (ue_et (z := ⟨_, a, v, d⟩) (S.is ("NoText", true) (by decide) rfl (by decide) _ _ _ _)) (ue_one (ue_of (de_not (vP 4)))))) (ub_nil))))))), List.forall_mem_nil _⟩) rfl rfl sc.nd rfl)
    (dss_one (ds_ret (de_tup rfl (dq (c_FC_R (de_str)) (dq (de_varR 2 (by decide)) dz)))))
theorem ok__law_kinds (D : Dg K mg "_law_kinds" (top 36) ["_law_way", "_law_found"]) (B : Bl mg) (h_law_whole : Has P w K mg base n "_law_whole" ["_law_found"] (spD K F__law_whole)) : Has P w K mg base (n + 1) "_law_kinds" ["_law_way", "_law_found"] (spD K F__law_kinds) := by
  have sc : FnScope ["_law_way", "_law_found"] ["_law_way", "_law_found"] (defScope (top 36)) := fsc
  exact dg_ok (fl := [.A, .A]) D sc (by decide) (by decide) fun f cdv A outer s H E hr => dss_cons (ds_if (dt_cmp (op_eqD hr.units) b_eq (vP 0) iP (nomark _)) (dss_one (ds_ret (c_C_R (de_call h_law_whole hr (dq (vP 1) dz))))) (dss_nil))
    (dss_one (ds_ret (c_C_R (de_and (c_FC_P (de_isi (T := "tuple") (by decide) (vP 1) (by rfl) B.isinstance_ (by rfl) B.tuple_ PyProof.Rows.boot_tuple)) (de_and (c_FC_P (de_cmp (op_eqD hr.units) b_eq (c_FC_P (de_blt call_len_seq b_len (by rfl) B.len_ PySem.boot_len (dq (vP 1) dz))) iP (nomark _))) (de_and (c_C_P (de_call h_law_whole hr (dq (c_A_P (dx (vB 1) iP)) dz))) (de_one (de_call h_law_whole hr (dq (c_A_P (dx (vB 1) iP)) dz)))))))))
theorem ok__law_asked (D : Dg K mg "_law_asked" (top 37) ["_law_text"]) (B : Bl mg) (hshown_ratio : Has P w K mg base n "shown_ratio" ["ratio"] (spD K F_shown_ratio)) (hshown_nights : Has P w K mg base n "shown_nights" ["nights"] (spD K F_shown_nights)) (h_law_due : Has P w K mg base n "_law_due" ["_law_way", "_law_text"] (spD K F__law_due)) (h_law_read : Has P w K mg base n "_law_read" ["_law_way", "_law_text"] (spD K F__law_read)) (h_law_kinds : Has P w K mg base n "_law_kinds" ["_law_way", "_law_found"] (spD K F__law_kinds)) : Has P w K mg base (n + 1) "_law_asked" ["_law_text"] (spD K F__law_asked) := by
  have sc : FnScope ["_law_text", "_law_way", "_law_due_here", "_law_word", "_law_found"] ["_law_text"] (defScope (top 37)) := fsc
  exact dg_ok (fl := [.A, .A, .A, .A, .A]) D sc (by decide) (by decide) fun f cdv A outer s H E hr => dss_cons (ds_for (L := []) PassesOwn.never rfl (di_range1 (by rfl) B.range_ (da_of (dq iP dz))) (gN' (i := 1) sc.nd) (dss_cons (sA (i := 2) sc.nd (c_C_A (de_call h_law_due hr (dq (vP 1) (dq (vP 0) dz)))))
    (dss_cons (ds_asg (c_C_A (de_call h_law_read hr (dq (vP 1) (dq (vP 0) dz)))) (dg_tup rfl (dgs_cons (gN' (i := 3) sc.nd) (dgs_cons (gN' (i := 4) sc.nd) (dgs_nil)))))
    (dss_one (ds_if (dt_isN (vP 2)) (dss_one (ds_if (dt_w (dw_or (dt_cmp (op_neD hr.units) b_ne (vP 3) (c_FC_P (de_str)) (nomark _)) (dw_or1 (dt_not (dt_val (vP 4)))))) (dss_one (ds_ret (c_FC_R (de_bl)))) (dss_nil))) (dss_one (ds_if (dt_w (dw_or (dt_cmp (op_neD hr.units) b_ne (vP 3) (c_FC_P (de_str)) (nomark _)) (dw_or (dt_not (dt_val (c_C_P (de_call h_law_kinds hr (dq (vP 1) (dq (vP 4) dz)))))) (dw_or1 (dt_cmp (op_neD hr.units) b_ne (vP 4) (vP 2) (nomark _)))))) (dss_one (ds_ret (c_FC_R (de_bl)))) (dss_one (ds_if (dt_w (dw_or (dt_w (dw_and (dt_cmp (op_eqD hr.units) b_eq (vP 1) iP (nomark _)) (dw_and1 (dt_cmp (op_neD hr.units) b_ne (c_C_P (de_call hshown_ratio hr (dq (vP 4) dz))) (vP 0) (nomark _))))) (dw_or1 (dt_w (dw_and (dt_cmp (op_eqD hr.units) b_eq (vP 1) iP (nomark _)) (dw_and1 (dt_cmp (op_neD hr.units) b_ne (c_C_P (de_call hshown_nights hr (dq (vP 4) dz))) (vP 0) (nomark _)))))))) (dss_one (ds_ret (c_FC_R (de_bl)))) (dss_nil))))))))))
    (dss_one (ds_ret (c_FC_R (de_bl))))
theorem ok__law_figures (D : Dg K mg "_law_figures" (top 38) ["_law_script", "_law_at", "_law_k"]) (B : Bl mg) (h_law_part : Has P w K mg base n "_law_part" ["_law_script", "_law_at", "_law_k", "_law_many"] (spD K F__law_part)) : Has P w K mg base (n + 1) "_law_figures" ["_law_script", "_law_at", "_law_k"] (spD K F__law_figures) := by
  have sc : FnScope ["_law_script", "_law_at", "_law_k", "_law_size", "_law_number_here", "_law_j"] ["_law_script", "_law_at", "_law_k"] (defScope (top 38)) := fsc
  exact dg_ok (fl := [.A, .A, .A, .A, .A, .A]) D sc (by decide) (by decide) fun f cdv A outer s H E hr => dss_cons (sA (i := 3) sc.nd (c_FC_A (de_op op_add b_add iP (c_C_P (de_call h_law_part hr (dq (vP 0) (dq (vP 1) (dq (vP 2) (dq iP dz)))))))))
    (dss_cons (sA (i := 4) sc.nd (c_FC_A (de_int)))
    (dss_cons (ds_for (L := []) PassesOwn.never rfl (di_range1 (by rfl) B.range_ (da_of (dq (vP 3) dz))) (gN' (i := 5) sc.nd) (dss_one (sA (i := 4) sc.nd (c_FC_A (de_op op_add b_add (c_FC_P (de_op op_mulG b_mul iP (vP 4))) (c_C_P (de_call h_law_part hr (dq (vP 0) (dq (vP 1) (dq (c_FC_P (de_op op_add b_add (c_FC_P (de_op op_add b_add (vP 2) iP)) (vP 5))) (dq iP dz)))))))))))
    (dss_one (ds_ret (c_FC_R (XN.de_strc (dq (vP 4) dz) (by rfl) B.str_))))))
theorem ok__law_spoilt (D : Dg K mg "_law_spoilt" (top 39) ["_law_script", "_law_at", "_law_text"]) (B : Bl mg) (h_law_part : Has P w K mg base n "_law_part" ["_law_script", "_law_at", "_law_k", "_law_many"] (spD K F__law_part)) : Has P w K mg base (n + 1) "_law_spoilt" ["_law_script", "_law_at", "_law_text"] (spD K F__law_spoilt) := by
  have sc : FnScope ["_law_script", "_law_at", "_law_text", "_law_signs", "_law_place", "_law_sign", "_law_way"] ["_law_script", "_law_at", "_law_text"] (defScope (top 39)) := fsc
  exact dg_ok (fl := [.A, .A, .A, .A, .A, .A, .A]) D sc (by decide) (by decide) fun f cdv A outer s H E hr => dss_cons (sA (i := 3) sc.nd (c_FC_A (de_str)))
    (dss_cons (sA (i := 4) sc.nd (c_C_A (de_call h_law_part hr (dq (vP 0) (dq (vP 1) (dq iP (dq (c_FC_P (de_op op_add b_add (c_FC_P (de_blt call_len_str XW.b_lenS (by rfl) B.len_ PySem.boot_len (dq (vP 2) dz))) iP)) dz)))))))
    (dss_cons (sA (i := 5) sc.nd (c_FC_A (XW.de_ixS (vP 3) (c_C_P (de_call h_law_part hr (dq (vP 0) (dq (vP 1) (dq iP (dq iP dz)))))) (fun _ _ => rfl))))
    (dss_cons (sA (i := 6) sc.nd (c_C_A (de_call h_law_part hr (dq (vP 0) (dq (vP 1) (dq iP (dq iP dz)))))))
    (dss_cons (ds_if (dt_cmp (op_eqD hr.units) b_eq (vP 6) iP (nomark _)) (dss_one (ds_ret (c_FC_R (de_op op_add_str XW.b_addS (c_FC_P (de_op op_add_str XW.b_addS (c_FC_P (XW.de_slS (vP 2) do_none (do_part (vP 4)))) (vP 5))) (c_FC_P (XW.de_slS (vP 2) (do_part (vP 4)) do_none)))))) (dss_nil))
    (dss_cons (ds_if (dt_cmp (op_eqD hr.units) b_eq (vP 6) iP (nomark _)) (dss_one (ds_ret (c_FC_R (de_op op_add_str XW.b_addS (c_FC_P (XW.de_slS (vP 2) do_none (do_part (vP 4)))) (c_FC_P (XW.de_slS (vP 2) (do_part (c_FC_P (de_op op_add b_add (vP 4) iP))) do_none)))))) (dss_nil))
    (dss_one (ds_ret (c_FC_R (de_op op_add_str XW.b_addS (c_FC_P (de_op op_add_str XW.b_addS (c_FC_P (XW.de_slS (vP 2) do_none (do_part (vP 4)))) (vP 5))) (c_FC_P (XW.de_slS (vP 2) (do_part (c_FC_P (de_op op_add b_add (vP 4) iP))) do_none)))))))))))
theorem ok__law_shown (D : Dg K mg "_law_shown" (top 40) ["_law_script", "_law_at"]) (B : Bl mg) (hshown_ratio : Has P w K mg base n "shown_ratio" ["ratio"] (spD K F_shown_ratio)) (hshown_nights : Has P w K mg base n "shown_nights" ["nights"] (spD K F_shown_nights)) (h_law_part : Has P w K mg base n "_law_part" ["_law_script", "_law_at", "_law_k", "_law_many"] (spD K F__law_part)) (h_law_divisor : Has P w K mg base n "_law_divisor" ["_law_one", "_law_other"] (spD K F__law_divisor)) : Has P w K mg base (n + 1) "_law_shown" ["_law_script", "_law_at"] (spD K F__law_shown) := by
  have sc : FnScope ["_law_script", "_law_at", "_law_top", "_law_bottom", "_law_k", "_law_share", "_law_one", "_law_text"] ["_law_script", "_law_at"] (defScope (top 40)) := fsc
  exact dg_ok (fl := [.A, .A, .A, .A, .A, .A, .A, .A]) D sc (by decide) (by decide) fun f cdv A outer s H E hr => dss_cons (sA (i := 2) sc.nd (c_FC_A (de_int)))
    (dss_cons (sA (i := 3) sc.nd (c_FC_A (de_int)))
    (dss_cons (ds_for (L := []) PassesOwn.never rfl (di_range1 (by rfl) B.range_ (da_of (dq iP dz))) (gN' (i := 4) sc.nd) (dss_cons (sA (i := 2) sc.nd (c_FC_A (de_op op_add b_add (c_FC_P (de_op op_mulG b_mul (vP 2) (c_FC_P (de_op op_pow b_pow iP iP)))) (c_FC_P (de_op op_mulG b_mul (c_C_P (de_call h_law_part hr (dq (vP 0) (dq (vP 1) (dq (c_FC_P (de_op op_add b_add iP (vP 4))) (dq (c_FC_P (de_op op_pow b_pow iP iP)) dz)))))) (c_FC_P (de_intc (dq (c_FC_P (de_or (c_FC_P (de_cmp op_gt b_gt (vP 4) iP (nomark _))) (de_one (de_cmp (op_eqD hr.units) b_eq (c_FC_P (de_op op_modN b_mod (vP 1) iP)) iP (nomark _))))) dz) (by rfl) B.int_)))))))
    (dss_one (sA (i := 3) sc.nd (c_FC_A (de_op op_add b_add (c_FC_P (de_op op_mulG b_mul (vP 3) (c_FC_P (de_op op_pow b_pow iP iP)))) (c_C_P (de_call h_law_part hr (dq (vP 0) (dq (vP 1) (dq iP (dq (c_FC_P (de_op op_pow b_pow iP iP)) dz))))))))))))
    (dss_cons (sA (i := 5) sc.nd (c_FC_A (de_blt (call_max2 rfl) b_max2 (by rfl) B.max_ PyProof.Rows.boot_max (dq iP (dq (c_C_P (de_call h_law_divisor hr (dq (vP 2) (dq (c_FC_P (de_op op_add b_add (vP 3) iP)) dz)))) dz)))))
    (dss_cons (sA (i := 6) sc.nd (c_C_A (de_tup rfl (dq (c_FC_C (de_op op_divG b_div (vP 2) (vP 5))) (dq (c_FC_C (de_op op_divG b_div (c_FC_P (de_op op_add b_add (vP 3) iP)) (vP 5))) dz)))))
    (dss_cons (sA (i := 7) sc.nd (c_FC_A (XN.de_strc (dq (c_A_P (dx (vB 6) iP)) dz) (by rfl) B.str_)))
    (dss_cons (ds_if (dt_cmp op_gt b_gt (c_A_P (dx (vB 6) iP)) iP (nomark _)) (dss_one (sA (i := 7) sc.nd (c_FC_A (de_op op_add_str XW.b_addS (c_FC_P (de_op op_add_str XW.b_addS (vP 7) (c_FC_P (de_str)))) (c_FC_P (XN.de_strc (dq (c_A_P (dx (vB 6) iP)) dz) (by rfl) B.str_)))))) (dss_nil))
    (dss_cons (ds_if (dt_w (dw_or (dt_cmp (op_neD hr.units) b_ne (c_C_P (de_call hshown_ratio hr (dq (vP 6) dz))) (vP 7) (nomark _)) (dw_or1 (dt_cmp (op_neD hr.units) b_ne (c_C_P (de_call hshown_ratio hr (dq (c_A_P (de_tup rfl (dq (vA 2) (dq (c_FC_A (de_int)) dz)))) dz))) (c_FC_P (XN.de_strc (dq (vP 2) dz) (by rfl) B.str_)) (nomark _))))) (dss_one (ds_ret (c_FC_R (de_bl)))) (dss_nil))
    (dss_one (ds_ret (c_FC_R (de_cmp (op_eqD hr.units) b_eq (c_C_P (de_call hshown_nights hr (dq (c_A_P (de_tup rfl (dq (vA 2) (dq (vA 3) dz)))) dz))) (c_FC_P (de_op op_add_str XW.b_addS (c_FC_P (de_op op_add_str XW.b_addS (c_FC_P (XN.de_strc (dq (vP 2) dz) (by rfl) B.str_)) (c_FC_P (de_str)))) (c_FC_P (XN.de_strc (dq (vP 3) dz) (by rfl) B.str_)))) (nomark _))))))))))))
theorem fn_law {f : Addr} {fd : FuncData} (Fn : FunD K "law" (top 41) f fd) (B : Bl mg) (h_law_part : Has P w K mg base n "_law_part" ["_law_script", "_law_at", "_law_k", "_law_many"] (spD K F__law_part)) (h_law_read : Has P w K mg base n "_law_read" ["_law_way", "_law_text"] (spD K F__law_read)) (h_law_asked : Has P w K mg base n "_law_asked" ["_law_text"] (spD K F__law_asked)) (h_law_figures : Has P w K mg base n "_law_figures" ["_law_script", "_law_at", "_law_k"] (spD K F__law_figures)) (h_law_spoilt : Has P w K mg base n "_law_spoilt" ["_law_script", "_law_at", "_law_text"] (spD K F__law_spoilt)) (h_law_shown : Has P w K mg base n "_law_shown" ["_law_script", "_law_at"] (spD K F__law_shown)) : FnOk P w K mg base CX0 (n + 1) f fd ["_law_script"] (spD K F_law) := by
  have sc : FnScope ["_law_script", "_law_at", "_law_one", "_law_other", "_law_small", "_law_text", "_law_few", "_law_odd", "_law_way"] ["_law_script"] (defScope (top 41)) := fsc
  exact fun_ok (fl := [.A, .A, .A, .A, .A, .A, .A, .A, .A]) Fn sc (by decide) (by decide) fun f cdv A outer s H E hr => dss_cons (ds_for (L := []) PassesOwn.never rfl (di_range1 (by rfl) B.range_ (da_of (dq (c_FC_P (de_blt (call_max2 rfl) b_max2 (by rfl) B.max_ PyProof.Rows.boot_max (dq iP (dq (c_FC_P (de_blt (call_min2 rfl) b_min2 (by rfl) B.min_ PyProof.Rows.boot_min (dq iP (dq (c_FC_P (de_blt call_len_seq b_len (by rfl) B.len_ PySem.boot_len (dq (vP 0) dz))) dz)))) dz)))) dz))) (gN' (i := 1) sc.nd) (dss_cons (sA (i := 2) sc.nd (c_C_A (de_call h_law_figures hr (dq (vP 0) (dq (vP 1) (dq iP dz))))))
    (dss_cons (sA (i := 3) sc.nd (c_C_A (de_call h_law_figures hr (dq (vP 0) (dq (vP 1) (dq iP dz))))))
    (dss_cons (sA (i := 4) sc.nd (c_FC_A (de_op op_add_str XW.b_addS (c_FC_P (de_op op_add_str XW.b_addS (c_FC_P (XN.de_strc (dq (c_C_P (de_call h_law_part hr (dq (vP 0) (dq (vP 1) (dq iP (dq iP dz)))))) dz) (by rfl) B.str_)) (c_FC_P (de_str)))) (c_FC_P (XN.de_strc (dq (c_C_P (de_call h_law_part hr (dq (vP 0) (dq (vP 1) (dq iP (dq iP dz)))))) dz) (by rfl) B.str_)))))
    (dss_cons (ds_for (L := []) PassesOwn.never rfl (di_list (c_A_B (c_F_A (de_lstA (dq (vA 2) (dq (c_FC_A (de_op op_add_str XW.b_addS (c_FC_P (de_op op_add_str XW.b_addS (vP 2) (c_FC_P (de_str)))) (vP 3))) (dq (c_FC_A (de_op op_add_str XW.b_addS (c_FC_P (de_op op_add_str XW.b_addS (vP 2) (c_FC_P (de_str)))) (vP 3))) (dq (vA 4) (dq (c_FC_A (de_op op_add_str XW.b_addS (c_FC_P (de_op op_add_str XW.b_addS (vP 2) (c_FC_P (de_str)))) (vP 2))) dz))))))))) (gN' (i := 5) sc.nd) (dss_one (ds_if (dt_w (dw_or (dt_not (dt_val (c_C_P (de_call h_law_asked hr (dq (vP 5) dz))))) (dw_or1 (dt_not (dt_val (c_C_P (de_call h_law_asked hr (dq (c_C_P (de_call h_law_spoilt hr (dq (vP 0) (dq (vP 1) (dq (vP 5) dz))))) dz)))))))) (dss_one (ds_ret (c_FC_R (de_bl)))) (dss_nil))))
    (dss_cons (sA (i := 6) sc.nd (c_FC_A (XW.de_mt1 PySem.F.slot_str_join PySem.F.type_str_join XW.mt_join XW.m_join XW.s_join (c_FC_P (de_str)) (c_FC_P (de_comp (L := []) (fl' := [.A, .A, .A]) rfl ["_law_k"] ["_law_script", "_law_at"] [0, 1] (di_range1 (by rfl) B.range_ (da_of (dq (c_C_P (de_call h_law_part hr (dq (vP 0) (dq (vP 1) (dq iP (dq iP dz)))))) dz))) (fun _ _ _ _ _ => gN' (i := 0) (show (["_law_k", "_law_script", "_law_at"] : List Str).Nodup by decide +kernel)) (fun _ _ _ _ _ => pts_yes) (fun _ _ _ _ _ => c_FC_C (XW.de_ixS (c_FC_P (de_str)) (c_C_P (de_call h_law_part hr (dq (vP 1) (dq (vP 2) (dq (c_FC_P (de_op op_add b_add iP (vP 0))) (dq iP dz)))))) (fun _ _ => rfl))))))))
    (dss_one (ds_if (dt_w (dw_or (dt_not (dt_val (c_C_P (de_call h_law_asked hr (dq (vP 6) dz))))) (dw_or1 (dt_not (dt_val (c_C_P (de_call h_law_shown hr (dq (vP 0) (dq (vP 1) dz))))))))) (dss_one (ds_ret (c_FC_R (de_bl)))) (dss_nil)))))))))
    (dss_cons (sA (i := 7) sc.nd (dx (c_A_B (c_FC_A (de_lstC (dq (c_FC_C (de_non)) (dq iC (dq (c_FC_C (de_bl)) (dq (de_tup rfl (dq iC (dq iC dz))) (dq (c_FC_C (de_lstC (dq (c_FC_C (de_str)) dz))) (dq (c_T_C (de_dicT)) (dq (de_tup rfl (dq (c_FC_C (de_str)) (dq (c_FC_C (de_str)) dz))) dz)))))))))) (c_C_P (de_call h_law_part hr (dq (vP 0) (dq iP (dq iP (dq iP dz))))))))
    (dss_cons (ds_for (L := []) PassesOwn.never rfl (di_range1 (by rfl) B.range_ (da_of (dq iP dz))) (gN' (i := 8) sc.nd) (dss_one (ds_if (dt_cmp (op_neD hr.units) b_ne (c_C_P (de_call h_law_read hr (dq (vP 8) (dq (vP 7) dz)))) (c_C_P (de_tup rfl (dq (c_FC_C (de_str)) (dq (c_FC_C (de_bl)) dz)))) (nomark _)) (dss_one (ds_ret (c_FC_R (de_bl)))) (dss_nil))))
    (dss_one (ds_ret (c_C_R (de_and (c_C_P (de_call h_law_asked hr (dq (c_FC_P (de_str)) dz))) (de_and (c_C_P (de_call h_law_asked hr (dq (c_FC_P (de_str)) dz))) (de_and (c_C_P (de_call h_law_asked hr (dq (c_FC_P (de_str)) dz))) (de_one (de_call h_law_asked hr (dq (c_FC_P (de_str)) dz)))))))))))
end
end K91
namespace D3
theorem len0 {p : List PySem.Value → Prop} (h : p []) : ∀ us, us.length = 0 → p us := fun us hl => by
  cases us with
  | nil => exact h
  | cons _ _ => cases hl
theorem lenS {n : Nat} {p : List PySem.Value → Prop} (h : ∀ a us, us.length = n → p (a :: us)) : ∀ us, us.length = n + 1 → p us := fun us hl => by
  cases us with
  | nil => cases hl
  | cons a r => exact h a r (Nat.succ.inj hl)
end D3
namespace K91
open PySem L2 My D3
structure Txt (K : PySem.W.Frag) (mg : Str → Option Value) : Prop where
  d_is_whole : Dg K mg "is_whole" (top 7) ["thing"]
  d_all_whole : Dg K mg "all_whole" (top 8) ["things"]
  d_is_tuple_of : Dg K mg "is_tuple_of" (top 9) ["thing", "many"]
  d_is_pair : Dg K mg "is_pair" (top 10) ["thing"]
  d_greatest_divisor : Dg K mg "greatest_divisor" (top 12) ["one", "other"]
  d_is_ratio : Dg K mg "is_ratio" (top 13) ["thing"]
  d_is_number_text : Dg K mg "is_number_text" (top 19) ["thing"]
  d_read_number : Dg K mg "read_number" (top 20) ["text"]
  d_read_numbers : Dg K mg "read_numbers" (top 21) ["text", "between"]
  d_read_ratio : Dg K mg "read_ratio" (top 22) ["text"]
  d_read_nights : Dg K mg "read_nights" (top 23) ["text"]
  d_shown_number : Dg K mg "shown_number" (top 24) ["number"]
  d_shown_ratio : Dg K mg "shown_ratio" (top 25) ["ratio"]
  d_shown_nights : Dg K mg "shown_nights" (top 26) ["nights"]
  d__law_cell : Dg K mg "_law_cell" (top 28) ["_law_script", "_law_at"]
  d__law_part : Dg K mg "_law_part" (top 29) ["_law_script", "_law_at", "_law_k", "_law_many"]
  d__law_whole : Dg K mg "_law_whole" (top 30) ["_law_found"]
  d__law_number : Dg K mg "_law_number" (top 31) ["_law_text"]
  d__law_divisor : Dg K mg "_law_divisor" (top 32) ["_law_one", "_law_other"]
  d__law_two : Dg K mg "_law_two" (top 33) ["_law_text", "_law_sign"]
  d__law_due : Dg K mg "_law_due" (top 34) ["_law_way", "_law_text"]
  d__law_read : Dg K mg "_law_read" (top 35) ["_law_way", "_law_text"]
  d__law_kinds : Dg K mg "_law_kinds" (top 36) ["_law_way", "_law_found"]
  d__law_asked : Dg K mg "_law_asked" (top 37) ["_law_text"]
  d__law_figures : Dg K mg "_law_figures" (top 38) ["_law_script", "_law_at", "_law_k"]
  d__law_spoilt : Dg K mg "_law_spoilt" (top 39) ["_law_script", "_law_at", "_law_text"]
  d__law_shown : Dg K mg "_law_shown" (top 40) ["_law_script", "_law_at"]
  d_law : Dl K mg "law" "_law_script" (top 41)
  z_NoText : XC.ExcG K mg (fun _ => "text") "NoText" "text" "InnError"
  s_NoText : XC.SuiU K mg (fun _ => "text") "NoText" "text" "InnError" [("NoBook", false), ("NoNumber", false), ("NoRow", false), ("NoText", true)]
  v_ValueError : mg "ValueError" = none
  blt : Bl mg
  c_FIGURES : ∃ t, mg "FIGURES" = some (.str "0123456789" t)
  c_MOST_FIGURES : ∃ t, mg "MOST_FIGURES" = some (.int 10 t)
  c_PIECE : ∃ t, mg "PIECE" = some (.int 1000000000000000000 t)
  c_PIECE_FIGURES : ∃ t, mg "PIECE_FIGURES" = some (.int 18 t)
theorem law_fn {P : Program} {w : World} {K : PySem.W.Frag} {mg : Str → Option Value} {base : Heap} (T : Txt K mg) {f : Addr} {fd : FuncData} (F : FunD K "law" (top 41) f fd) : FnOk P w K mg base CX0 65 f fd ["_law_script"] (spLaw K) := by
  have h_is_whole := ok_is_whole (P := P) (w := w) (base := base) (n := 0) T.d_is_whole T.blt
  have h_greatest_divisor := ok_greatest_divisor (P := P) (w := w) (base := base) (n := 0) T.d_greatest_divisor T.blt
  have h_is_number_text := ok_is_number_text (P := P) (w := w) (base := base) (n := 0) T.d_is_number_text T.blt T.c_FIGURES T.c_MOST_FIGURES
  have h_shown_number := ok_shown_number (P := P) (w := w) (base := base) (n := 0) T.d_shown_number T.blt T.c_PIECE T.c_PIECE_FIGURES
  have h__law_cell := ok__law_cell (P := P) (w := w) (base := base) (n := 0) T.d__law_cell T.blt
  have h__law_whole := ok__law_whole (P := P) (w := w) (base := base) (n := 0) T.d__law_whole T.blt
  have h__law_number := ok__law_number (P := P) (w := w) (base := base) (n := 0) T.d__law_number T.blt
  have h__law_divisor := ok__law_divisor (P := P) (w := w) (base := base) (n := 0) T.d__law_divisor T.blt
  have h_all_whole := ok_all_whole (P := P) (w := w) (base := base) (n := 1) T.d_all_whole T.blt (h_is_whole.mono (by decide))
  have h_shown_ratio := ok_shown_ratio (P := P) (w := w) (base := base) (n := 1) T.d_shown_ratio T.blt (h_shown_number.mono (by decide))
  have h_shown_nights := ok_shown_nights (P := P) (w := w) (base := base) (n := 1) T.d_shown_nights T.blt (h_shown_number.mono (by decide))
  have h__law_part := ok__law_part (P := P) (w := w) (base := base) (n := 1) T.d__law_part T.blt (h__law_cell.mono (by decide))
  have h__law_two := ok__law_two (P := P) (w := w) (base := base) (n := 1) T.d__law_two T.blt (h__law_number.mono (by decide))
  have h__law_kinds := ok__law_kinds (P := P) (w := w) (base := base) (n := 1) T.d__law_kinds T.blt (h__law_whole.mono (by decide))
  have h_is_tuple_of := ok_is_tuple_of (P := P) (w := w) (base := base) (n := 2) T.d_is_tuple_of T.blt (h_all_whole.mono (by decide))
  have x_read_number := okX_read_number (P := P) (w := w) (base := base) (fld := (fun _ => "text")) (n := 0) T.d_read_number T.blt (h_is_number_text.mono (by decide)) T.z_NoText
  have h__law_due := ok__law_due (P := P) (w := w) (base := base) (n := 2) T.d__law_due T.blt (h__law_number.mono (by decide)) (h__law_divisor.mono (by decide)) (h__law_two.mono (by decide))
  have h__law_figures := ok__law_figures (P := P) (w := w) (base := base) (n := 2) T.d__law_figures T.blt (h__law_part.mono (by decide))
  have h__law_spoilt := ok__law_spoilt (P := P) (w := w) (base := base) (n := 2) T.d__law_spoilt T.blt (h__law_part.mono (by decide))
  have h__law_shown := ok__law_shown (P := P) (w := w) (base := base) (n := 2) T.d__law_shown T.blt (h_shown_ratio.mono (by decide)) (h_shown_nights.mono (by decide)) (h__law_part.mono (by decide)) (h__law_divisor.mono (by decide))
  have h_is_pair := ok_is_pair (P := P) (w := w) (base := base) (n := 3) T.d_is_pair T.blt (h_is_tuple_of.mono (by decide))
  have x_read_numbers := okX_read_numbers (P := P) (w := w) (base := base) (fld := (fun _ => "text")) (n := 1) T.d_read_numbers T.blt (x_read_number.mono (by decide)) T.z_NoText
  have h_is_ratio := ok_is_ratio (P := P) (w := w) (base := base) (n := 4) T.d_is_ratio T.blt (h_is_pair.mono (by decide)) (h_greatest_divisor.mono (by decide))
  have x_read_nights := okX_read_nights (P := P) (w := w) (base := base) (fld := (fun _ => "text")) (n := 2) T.d_read_nights T.blt (x_read_numbers.mono (by decide)) T.z_NoText
  have x_read_ratio := okX_read_ratio (P := P) (w := w) (base := base) (fld := (fun _ => "text")) (n := 3) T.d_read_ratio T.blt (h_is_ratio.mono (by decide)) (x_read_numbers.mono (by decide)) T.z_NoText
  have h__law_read := ok__law_read (P := P) (w := w) (base := base) (n := 6) T.d__law_read T.blt (x_read_nights.mono (by decide)) (x_read_number.mono (by decide)) (x_read_ratio.mono (by decide)) T.s_NoText T.v_ValueError
  have h__law_asked := ok__law_asked (P := P) (w := w) (base := base) (n := 7) T.d__law_asked T.blt (h_shown_ratio.mono (by decide)) (h_shown_nights.mono (by decide)) (h__law_due.mono (by decide)) (h__law_read.mono (by decide)) (h__law_kinds.mono (by decide))
  exact ((fn_law (P := P) (w := w) (base := base) (n := 8) F T.blt (h__law_part.mono (by decide)) (h__law_read.mono (by decide)) (h__law_asked.mono (by decide)) (h__law_figures.mono (by decide)) (h__law_spoilt.mono (by decide)) (h__law_shown.mono (by decide))).mono (by decide)).imp (law_imp K91.law_true)
end K91
def PySem.W.Fast.tw967926724581940961 := 0
def PySem.W.Fast.tw5908166026409873729 := 0
def PySem.W.Fast.tw2162462655241714296 := 0
def PySem.W.Fast.tw18156087324405298997 := 0
def PySem.W.Fast.tw17009049786104402031 := 0
def PySem.W.Fast.tw2135137564256867562 := 0
def PySem.W.Fast.tw8737715516904324105 := 0
def PySem.W.Fast.tw900921223753989535 := 0
def PySem.W.Fast.tw15960991129521718496 := 0
def PySem.W.Fast.tw2571057986103018212 := 0
def PySem.W.Fast.tw6633126045911326445 := 0
def PySem.W.Fast.tw7997010032785531165 := 0
def PySem.W.Fast.tw6261896794671095309 := 0
def PySem.W.Fast.tw7377621488101761652 := 0
def PySem.W.Fast.tw6084406723944066596 := 0
def PySem.W.Fast.tw3695127706810828210 := 0
open PySem PySem.W PyProof.Rows
set_option maxRecDepth 100000 in
set_option maxHeartbeats 0 in
theorem PySem.Challenge.cw_nightbook_k91_texts_read_holds : PySem.Challenge.rw_nightbook_k91_texts_read.Holds := by
  w_on; o_law; k_head; (case hw => w_witness2)
  k_fill
  refine L2.walk_ofK (l := PySem.Challenge.rw_nightbook_k91_texts_read) (n := 63) (k := 65) (x := "_law_script") (CX := L2.CX0) (sp := D3.spLaw) rfl (by decide) rfl ⟨rfl, by decide, by decide⟩ (fun w h Y => PySem.W.kIn_of Y) ?F D3.tabs (fun _ _ _ => ⟨(fun _ h => nomatch (show _ ∈ ([] : List (Addr × Str × Pos)) from h)), (fun _ h => nomatch (show _ ∈ ([] : List (Addr × Str × Pos)) from h)), (fun _ h => nomatch (show _ ∈ ([] : List (Addr × Str × Pos)) from h))⟩) (fun _ h => nomatch (show _ ∈ ([] : List (Addr × Str × Pos)) from h)) ?S ?C
  case F =>
    intro w mg fa h KX G hmg
    have T : K91.Txt (L2.KOf KX) mg := by
      dsimp only [L2.KOf]
      have d_is_whole : D3.Dg (L2.KOf KX) mg "is_whole" (K91.top 7) ["thing"] := by
        dsimp only [L2.KOf]
        refine' D3.dg_mk KX G ?b ?a ?l ?c ?k
        (case a => k_is); (case l => k_is); (case c => k_is); (case k => k_is)
        (case b => exact fun _ _ _ _ _ _ => D3.lenS fun _ => D3.len0 rfl)
      have d_all_whole : D3.Dg (L2.KOf KX) mg "all_whole" (K91.top 8) ["things"] := by
        dsimp only [L2.KOf]
        refine' D3.dg_mk KX G ?b ?a ?l ?c ?k
        (case a => k_is); (case l => k_is); (case c => k_is); (case k => k_is)
        (case b => exact fun _ _ _ _ _ _ => D3.lenS fun _ => D3.len0 rfl)
      have d_is_tuple_of : D3.Dg (L2.KOf KX) mg "is_tuple_of" (K91.top 9) ["thing", "many"] := by
        dsimp only [L2.KOf]
        refine' D3.dg_mk KX G ?b ?a ?l ?c ?k
        (case a => k_is); (case l => k_is); (case c => k_is); (case k => k_is)
        (case b => exact fun _ _ _ _ _ _ => D3.lenS fun _ => D3.lenS fun _ => D3.len0 rfl)
      have d_is_pair : D3.Dg (L2.KOf KX) mg "is_pair" (K91.top 10) ["thing"] := by
        dsimp only [L2.KOf]
        refine' D3.dg_mk KX G ?b ?a ?l ?c ?k
        (case a => k_is); (case l => k_is); (case c => k_is); (case k => k_is)
        (case b => exact fun _ _ _ _ _ _ => D3.lenS fun _ => D3.len0 rfl)
      have d_greatest_divisor : D3.Dg (L2.KOf KX) mg "greatest_divisor" (K91.top 12) ["one", "other"] := by
        dsimp only [L2.KOf]
        refine' D3.dg_mk KX G ?b ?a ?l ?c ?k
        (case a => k_is); (case l => k_is); (case c => k_is); (case k => k_is)
        (case b => exact fun _ _ _ _ _ _ => D3.lenS fun _ => D3.lenS fun _ => D3.len0 rfl)
      have d_is_ratio : D3.Dg (L2.KOf KX) mg "is_ratio" (K91.top 13) ["thing"] := by
        dsimp only [L2.KOf]
        refine' D3.dg_mk KX G ?b ?a ?l ?c ?k
        (case a => k_is); (case l => k_is); (case c => k_is); (case k => k_is)
        (case b => exact fun _ _ _ _ _ _ => D3.lenS fun _ => D3.len0 rfl)
      have d_is_number_text : D3.Dg (L2.KOf KX) mg "is_number_text" (K91.top 19) ["thing"] := by
        dsimp only [L2.KOf]
        refine' D3.dg_mk KX G ?b ?a ?l ?c ?k
        (case a => k_is); (case l => k_is); (case c => k_is); (case k => k_is)
        (case b => exact fun _ _ _ _ _ _ => D3.lenS fun _ => D3.len0 rfl)
      have d_read_number : D3.Dg (L2.KOf KX) mg "read_number" (K91.top 20) ["text"] := by
        dsimp only [L2.KOf]
        refine' D3.dg_mk KX G ?b ?a ?l ?c ?k
        (case a => k_is); (case l => k_is); (case c => k_is); (case k => k_is)
        (case b => exact fun _ _ _ _ _ _ => D3.lenS fun _ => D3.len0 rfl)
      have d_read_numbers : D3.Dg (L2.KOf KX) mg "read_numbers" (K91.top 21) ["text", "between"] := by
        dsimp only [L2.KOf]
        refine' D3.dg_mk KX G ?b ?a ?l ?c ?k
        (case a => k_is); (case l => k_is); (case c => k_is); (case k => k_is)
        (case b => exact fun _ _ _ _ _ _ => D3.lenS fun _ => D3.lenS fun _ => D3.len0 rfl)
      have d_read_ratio : D3.Dg (L2.KOf KX) mg "read_ratio" (K91.top 22) ["text"] := by
        dsimp only [L2.KOf]
        refine' D3.dg_mk KX G ?b ?a ?l ?c ?k
        (case a => k_is); (case l => k_is); (case c => k_is); (case k => k_is)
        (case b => exact fun _ _ _ _ _ _ => D3.lenS fun _ => D3.len0 rfl)
      have d_read_nights : D3.Dg (L2.KOf KX) mg "read_nights" (K91.top 23) ["text"] := by
        dsimp only [L2.KOf]
        refine' D3.dg_mk KX G ?b ?a ?l ?c ?k
        (case a => k_is); (case l => k_is); (case c => k_is); (case k => k_is)
        (case b => exact fun _ _ _ _ _ _ => D3.lenS fun _ => D3.len0 rfl)
      have d_shown_number : D3.Dg (L2.KOf KX) mg "shown_number" (K91.top 24) ["number"] := by
        dsimp only [L2.KOf]
        refine' D3.dg_mk KX G ?b ?a ?l ?c ?k
        (case a => k_is); (case l => k_is); (case c => k_is); (case k => k_is)
        (case b => exact fun _ _ _ _ _ _ => D3.lenS fun _ => D3.len0 rfl)
      have d_shown_ratio : D3.Dg (L2.KOf KX) mg "shown_ratio" (K91.top 25) ["ratio"] := by
        dsimp only [L2.KOf]
        refine' D3.dg_mk KX G ?b ?a ?l ?c ?k
        (case a => k_is); (case l => k_is); (case c => k_is); (case k => k_is)
        (case b => exact fun _ _ _ _ _ _ => D3.lenS fun _ => D3.len0 rfl)
      have d_shown_nights : D3.Dg (L2.KOf KX) mg "shown_nights" (K91.top 26) ["nights"] := by
        dsimp only [L2.KOf]
        refine' D3.dg_mk KX G ?b ?a ?l ?c ?k
        (case a => k_is); (case l => k_is); (case c => k_is); (case k => k_is)
        (case b => exact fun _ _ _ _ _ _ => D3.lenS fun _ => D3.len0 rfl)
      have d__law_cell : D3.Dg (L2.KOf KX) mg "_law_cell" (K91.top 28) ["_law_script", "_law_at"] := by
        dsimp only [L2.KOf]
        refine' D3.dg_mk KX G ?b ?a ?l ?c ?k
        (case a => k_is); (case l => k_is); (case c => k_is); (case k => k_is)
        (case b => exact fun _ _ _ _ _ _ => D3.lenS fun _ => D3.lenS fun _ => D3.len0 rfl)
      have d__law_part : D3.Dg (L2.KOf KX) mg "_law_part" (K91.top 29) ["_law_script", "_law_at", "_law_k", "_law_many"] := by
        dsimp only [L2.KOf]
        refine' D3.dg_mk KX G ?b ?a ?l ?c ?k
        (case a => k_is); (case l => k_is); (case c => k_is); (case k => k_is)
        (case b => exact fun _ _ _ _ _ _ => D3.lenS fun _ => D3.lenS fun _ => D3.lenS fun _ => D3.lenS fun _ => D3.len0 rfl)
      have d__law_whole : D3.Dg (L2.KOf KX) mg "_law_whole" (K91.top 30) ["_law_found"] := by
        dsimp only [L2.KOf]
        refine' D3.dg_mk KX G ?b ?a ?l ?c ?k
        (case a => k_is); (case l => k_is); (case c => k_is); (case k => k_is)
        (case b => exact fun _ _ _ _ _ _ => D3.lenS fun _ => D3.len0 rfl)
      have d__law_number : D3.Dg (L2.KOf KX) mg "_law_number" (K91.top 31) ["_law_text"] := by
        dsimp only [L2.KOf]
        refine' D3.dg_mk KX G ?b ?a ?l ?c ?k
        (case a => k_is); (case l => k_is); (case c => k_is); (case k => k_is)
        (case b => exact fun _ _ _ _ _ _ => D3.lenS fun _ => D3.len0 rfl)
      have d__law_divisor : D3.Dg (L2.KOf KX) mg "_law_divisor" (K91.top 32) ["_law_one", "_law_other"] := by
        dsimp only [L2.KOf]
        refine' D3.dg_mk KX G ?b ?a ?l ?c ?k
        (case a => k_is); (case l => k_is); (case c => k_is); (case k => k_is)
        (case b => exact fun _ _ _ _ _ _ => D3.lenS fun _ => D3.lenS fun _ => D3.len0 rfl)
      have d__law_two : D3.Dg (L2.KOf KX) mg "_law_two" (K91.top 33) ["_law_text", "_law_sign"] := by
        dsimp only [L2.KOf]
        refine' D3.dg_mk KX G ?b ?a ?l ?c ?k
        (case a => k_is); (case l => k_is); (case c => k_is); (case k => k_is)
        (case b => exact fun _ _ _ _ _ _ => D3.lenS fun _ => D3.lenS fun _ => D3.len0 rfl)
      have d__law_due : D3.Dg (L2.KOf KX) mg "_law_due" (K91.top 34) ["_law_way", "_law_text"] := by
        dsimp only [L2.KOf]
        refine' D3.dg_mk KX G ?b ?a ?l ?c ?k
        (case a => k_is); (case l => k_is); (case c => k_is); (case k => k_is)
        (case b => exact fun _ _ _ _ _ _ => D3.lenS fun _ => D3.lenS fun _ => D3.len0 rfl)
      have d__law_read : D3.Dg (L2.KOf KX) mg "_law_read" (K91.top 35) ["_law_way", "_law_text"] := by
        dsimp only [L2.KOf]
        refine' D3.dg_mk KX G ?b ?a ?l ?c ?k
        (case a => k_is); (case l => k_is); (case c => k_is); (case k => k_is)
        (case b => exact fun _ _ _ _ _ _ => D3.lenS fun _ => D3.lenS fun _ => D3.len0 rfl)
      have d__law_kinds : D3.Dg (L2.KOf KX) mg "_law_kinds" (K91.top 36) ["_law_way", "_law_found"] := by
        dsimp only [L2.KOf]
        refine' D3.dg_mk KX G ?b ?a ?l ?c ?k
        (case a => k_is); (case l => k_is); (case c => k_is); (case k => k_is)
        (case b => exact fun _ _ _ _ _ _ => D3.lenS fun _ => D3.lenS fun _ => D3.len0 rfl)
      have d__law_asked : D3.Dg (L2.KOf KX) mg "_law_asked" (K91.top 37) ["_law_text"] := by
        dsimp only [L2.KOf]
        refine' D3.dg_mk KX G ?b ?a ?l ?c ?k
        (case a => k_is); (case l => k_is); (case c => k_is); (case k => k_is)
        (case b => exact fun _ _ _ _ _ _ => D3.lenS fun _ => D3.len0 rfl)
      have d__law_figures : D3.Dg (L2.KOf KX) mg "_law_figures" (K91.top 38) ["_law_script", "_law_at", "_law_k"] := by
        dsimp only [L2.KOf]
        refine' D3.dg_mk KX G ?b ?a ?l ?c ?k
        (case a => k_is); (case l => k_is); (case c => k_is); (case k => k_is)
        (case b => exact fun _ _ _ _ _ _ => D3.lenS fun _ => D3.lenS fun _ => D3.lenS fun _ => D3.len0 rfl)
      have d__law_spoilt : D3.Dg (L2.KOf KX) mg "_law_spoilt" (K91.top 39) ["_law_script", "_law_at", "_law_text"] := by
        dsimp only [L2.KOf]
        refine' D3.dg_mk KX G ?b ?a ?l ?c ?k
        (case a => k_is); (case l => k_is); (case c => k_is); (case k => k_is)
        (case b => exact fun _ _ _ _ _ _ => D3.lenS fun _ => D3.lenS fun _ => D3.lenS fun _ => D3.len0 rfl)
      have d__law_shown : D3.Dg (L2.KOf KX) mg "_law_shown" (K91.top 40) ["_law_script", "_law_at"] := by
        dsimp only [L2.KOf]
        refine' D3.dg_mk KX G ?b ?a ?l ?c ?k
        (case a => k_is); (case l => k_is); (case c => k_is); (case k => k_is)
        (case b => exact fun _ _ _ _ _ _ => D3.lenS fun _ => D3.lenS fun _ => D3.len0 rfl)
      have d_law : D3.Dl (L2.KOf KX) mg "law" "_law_script" (K91.top 41) := by
        dsimp only [L2.KOf]
        refine' D3.dl_mk KX G ?b ?a ?l ?c ?k
        (case a => k_is); (case l => k_is); (case c => k_is); (case k => k_is)
        (case b => exact fun _ _ _ _ _ _ u => rfl)
      have s_NoText : XC.SuiU (L2.KOf KX) mg (fun _ => "text") "NoText" "text" "InnError" [("NoBook", false), ("NoNumber", false), ("NoRow", false), ("NoText", true)] := by
        dsimp only [L2.KOf]
        refine' XC.suiU_mk (XC.exc_mk KX G ?a ?kp ?lC ?lI ?lN ?oN ?lNI ?oNI ?i1 ?i2 ?s1 ?s2 ?n1 ?n2 ?hB ?lk ?hcd ?sc ?l1 ?l2 ?hb ?ne ?nd ?nc) ?fc (PySem.W.mg_of KX G ?m) ⟨⟨?e1, ?e2, ?e3⟩, ?k2, ?k3, ?k4, ?k5, ?k6⟩ ⟨⟨?e4, ?e5, ?e6⟩, ?a2, ?a3⟩ (XC.tsk_cons (PySem.W.mg_of KX G ?t0) ?r0 (XC.tsk_cons (PySem.W.mg_of KX G ?t1) ?r1 (XC.tsk_cons (PySem.W.mg_of KX G ?t2) ?r2 (XC.tsk_cons (PySem.W.mg_of KX G ?t3) ?r3 XC.tsk_nil))))
        (case a => k_is); (case kp => k_is); (case lC => k_is); (case lI => k_is); (case lN => k_is); (case lNI => k_is); (case oN => rfl); (case oNI => rfl)
        (case i1 => k_is); (case i2 => k_is); (case s1 => k_is); (case s2 => k_is); (case n1 => k_is); (case n2 => k_is)
        (case hB => rw [typeLookup_type, builtinLookup_eq_fast]; kernel_rfl)
        (case lk => k_is); (case hcd => k_is); (case sc => exact ⟨rfl, rfl, rfl, by decide +kernel, rfl, by decide +kernel, by decide +kernel⟩); (case l1 => rfl); (case l2 => rfl)
        (case hb => exact fun _ _ => rfl); (case ne => decide); (case nd => decide); (case nc => decide)
        (case m => k_is); (case fc => rfl)
        (case e1 => kernel_rfl); (case e2 => kernel_rfl); (case e3 => kernel_rfl); (case k2 => kernel_rfl); (case k3 => kernel_rfl); (case k4 => kernel_rfl); (case k5 => kernel_rfl); (case k6 => kernel_rfl)
        (case e4 => kernel_rfl); (case e5 => kernel_rfl); (case e6 => kernel_rfl); (case a2 => kernel_rfl); (case a3 => kernel_rfl)
        (case t0 => k_is); (case r0 => kernel_rfl); (case t1 => k_is); (case r1 => kernel_rfl); (case t2 => k_is); (case r2 => kernel_rfl); (case t3 => k_is); (case r3 => kernel_rfl)
      have z_NoText := XC.SuiU.up s_NoText
      have v_ValueError : mg "ValueError" = none := by
        refine' PySem.W.mg_none_of KX G ?z
        (case z => k_is)
      have b_len : mg "len" = none := by
        refine' PySem.W.mg_none_of KX G ?z
        (case z => k_is)
      have b_range : mg "range" = none := by
        refine' PySem.W.mg_none_of KX G ?z
        (case z => k_is)
      have b_abs : mg "abs" = none := by
        refine' PySem.W.mg_none_of KX G ?z
        (case z => k_is)
      have b_isinstance : mg "isinstance" = none := by
        refine' PySem.W.mg_none_of KX G ?z
        (case z => k_is)
      have b_int : mg "int" = none := by
        refine' PySem.W.mg_none_of KX G ?z
        (case z => k_is)
      have b_bool : mg "bool" = none := by
        refine' PySem.W.mg_none_of KX G ?z
        (case z => k_is)
      have b_tuple : mg "tuple" = none := by
        refine' PySem.W.mg_none_of KX G ?z
        (case z => k_is)
      have b_list : mg "list" = none := by
        refine' PySem.W.mg_none_of KX G ?z
        (case z => k_is)
      have b_str : mg "str" = none := by
        refine' PySem.W.mg_none_of KX G ?z
        (case z => k_is)
      have b_max : mg "max" = none := by
        refine' PySem.W.mg_none_of KX G ?z
        (case z => k_is)
      have b_min : mg "min" = none := by
        refine' PySem.W.mg_none_of KX G ?z
        (case z => k_is)
      have b_sorted : mg "sorted" = none := by
        refine' PySem.W.mg_none_of KX G ?z
        (case z => k_is)
      have b_sum : mg "sum" = none := by
        refine' PySem.W.mg_none_of KX G ?z
        (case z => k_is)
      have b_reversed : mg "reversed" = none := by
        refine' PySem.W.mg_none_of KX G ?z
        (case z => k_is)
      have b_enumerate : mg "enumerate" = none := by
        refine' PySem.W.mg_none_of KX G ?z
        (case z => k_is)
      have b_zip : mg "zip" = none := by
        refine' PySem.W.mg_none_of KX G ?z
        (case z => k_is)
      have b_set : mg "set" = none := by
        refine' PySem.W.mg_none_of KX G ?z
        (case z => k_is)
      have b_any : mg "any" = none := by
        refine' PySem.W.mg_none_of KX G ?z
        (case z => k_is)
      have b_all : mg "all" = none := by
        refine' PySem.W.mg_none_of KX G ?z
        (case z => k_is)
      have b_dict : mg "dict" = none := by
        refine' PySem.W.mg_none_of KX G ?z
        (case z => k_is)
      have c_FIGURES : ∃ t, mg "FIGURES" = some (.str "0123456789" t) := by
        refine' ⟨?t_FIGURES, PySem.W.mg_of KX G ?z⟩
        (case z => first | rfl | kernel_rfl)
      have c_MOST_FIGURES : ∃ t, mg "MOST_FIGURES" = some (.int 10 t) := by
        refine' ⟨?t_MOST_FIGURES, PySem.W.mg_of KX G ?z⟩
        (case z => rfl)
      have c_PIECE : ∃ t, mg "PIECE" = some (.int 1000000000000000000 t) := by
        refine' ⟨?t_PIECE, PySem.W.mg_of KX G ?z⟩
        (case z => rfl)
      have c_PIECE_FIGURES : ∃ t, mg "PIECE_FIGURES" = some (.int 18 t) := by
        refine' ⟨?t_PIECE_FIGURES, PySem.W.mg_of KX G ?z⟩
        (case z => rfl)
      exact ⟨d_is_whole, d_all_whole, d_is_tuple_of, d_is_pair, d_greatest_divisor, d_is_ratio, d_is_number_text, d_read_number, d_read_numbers, d_read_ratio, d_read_nights, d_shown_number, d_shown_ratio, d_shown_nights, d__law_cell, d__law_part, d__law_whole, d__law_number, d__law_divisor, d__law_two, d__law_due, d__law_read, d__law_kinds, d__law_asked, d__law_figures, d__law_spoilt, d__law_shown, d_law, z_NoText, s_NoText, v_ValueError, ⟨b_len, b_range, b_abs, b_isinstance, b_int, b_bool, b_tuple, b_list, b_str, b_max, b_min, b_sorted, b_sum, b_reversed, b_enumerate, b_zip, b_set, b_any, b_all, b_dict⟩, c_FIGURES, c_MOST_FIGURES, c_PIECE, c_PIECE_FIGURES⟩
    obtain ⟨f, fd, F, b, m⟩ := T.d_law.ex
    have e0 := hmg.symm.trans m
    cases e0
    exact ⟨fd, b, fun base kb nb => K91.law_fn T F⟩
  case S => exact fun K H a ns hl hO hS => ⟨a, ns, hO, rfl, hS, hl, fun _ => rfl⟩
  case C => exact fun _ _ _ _ z => z
